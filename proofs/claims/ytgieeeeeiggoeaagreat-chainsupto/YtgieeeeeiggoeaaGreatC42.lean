import Derived.Test.YtgieeeeeiggoeaaGreatC41
import Derived.Test.YtgieeeeeiggoeaaGreatC39
set_option maxRecDepth 100000
set_option maxHeartbeats 2000000
namespace Go.Proofs.YtgieeeeeiggoeaaGreat
open Go.RowKit Go.Shelf
theorem MsgsOwn.plus {W:World}{base base2:Nat}{v v2:Value}{ms ms2:List Msg}(h:MsgsOwn W base v ms)(h2:MsgsOwn W base2 v2 ms2)(hl:ms.length+ms2.length≤100000)(hb:base≤W.heap.size) :
  ∃ v' W',(∀ ty,(Builtin.append_ #[97,97] ty #[v,v2]).run Tryz.prog W=.ok v' W')∧MsgsOwn W' base v' (ms++ms2)∧Below base W W'∧Moved W W' (fun k=>v.ownBlock=some k):=by
 obtain⟨ws,a1,a2,a3⟩:=h;obtain⟨ws2,b1,b2,b3⟩:=h2;obtain⟨v3,W3,hr,ho,hg, -⟩:=append_msgs W base base2 v v2 ms.length ms2.length ws ws2 a2 b2 b3 hl hb
 have hM:Moved W W3 (fun k=>v.ownBlock=some k):=(Moved.refl W _).grown hg (fun k _ e=>e)
 refine⟨v3,W3,hr,⟨ws++ws2,by rw[List.map_append,a1,b1],by rw[List.length_append];exact ho,fun t ht => ?_⟩,hM.to_below (fun k e=>(a2.lt k e).1) hb,hM⟩
 have key:IntOwn W t.2.1 t.1.mems∧LogOwn W t.2.2 t.1.log:=by
  rcases List.mem_append.1 ht with q|q
  ·exact a3 t q
  ·exact b3 t q
 exact⟨hM.owns key.1 fun k hk hS=>otw key.1 a2 (by decide) k hk hS,hM.owns key.2 fun k hk hS=>otw key.2 a2 (by decide) k hk hS⟩
theorem placesFrom_snoc (p k:Nat)(h:p≤k):placesFrom p (k+1)=placesFrom p k++[k]:=by
 unfold placesFrom
 rw[show k+1-p=(k-p)+1 by omega,List.range_succ,List.map_append]
 simp
 omega
theorem placesFrom_self (p:Nat):placesFrom p p=[]:=by unfold placesFrom;simp
theorem placesFrom_len (p n:Nat):(placesFrom p n).length=n-p:=by unfold placesFrom;simp
theorem live_rank {r:Rep}{own:Int}(hn:r.mems.Nodup):(decide (0≤rankOf r.mems own) && decide (r.lock≤r.epoch))=r.live own:=by
 unfold Rep.live
 by_cases h:own∈r.mems
 ·rw[rankOf_yes hn h,decide_eq_true (by omega:(0:Int)≤_),decide_eq_true h]
 ·rw[rankOf_no h,decide_eq_false h]
  rfl
theorem last_rank {l:List Int}{own:Int}(hn:l.Nodup)(h:own∈l):(rankOf l own=(l.length:Int)-1)↔nextOf l own=none:=by
 have hi:=List.idxOf_lt_length_of_mem h
 rw[rankOf_yes hn h];unfold nextOf
 rw[List.getElem?_eq_none_iff]
 omega
theorem refRepTicks_any (b:Nat)(r:Rep)(vm vl:Value)(own:Int)(w:World)(h:RRp w b r vm vl)(hl:r.mems.length≤5)(hn:r.mems.Nodup)(hp:∀ x∈r.mems,0≤x)(hb24:r.log.length≤24)(hcm:r.commit≤r.log.length) :
  Calls Tryz.prog 167 #[.pointer (some ⟨b,0,none⟩),.int .i64 own] w fun e w'=>∃ v,e=.returned v∧MsgsOwn w' w.heap.size v (r.tick own)∧Below w.heap.size w w':=by
 have HS:=hideA (refStands_any b r vm vl own w h hl)
 rw[live_rank hn] at HS
 have HT:Hid (r.tick own=if r.live own then (match nextOf r.mems own with|none=>r.acks own|some nx=>(placesFrom r.commit r.log.length).map (r.forward own nx)) else []):=hideA rfl
 have hrg:=rankTo_range r.mems own r.mems.length
 have hro:rankTo r.mems own r.mems.length=rankOf r.mems own:=rfl
 rw[hro] at hrg
 have HR:=hideA h;obtain⟨am,cm,hvm, -⟩:=h.mems;subst hvm;obtain⟨al,cl,hvl, -⟩:=h.log;subst hvl;have c3:∀ q,(w.drewN q).cell? ⟨b,3,none⟩=some (.slice am r.mems.length cm):=fun q=>h.c3
 have HAk:Hid (∀ W,Below w.heap.size w W→Calls Tryz.prog 206 #[.pointer (some ⟨b,0,none⟩),.int .i64 own] W fun e w'=>∃ v,e=.returned v∧MsgsOwn w' W.heap.size v (r.acks own)∧Below W.heap.size W w'):=hideA fun W hb=>refAcks_any b r _ _ own W (HR.out.below hb) hl hn hp
 have HFw:Hid (∀ W p,Below w.heap.size w W→p<r.log.length→Calls Tryz.prog 207 #[.pointer (some ⟨b,0,none⟩),.int .i64 own,.int .i64 (p:Int)] W fun e w'=>∃ vl',e=.returned (mval (r.forward own (nbOf r.mems own 1) p) (.slice none 0 0) vl')∧w'.ownsRow W.heap.size 42 5 vl' 1 (ints (entsNums [r.log.getD p Ent.zero]))∧Below W.heap.size W w'):=hideA fun W p hb hpl=>refForward_any b r _ _ own p W (HR.out.below hb) hl hpl hb24
 cases hlv:r.live own with
 | false =>
  have HV:Hid (r.tick own=[]):=hideA (by rw[HT.out,hlv];rfl)
  rw[hlv] at HS
  clear h;go_enter Tryz.func167,Tryz.ntmps167
  go_wp2_with fail;refine HS.out.mono ?_
  rintro e W ⟨rfl,q,rfl⟩;go_wp2_with fail;go_ret;rw[HV.out];exact⟨_,rfl,MsgsOwn.nil _ _,below_drewN (Below.refl _ _) q⟩
 | true =>
  have hmem:own∈r.mems:=by
   unfold Rep.live at hlv
   rw[Bool.and_eq_true,decide_eq_true_eq] at hlv
   exact hlv.1
  have hlast:=last_rank hn hmem
  have hnx:=nbOf_next hn hmem
  rw[hlv] at HS
  have HTl:=hideA (And.intro HT.out hlv)
  have c6:=h.c6
  have c4:=h.c4
  clear h hlv HT;generalize rankOf r.mems own=R at *
  have hwr:IntKind.i64.wrap ((r.mems.length:Int)-1)=(r.mems.length:Int)-1:=by rw[IntKind.wrap_i64];omega
  by_cases hR:R=(r.mems.length:Int)-1
  ·have HV:Hid (r.tick own=r.acks own):=hideA (by rw[HTl.out.1,HTl.out.2,hlast.1 hR];rfl)
   have hR':(R == (r.mems.length:Int)-1)=true:=by simp[hR]
   clear hlast hnx;go_enter Tryz.func167,Tryz.ntmps167
   go_wp2_with fail;refine HS.out.mono ?_
   rintro e W ⟨rfl,q,rfl⟩;go_wp2_with fail;refine (HAk.out _ (below_drewN (Below.refl _ _) q)).mono ?_
   rintro e W ⟨v,rfl,hm,hb⟩;obtain⟨a9,c9,hv9⟩:=hm.shape;subst hv9;have HM:=hideA (And.intro hm hb)
   clear hm hb;go_wp2_with fail;go_ret;rw[HV.out];exact⟨_,rfl,HM.out.1,(below_drewN (Below.refl w.heap.size w) q).trans HM.out.2⟩
  ·obtain⟨nx,hnx2⟩:∃ nx,nextOf r.mems own=some nx:=by
    cases e:nextOf r.mems own with
    | none=>exact absurd (hlast.2 e) hR
    | some nx=>exact⟨nx,rfl⟩
   rw[hnx2] at hnx
   have hnx3:nbOf r.mems own 1=nx:=hnx
   rw[hnx3] at HFw
   have HV:Hid (r.tick own=(placesFrom r.commit r.log.length).map (r.forward own nx)):=hideA (by rw[HTl.out.1,HTl.out.2,hnx2];rfl)
   have hR':(R == (r.mems.length:Int)-1)=false:=by simp[hR]
   clear hlast hnx hnx2 hnx3;go_enter Tryz.func167,Tryz.ntmps167
   go_wp2_with fail;refine HS.out.mono ?_
   rintro e W ⟨rfl,q,rfl⟩;go_wp2_with fail;go_loopw [7,8] (fun v i wr=>∃ k:Nat,r.commit≤k∧k≤r.log.length∧i=.int .i64 k∧MsgsOwn wr w.heap.size v ((placesFrom r.commit k).map (r.forward own nx))∧Below w.heap.size w wr) (fun _ i _=>r.log.length-(intOf i).toNat)
   case atStart=>exact⟨r.commit,Nat.le_refl _,hcm,rfl,by rw[placesFrom_self];exact MsgsOwn.nil _ _,below_drewN (Below.refl _ _) q⟩
   case round =>
    obtain⟨k,hk1,hk2,rfl,hm,hb⟩:=hrel;obtain⟨a9,c9,hv9⟩:=hm.shape;subst hv9;have c4':=cell_later hb c4
    have HM:=hideA (And.intro hm hb)
    by_cases hlt:k<r.log.length
    ·have hk3:(k:Int)<(r.log.length:Int):=by omega
     have HC:Hid (Calls Tryz.prog 207 #[.pointer (some ⟨b,0,none⟩),.int .i64 own,.int .i64 (k:Int)] wr fun e w'=>∃ vl',e=.returned (mval (r.forward own nx k) (.slice none 0 0) vl')∧∃ v3 W3,(∀ ty,(Builtin.append_ #[97,97] ty #[.slice a9 ((placesFrom r.commit k).map (r.forward own nx)).length c9,.slice (some ⟨w'.heap.size,0,none⟩) 1 1]).run Tryz.prog (w'.alloc (.cells (mcells (r.forward own nx k,.slice none 0 0,vl')).toArray 134))=.ok v3 W3)∧(∃ a3 n3 c3,v3=.slice a3 n3 c3)∧MsgsOwn W3 w.heap.size v3 ((placesFrom r.commit (k+1)).map (r.forward own nx))∧Below w.heap.size w W3):=hideA (by
      refine (HFw.out wr k hb hlt).mono ?_
      rintro e w' ⟨vl',rfl,ho,hb'⟩;refine⟨vl',rfl, ?_⟩
      have hb2:=hb.trans (hb'.mono hb.size)
      have hbA:Below w'.heap.size w' (w'.alloc (.cells (mcells (r.forward own nx k,.slice none 0 0,vl')).toArray 134)):=(Below.refl _ w').alloc (Nat.le_refl _) _
      have hone:MsgsOwn (w'.alloc (.cells (mcells (r.forward own nx k,.slice none 0 0,vl')).toArray 134)) 0 (.slice (some ⟨w'.heap.size,0,none⟩) 1 1) [r.forward own nx k]:=MsgsOwn.one _ (.slice none 0 0) vl' (hnw _ _) (Nat.zero_le _) (World.ownsRow_nil _ _ _ _) (obs (okp ho fun z _ hz=>hbA.block z hz) (Nat.zero_le _))
      obtain⟨v3,W3,hr,h3,hb3, -⟩:=MsgsOwn.plus ((hm.below hb').below hbA) hone (by rw[List.length_map,placesFrom_len];simp;omega) (Nat.le_trans hb2.size hbA.size)
      obtain⟨a3,c3,hv3⟩:=h3.shape;refine⟨v3,W3,hr,⟨_,_,_,hv3⟩, ?_,(hb2.trans (hbA.mono hb2.size)).trans hb3⟩
      rw[placesFrom_snoc _ _ hk1,List.map_append];exact h3)
     have hml:(mval (r.forward own nx k))=fun a b=>.agg (mcells (r.forward own nx k,a,b)).toArray:=by
      funext a b
      rfl
     clear hm;go_wp2_with fail;refine HC.out.mono ?_
     rintro e Y ⟨vl',rfl,v3,W3,hrun,⟨a3,n3,c3',hv3⟩,hm3,hb3⟩;subst hv3;have HQ:=hideA (And.intro hm3 hb3)
     have HRn:=hideA hrun;unfold mval
     clear hm3 hb3 hrun hml;go_wp2_with (at_builtin;refine wpList_append_run rfl (.tmp 43) (.tmp 48) 97 rfl _ _ _ _ (by simp[Act.eval]) (by simp[Act.eval]) HRn.out ?_)
     go_wp2_with fail;go_roundw
     case rel=>exact⟨k+1,by omega,by omega,by go_num,HQ.out.1,HQ.out.2⟩
     case measure=>simp[intOf];omega
    ·obtain rfl:k=r.log.length:=by omega
     clear hm hb;go_wp2_with fail;go_ret;rw[HV.out];exact⟨_,rfl,HM.out.1,HM.out.2⟩
def Gr (F:Nat→Prop)(w w':World)(k:Nat):Prop:=F k∨(w.heap.size≤k∧k<w'.heap.size)
theorem InF.new {F:Nat→Prop}{w w':World}{base size n:Nat}{e:TypeId}{v:Value}{xs:List Value}(h:w'.ownsRow base e size v n xs)(hb:w.heap.size≤base):InF (Gr F w w') v:=fun k hk =>
 .inr ⟨Nat.le_trans hb (h.lt k hk).1,(Array.getElem?_eq_some_iff.1 (obc h hk).choose_spec.1).1⟩
theorem repPut (c:Clu)(i j:Nat)(hi:i<c.reps.length)(r:Rep):(c.setRep i r).rep j=if j=i then r else c.rep j:=by
 unfold Clu.setRep Clu.rep
 simp only [Int.toNat_natCast]
 rw[List.getD_eq_getElem?_getD,List.getD_eq_getElem?_getD,List.getElem?_set]
 by_cases e:i=j
 ·subst e
  simp[hi]
 ·rw[if_neg e,if_neg (fun q=>e q.symm)]
theorem accPut (c:Clu)(i j:Nat)(hi:i<c.accs.length)(a:Acc):(c.setAcc (100+(i:Int)) a).acc (100+(j:Int))=if j=i then a else c.acc (100+(j:Int)):=by
 unfold Clu.setAcc Clu.acc
 have e1:(100+(i:Int)-100).toNat=i:=by omega
 have e2:(100+(j:Int)-100).toNat=j:=by omega
 rw[e1,e2,List.getD_eq_getElem?_getD,List.getD_eq_getElem?_getD,List.getElem?_set]
 by_cases e:i=j
 ·subst e
  simp[hi]
 ·rw[if_neg e,if_neg (fun q=>e q.symm)]
theorem masPut (c:Clu)(i j:Nat)(hi:i<c.mass.length)(s:Mas):(c.setMas (200+(i:Int)) s).mas (200+(j:Int))=if j=i then s else c.mas (200+(j:Int)):=by
 unfold Clu.setMas Clu.mas
 have e1:(200+(i:Int)-200).toNat=i:=by omega
 have e2:(200+(j:Int)-200).toNat=j:=by omega
 rw[e1,e2,List.getD_eq_getElem?_getD,List.getD_eq_getElem?_getD,List.getElem?_set]
 by_cases e:i=j
 ·subst e
  simp[hi]
 ·rw[if_neg e,if_neg (fun q=>e q.symm)]
section
variable {w w':World} {F F':Nat→Prop} {y:Nat} {c:Clu} {br ba bm:Nat→Nat} {vr va vm vb vt:Value} {vv vc:Nat→Value}
theorem RefIn.repTo (h:RefIn w F y c br ba bm vr va vm vb vt vv vc)(i:Nat)(hi:i<c.reps.length)(r:Rep)(hM:Moved w w' (fun k=>k=br i))(hF:∀ k,F k→F' k)(hlt:∀ k,F' k→k<w'.heap.size)(hr:RRepAt w' F' (br i) r) :
  RefIn w' F' y (c.setRep i r) br ba bm vr va vm vb vt vv vc:=by
 have hT:Typed w (fun k=>k=br i) [199]:=fun k hk _=>by
  obtain⟨_,_,q,_⟩:=h.reps i hi
  exact⟨_,_,hk ▸ q,List.mem_singleton.2 rfl⟩
 have hl:(c.setRep i r).reps.length=c.reps.length:=List.length_set
 have row:∀ {base size n:Nat} {e:TypeId} {v:Value} {xs:List Value},w.ownsRow base e size v n xs→e≠199→w'.ownsRow base e size v n xs:=fun ho he=>hM.rowT hT ho (fun q=>he (List.mem_singleton.1 q))
 have blk:∀ {b:Nat} {cs:Array Value} {t:TypeId},w.heap[b]?=some (.cells cs t)→t≠199→w'.heap[b]?=w.heap[b]?:=fun hb ht=>(hM.blkT hT hb (fun q=>ht (List.mem_singleton.1 q))).trans hb.symm
 have lists:∀ {e:TypeId},e=3∨e=42→e≠199:=fun q=>by rcases q with q|q<;>(rw[q];decide)
 refine⟨(blk h.blk (by decide)).trans h.blk, ?_,row h.ra (by decide),row h.rm (by decide),fun j hj => ?_,fun j hj => ?_,fun j hj => ?_,row h.bag (by decide),row h.told (by decide),fun k hk=>hF k (h.inF k hk),hlt,h.sizes, ?_,h.ija,h.ijm,h.ijv,h.ijc⟩
 ·rw[hl]
  exact row h.rr (by decide)
 ·rw[hl] at hj
  rw[repPut c i j hi r];by_cases e:j=i
  ·subst e
   rw[if_pos rfl];exact hr
  ·rw[if_neg e]
   refine (h.reps j hj).keep hF ?_ (fun ho _ q=>row ho (lists q))
   obtain⟨_,_,q,_⟩:=h.reps j hj
   exact hM.block _ (Array.getElem?_eq_some_iff.1 q).1 (fun e2=>e (h.ijr j i hj hi e2))
 ·obtain⟨_,q,_,_,_,vs,q2,_⟩:=h.accs j hj
  refine (h.accs j hj).keep hF (blk q (by decide)) (fun ho _ e => ?_)
  rcases e with e|e|e
  ·exact row ho (lists (.inl e))
  ·exact row ho (lists (.inr e))
  ·subst e
   exact hM.owns ho fun k hk hS=>by
    obtain⟨_,_,q3,_⟩:=h.reps i hi
    exact bty q3 q2 (by decide) (hS ▸ hk)
 ·obtain⟨_,_,_,_,q,_,_,_,ws,_,q2,_⟩:=h.mass j hj
  refine (h.mass j hj).keep hF (blk q (by decide)) (fun ho _ e => ?_)
  rcases e with e|e|e
  ·exact row ho (lists (.inl e))
  ·exact row ho (lists (.inr e))
  ·subst e
   exact hM.owns ho fun k hk hS=>by
    obtain⟨_,_,q3,_⟩:=h.reps i hi
    exact bty q3 q2 (by decide) (hS ▸ hk)
 ·intro a b h1 h2
  rw[hl] at h1 h2
  exact h.ijr a b h1 h2
theorem RefIn.accTo (h:RefIn w F y c br ba bm vr va vm vb vt vv vc)(i:Nat)(hi:i<3)(a:Acc)(v:Value)(hM:Moved w w' (fun k=>k=ba i∨(vv i).ownBlock=some k))(hF:∀ k,F k→F' k)(hlt:∀ k,F' k→k<w'.heap.size)(hr:RAccAt w' F' (ba i) v a)(hv:∀ k,v.ownBlock=some k→(vv i).ownBlock=some k∨w.heap.size≤k) :
  RefIn w' F' y (c.setAcc (100+(i:Int)) a) br ba bm vr va vm vb vt (fun j=>if j=i then v else vv j) vc:=by
 obtain⟨_,qa,_,_,_,vs0,qv,_⟩:=h.accs i hi
 have hT:Typed w (fun k=>k=ba i∨(vv i).ownBlock=some k) [203,284]:=fun k hk _=>by
  rcases hk with e|e
  ·exact⟨_,_,e ▸ qa,List.mem_cons_self ..⟩
  ·exact⟨_,_,(obc qv e).choose_spec.1,List.mem_cons_of_mem _ (List.mem_cons_self ..)⟩
 have no:∀ {e:TypeId},e≠203→e≠284→e ∉ [203,284]:=fun h1 h2 q=>by
  rcases List.mem_cons.1 q with q|q
  ·exact h1 q
  ·exact h2 (List.mem_singleton.1 q)
 have row:∀ {base size n:Nat} {e:TypeId} {v:Value} {xs:List Value},w.ownsRow base e size v n xs→e≠203→e≠284→w'.ownsRow base e size v n xs:=fun ho h1 h2=>hM.rowT hT ho (no h1 h2)
 have blk:∀ {b:Nat} {cs:Array Value} {t:TypeId},w.heap[b]?=some (.cells cs t)→t≠203→t≠284→w'.heap[b]?=w.heap[b]?:=fun hb h1 h2=>(hM.blkT hT hb (no h1 h2)).trans hb.symm
 have lists:∀ {e:TypeId},e=3∨e=42→e≠203∧e≠284:=fun q=>by rcases q with q|q<;>(rw[q];decide)
 refine⟨(blk h.blk (by decide) (by decide)).trans h.blk,row h.rr (by decide) (by decide),row h.ra (by decide) (by decide),row h.rm (by decide) (by decide),fun j hj => ?_,fun j hj => ?_,fun j hj => ?_,row h.bag (by decide) (by decide),row h.told (by decide) (by decide),fun k hk=>hF k (h.inF k hk),hlt,⟨?_,h.sizes.2⟩,h.ijr,h.ija,h.ijm, ?_,h.ijc⟩
 ·obtain⟨_,_,q,_⟩:=h.reps j hj
  exact (h.reps j hj).keep hF (blk q (by decide) (by decide)) (fun ho _ q=>row ho (lists q).1 (lists q).2)
 ·rw[accPut c i j (by rw[h.sizes.1];exact hi) a]
  by_cases e:j=i
  ·subst e
   rw[if_pos rfl];simp only [if_true]
   exact hr
  ·rw[if_neg e]
   simp only [if_neg e]
   obtain⟨_,q,_,_,_,vs,q2,_⟩:=h.accs j hj
   have hb:w'.heap[ba j]?=w.heap[ba j]?:=hM.block _ (Array.getElem?_eq_some_iff.1 q).1 (fun e2=>by
    rcases e2 with e2|e2
    ·exact e (h.ija j i hj hi e2)
    ·exact bty q qv (by decide) e2)
   refine (h.accs j hj).keep hF hb (fun ho _ q4 => ?_)
   rcases q4 with q4|q4|q4
   ·exact row ho (lists (.inl q4)).1 (lists (.inl q4)).2
   ·exact row ho (lists (.inr q4)).1 (lists (.inr q4)).2
   ·subst q4
    exact hM.owns ho fun k hk hS=>by
     rcases hS with e2|e2
     ·exact bty qa q2 (by decide) (e2 ▸ hk)
     ·exact e (h.ijv j i k hj hi hk e2)
 ·obtain⟨_,_,_,_,q,_,_,_,ws,_,q2,_⟩:=h.mass j hj
  refine (h.mass j hj).keep hF (blk q (by decide) (by decide)) (fun ho _ e => ?_)
  rcases e with e|e|e
  ·exact row ho (lists (.inl e)).1 (lists (.inl e)).2
  ·exact row ho (lists (.inr e)).1 (lists (.inr e)).2
  ·subst e
   exact hM.owns ho fun k hk hS=>by
    rcases hS with e2|e2
    ·exact bty qa q2 (by decide) (e2 ▸ hk)
    ·exact otw q2 qv (by decide) k hk e2
 ·rw[← h.sizes.1]
  exact List.length_set
 ·intro a b k h1 h2 h3 h4
  have old:∀ j,j<3→(vv j).ownBlock=some k→k<w.heap.size:=fun j hj e=>by
   obtain⟨_,_,_,_,_,_,q2,_⟩:=h.accs j hj
   exact (Array.getElem?_eq_some_iff.1 (obc q2 e).choose_spec.1).1
  by_cases e1:a=i
  ·by_cases e2:b=i
   ·omega
   ·simp only [if_pos e1,if_neg e2] at h3 h4
    rcases hv k h3 with q|q
    ·rw[e1]
     exact h.ijv i b k hi h2 q h4
    ·have:=old b h2 h4
     omega
  ·by_cases e2:b=i
   ·simp only [if_neg e1,if_pos e2] at h3 h4
    rcases hv k h4 with q|q
    ·rw[e2]
     exact h.ijv a i k h1 hi h3 q
    ·have:=old a h1 h3
     omega
   ·simp only [if_neg e1,if_neg e2] at h3 h4
    exact h.ijv a b k h1 h2 h3 h4
theorem RefIn.outTo (h:RefIn w F y c br ba bm vr va vm vb vt vv vc)(bag':List (List UInt8 × Bool))(told':List Ans)(vb' vt':Value)(hM:Moved w w' (fun k=>k=y∨vb.ownBlock=some k∨vt.ownBlock=some k))(hF:∀ k,F k→F' k)(hlt:∀ k,F' k→k<w'.heap.size)
  (hy:w'.heap[y]?=some (.cells #[vr,va,vm,vb',vt'] 120)) (hb:w'.ownsRow 0 214 2 vb' bag'.length (frV bag')) (ht:w'.ownsRow 0 113 3 vt' told'.length (ints (ansNums told'))) (hb2:InF F' vb') (ht2:InF F' vt') :
  RefIn w' F' y { c with bag:=bag',told:=told' } br ba bm vr va vm vb' vt' vv vc:=by
 have hT:Typed w (fun k=>k=y∨vb.ownBlock=some k∨vt.ownBlock=some k) [120,214,113]:=fun k hk _=>by
  rcases hk with e|e|e
  ·exact⟨_,_,e ▸ h.blk,by simp⟩
  ·exact⟨_,_,(obc h.bag e).choose_spec.1,by simp⟩
  ·exact⟨_,_,(obc h.told e).choose_spec.1,by simp⟩
 have row:∀ {base size n:Nat} {e:TypeId} {v:Value} {xs:List Value},w.ownsRow base e size v n xs→e ∉ [120,214,113]→w'.ownsRow base e size v n xs:=fun ho he=>hM.rowT hT ho he
 have blk:∀ {b:Nat} {cs:Array Value} {t:TypeId},w.heap[b]?=some (.cells cs t)→t ∉ [120,214,113]→w'.heap[b]?=w.heap[b]?:=fun hb ht=>(hM.blkT hT hb ht).trans hb.symm
 have lists:∀ {e:TypeId},e=3∨e=42→e ∉ [120,214,113]:=fun q=>by rcases q with q|q<;>(rw[q];decide)
 refine⟨hy,row h.rr (by decide),row h.ra (by decide),row h.rm (by decide),fun j hj => ?_,fun j hj => ?_,fun j hj => ?_,hb,ht,fun k hk => ?_,hlt,h.sizes,h.ijr,h.ija,h.ijm,h.ijv,h.ijc⟩
 ·obtain⟨_,_,q,_⟩:=h.reps j hj
  exact (h.reps j hj).keep hF (blk q (by decide)) (fun ho _ q=>row ho (lists q))
 ·obtain⟨_,q,_,_,_,vs,q2,_⟩:=h.accs j hj
  refine (h.accs j hj).keep hF (blk q (by decide)) (fun ho _ e => ?_)
  rcases e with e|e|e
  ·exact row ho (lists (.inl e))
  ·exact row ho (lists (.inr e))
  ·subst e
   exact hM.owns ho fun k hk hS=>by
    rcases hS with e2|e2|e2
    ·exact bty h.blk q2 (by decide) (e2 ▸ hk)
    ·exact otw q2 h.bag (by decide) k hk e2
    ·exact otw q2 h.told (by decide) k hk e2
 ·obtain⟨_,_,_,_,q,_,_,_,ws,_,q2,_⟩:=h.mass j hj
  refine (h.mass j hj).keep hF (blk q (by decide)) (fun ho _ e => ?_)
  rcases e with e|e|e
  ·exact row ho (lists (.inl e))
  ·exact row ho (lists (.inr e))
  ·subst e
   exact hM.owns ho fun k hk hS=>by
    rcases hS with e2|e2|e2
    ·exact bty h.blk q2 (by decide) (e2 ▸ hk)
    ·exact otw q2 h.bag (by decide) k hk e2
    ·exact otw q2 h.told (by decide) k hk e2
 ·rcases hk with e|e|e|e|e|e
  ·exact hF k (h.inF k (.inl e))
  ·exact hF k (h.inF k (.inr (.inl e)))
  ·exact hF k (h.inF k (.inr (.inr (.inl e))))
  ·exact hb2 k e
  ·exact ht2 k e
  ·exact hF k (h.inF k (.inr (.inr (.inr (.inr (.inr e))))))
theorem RefIn.wider (h:RefIn w F y c br ba bm vr va vm vb vt vv vc)(hF:∀ k,F k→F' k)(hlt:∀ k,F' k→k<w.heap.size):RefIn w F' y c br ba bm vr va vm vb vt vv vc :=
 {h with
  reps:=fun i hi=>(h.reps i hi).keep hF rfl (fun ho _ _=>ho)
  accs:=fun i hi=>(h.accs i hi).keep hF rfl (fun ho _ _=>ho)
  mass:=fun i hi=>(h.mass i hi).keep hF rfl (fun ho _ _=>ho)
  inF:=fun k hk=>hF k (h.inF k hk)
  lt:=hlt }
end
theorem RefAt.wider {w:World}{F F':Nat→Prop}{y:Nat}{c:Clu}(h:RefAt w F y c)(hF:∀ k,F k→F' k)(hlt:∀ k,F' k→k<w.heap.size):RefAt w F' y c:=by
 obtain⟨br,ba,bm,vr,va,vm,vb,vt,vv,vc,h⟩:=h;exact⟨br,ba,bm,vr,va,vm,vb,vt,vv,vc,h.wider hF hlt⟩
def RefAfter (w:World)(F:Nat→Prop)(y:Nat)(c':Clu)(w':World):Prop:=RefAt w' (Gr F w w') y c'∧Moved w w' F
theorem RefAt.below {w w':World}{F:Nat→Prop}{y:Nat}{c:Clu}(h:RefAt w F y c)(hb:Below w.heap.size w w'):RefAt w' F y c:=h.keep fun k hk=>hb.block k (h.lt' hk)
theorem Gr.lt {F:Nat→Prop}{w w':World}(hF:∀ k,F k→k<w.heap.size)(hs:w.heap.size≤w'.heap.size):∀ k,Gr F w w' k→k<w'.heap.size:=fun k hk=>by
 rcases hk with e|e
 ·have:=hF k e
  omega
 ·exact e.2
theorem RefAfter.still {w w':World}{F:Nat→Prop}{y:Nat}{c:Clu}(h:RefAt w F y c)(hb:Below w.heap.size w w'):RefAfter w F y c w' :=
 ⟨(h.below hb).wider (fun _ e=>.inl e) (Gr.lt (fun _ e=>h.lt' e) hb.size),(Moved.refl w F).below hb⟩
theorem RefAfter.trans {w w1 w2:World}{F:Nat→Prop}{y:Nat}{c2:Clu}(hF:∀ k,F k→k<w.heap.size)(hM:Moved w w1 F)(h2:RefAfter w1 (Gr F w w1) y c2 w2):RefAfter w F y c2 w2:=by
 have s1:=hM.size
 have s2:=h2.2.size
 refine⟨h2.1.wider (fun k e => ?_) (Gr.lt hF (by omega)),hM.trans h2.2 (fun k hk e => ?_)⟩
 ·rcases e with (e|e)|e
  ·exact .inl e
  ·exact .inr (by omega)
  ·exact .inr (by omega)
 ·rcases e with e|e
  ·exact e
  ·omega
theorem RefAfter.before {w w1 w2:World}{F:Nat→Prop}{y:Nat}{c1 c2:Clu}(h:RefAt w F y c1)(hb:Below w.heap.size w w1)(h2:RefAfter w1 F y c2 w2):RefAfter w F y c2 w2:=by
 have s1:=hb.size
 have s2:=h2.2.size
 refine⟨h2.1.wider (fun k e => ?_) (Gr.lt (fun _ e=>h.lt' e) (by omega)),((Moved.refl w F).below hb).trans h2.2 (fun _ _ e=>e)⟩
 rcases e with e|e
 ·exact .inl e
 ·exact .inr (by omega)
end Go.Proofs.YtgieeeeeiggoeaaGreat
namespace Go.Proofs.YtgieeeeeiggoeaaGreat
open Go.RowKit Go.Shelf
section
variable {w:World} {F:Nat→Prop} {y:Nat} {c:Clu} {br ba bm:Nat→Nat} {vr va vm vb vt:Value} {vv vc:Nat→Value}
theorem RefIn.atRep (h:RefIn w F y c br ba bm vr va vm vb vt vv vc){i:Nat}(hi:i<c.reps.length) :
  ∃ g cap,vr=.slice (some ⟨g,0,none⟩) c.reps.length cap∧g<w.heap.size∧w.cell? ⟨g,i,none⟩=some (.pointer (some ⟨br i,0,none⟩)):=by
 obtain⟨g,cap,hv, -,hl⟩:=h.rr.form (by omega)
 have hc:=h.rr
 rw[hv] at hc
 refine⟨g,cap,hv,hl, ?_⟩
 have:=World.ownsRow.cellAt hc i (by omega)
 rw[ptrs_at br 0 c.reps.length i hi,Nat.zero_add] at this
 exact this
theorem RefIn.atAcc (h:RefIn w F y c br ba bm vr va vm vb vt vv vc){i:Nat}(hi:i<3) :
  ∃ g cap,va=.slice (some ⟨g,0,none⟩) 3 cap∧g<w.heap.size∧w.cell? ⟨g,i,none⟩=some (.pointer (some ⟨ba i,0,none⟩)):=by
 obtain⟨g,cap,hv, -,hl⟩:=h.ra.form (by omega)
 have hc:=h.ra
 rw[hv] at hc
 refine⟨g,cap,hv,hl, ?_⟩
 have:=World.ownsRow.cellAt hc i (by omega)
 rw[ptrs_at ba 0 3 i hi,Nat.zero_add] at this
 exact this
theorem RefIn.atMas (h:RefIn w F y c br ba bm vr va vm vb vt vv vc){i:Nat}(hi:i<2) :
  ∃ g cap,vm=.slice (some ⟨g,0,none⟩) 2 cap∧g<w.heap.size∧w.cell? ⟨g,i,none⟩=some (.pointer (some ⟨bm i,0,none⟩)):=by
 obtain⟨g,cap,hv, -,hl⟩:=h.rm.form (by omega)
 have hc:=h.rm
 rw[hv] at hc
 refine⟨g,cap,hv,hl, ?_⟩
 have:=World.ownsRow.cellAt hc i (by omega)
 rw[ptrs_at bm 0 2 i hi,Nat.zero_add] at this
 exact this
end
inductive Who (c:Clu)(d:Int):Prop
 | rep (i:Nat) (hi:i<c.reps.length) (hd:d=(i:Int)) (hk:kindOf c.reps.length d=(1,(i:Int))) (hu:c.upOf d=some (c.rep i).up)
 | acc (i:Nat) (hi:i<3) (hd:d=100+(i:Int)) (hk:kindOf c.reps.length d=(2,(i:Int))) (hu:c.upOf d=some (c.acc (100+(i:Int))).up)
 | mas (i:Nat) (hi:i<2) (hd:d=200+(i:Int)) (hk:kindOf c.reps.length d=(3,(i:Int))) (hu:c.upOf d=some (c.mas (200+(i:Int))).up)
 | no (hk:kindOf c.reps.length d=(0,0)) (hu:c.upOf d=none)
theorem who (c:Clu)(d:Int)(_hn:c.reps.length≤5):Who c d:=by
 by_cases h1:c.isRep d
 ·have h1a:=h1.1
  have h1b:=h1.2
  obtain⟨i,rfl⟩:∃ i:Nat,d=(i:Int):=⟨d.toNat,by omega⟩
  exact .rep i (by omega) rfl (by unfold kindOf;rw[if_pos ⟨by omega,by omega⟩]) (by unfold Clu.upOf;rw[if_pos h1])
 ·by_cases h2:isAcc d
  ·have h2a:=h2.1
   have h2b:=h2.2
   obtain⟨i,rfl⟩:∃ i:Nat,d=100+(i:Int):=⟨(d-100).toNat,by omega⟩
   exact .acc i (by omega) rfl (by unfold kindOf;rw[if_neg (fun e=>h1 ⟨e.1,e.2⟩),if_pos ⟨by omega,by omega⟩];simp;omega) (by unfold Clu.upOf;rw[if_neg h1,if_pos h2])
  ·by_cases h3:isMas d
   ·have h3a:=h3.1
    have h3b:=h3.2
    obtain⟨i,rfl⟩:∃ i:Nat,d=200+(i:Int):=⟨(d-200).toNat,by omega⟩
    exact .mas i (by omega) rfl (by unfold kindOf;rw[if_neg (fun e=>h1 ⟨e.1,e.2⟩),if_neg (fun e=>h2 ⟨e.1,e.2⟩),if_pos (by omega)];simp;omega) (by unfold Clu.upOf;rw[if_neg h1,if_neg h2,if_pos h3])
   ·exact .no (by unfold kindOf;rw[if_neg (fun e=>h1 ⟨e.1,e.2⟩),if_neg (fun e=>h2 ⟨e.1,e.2⟩),if_neg (fun e=>h3 (by unfold isMas;omega))]) (by unfold Clu.upOf;rw[if_neg h1,if_neg h2,if_neg h3])
theorem refUp_any {w:World}{F:Nat→Prop}{y:Nat}{c:Clu}(d:Int)(h:RefAt w F y c)(hn:c.reps.length≤5)(hi : -9223372036854775808≤d∧d≤9223372036854775807) :
  Calls Tryz.prog 136 #[.pointer (some ⟨y,0,none⟩),.int .i64 d] w fun e w'=>e=.returned (.tuple #[.bool ((c.upOf d).getD false),.bool (c.upOf d).isSome])∧∃ q,w'=w.drewN q:=by
 obtain⟨br,ba,bm,vr,va,vm,vb,vt,vv,vc,h⟩:=h;obtain⟨ar,cr,hvr⟩:=osh h.rr
 subst hvr;have c0:w.cell? ⟨y,0,none⟩=some (.slice ar c.reps.length cr):=coh h.blk 0
 have c1:w.cell? ⟨y,1,none⟩=some va:=coh h.blk 1
 have c2:w.cell? ⟨y,2,none⟩=some vm:=coh h.blk 2
 have HK:=hideA (refKind_any y c.reps.length _ cr d w c0 hn hi)
 rcases who c d hn with ⟨i,hil,rfl,hk,hu⟩|⟨i,hil,rfl,hk,hu⟩|⟨i,hil,rfl,hk,hu⟩|⟨hk,hu⟩
 ·rw[hk] at HK
  rw[hu];obtain⟨g,cap,hv,hgl,hcell⟩:=h.atRep hil
  cases hv
  obtain⟨_,_,hb,_⟩:=h.reps i hil
  have r0:w.cell? ⟨br i,0,none⟩=some (.bool (c.rep i).up):=coh hb 0
  have hi1:(i:Int)<(c.reps.length:Int):=by omega
  have hi0:(0:Int)≤(i:Int):=by omega
  clear h hb hk hu;generalize (c.rep i).up=u at *
  go_enter Tryz.func136,Tryz.ntmps136
  go_wp2_with fail;refine HK.out.mono ?_
  rintro e W ⟨rfl,rfl⟩;go_wp2_with fail;go_ret2
  exact⟨rfl,0,rfl⟩
 ·rw[hk] at HK
  rw[hu];obtain⟨g,cap,hv,hgl,hcell⟩:=h.atAcc hil
  subst hv;obtain⟨_,hb,_⟩:=h.accs i hil
  have r0:w.cell? ⟨ba i,0,none⟩=some (.bool (c.acc (100+(i:Int))).up):=coh hb 0
  have hi1:(i:Int)<3:=by omega
  have hi0:(0:Int)≤(i:Int):=by omega
  clear h hb hk hu;generalize (c.acc (100+(i:Int))).up=u at *
  go_enter Tryz.func136,Tryz.ntmps136
  go_wp2_with fail;refine HK.out.mono ?_
  rintro e W ⟨rfl,rfl⟩;go_wp2_with fail;go_ret2
  exact⟨rfl,0,rfl⟩
 ·rw[hk] at HK
  rw[hu];obtain⟨g,cap,hv,hgl,hcell⟩:=h.atMas hil
  subst hv;obtain⟨_,_,_,_,hb,_⟩:=h.mass i hil
  have r0:w.cell? ⟨bm i,0,none⟩=some (.bool (c.mas (200+(i:Int))).up):=coh hb 0
  have hi1:(i:Int)<2:=by omega
  have hi0:(0:Int)≤(i:Int):=by omega
  clear h hb hk hu;generalize (c.mas (200+(i:Int))).up=u at *
  go_enter Tryz.func136,Tryz.ntmps136
  go_wp2_with fail;refine HK.out.mono ?_
  rintro e W ⟨rfl,rfl⟩;go_wp2_with fail;go_ret2
  exact⟨rfl,0,rfl⟩
 ·rw[hk] at HK
  rw[hu];clear h hk hu;go_enter Tryz.func136,Tryz.ntmps136
  go_wp2_with fail;refine HK.out.mono ?_
  rintro e W ⟨rfl,rfl⟩;go_wp2_with fail;go_ret2
  exact⟨rfl,0,rfl⟩
end Go.Proofs.YtgieeeeeiggoeaaGreat
