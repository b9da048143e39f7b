import Derived.Test.YtgieeeeeiggoeaaGreatC31
import Derived.Test.YtgieeeeeiggoeaaGreatC34
set_option maxRecDepth 100000
set_option maxHeartbeats 1000000
namespace Go.Proofs.YtgieeeeeiggoeaaGreat
open Go.RowKit Go.Shelf
theorem infoSta : (Tryz.prog.info? 183).map (fun i=>(i.zero,i.size,i.bytes))=some (some (.agg #[.int .i64 0,.int .i64 0,.nilIface]),3,32):=by kernel_rfl
theorem infoPR : (Tryz.prog.info? 129).map (fun i=>(i.zero,i.size,i.bytes))=some (some (.pointer none),1,8):=by kernel_rfl
theorem infoPA : (Tryz.prog.info? 99).map (fun i=>(i.zero,i.size,i.bytes))=some (some (.pointer none),1,8):=by kernel_rfl
theorem infoPM : (Tryz.prog.info? 81).map (fun i=>(i.zero,i.size,i.bytes))=some (some (.pointer none),1,8):=by kernel_rfl
theorem add_any (x k:Nat)(vs a1 a2 a3 a4 a5:Value)(xs:List Value)(num:Int)(ty:TypeId)(q:Option Addr)(w:World)(hblk:w.heap[x]?=some (.cells #[vs,a1,a2,a3,a4,a5] 93))(hrow:w.ownsRow 0 183 3 vs k xs)(hk:k≤100) :
  Calls Tryz.prog 108 #[.pointer (some ⟨x,0,none⟩),.int .i64 num,.iface ty (.pointer q)] w fun e w'=>(∃ v,e=.returned v)∧∃ vs',w'.heap[x]?=some (.cells #[vs',a1,a2,a3,a4,a5] 93)∧w'.ownsRow 0 183 3 vs' (k+1) (xs++[.int .i64 num,.int .i64 0,.iface ty (.pointer q)])∧Moved w w' (fun z=>z=x∨vs.ownBlock=some z)∧Grows w vs vs':=by
 obtain⟨ab,cb,rfl⟩:=osh hrow
 have c0:=coh hblk 0
 have hxl:x<w.heap.size:=(Array.getElem?_eq_some_iff.1 hblk).1
 obtain⟨X,hX⟩:∃ X,X=w.alloc (.cells #[.int .i64 num,.int .i64 0,.iface ty (.pointer q)] 183):=⟨_,rfl⟩
 have hbX:Below w.heap.size w X:=by rw[hX];exact (Below.refl _ w).alloc (Nat.le_refl _) _
 have hsX:X.heap.size=w.heap.size+1:=by rw[hX];simp
 have hrX:X.ownsRow 0 183 3 (.slice ab k cb) k xs:=okp hrow fun k _ hk=>hbX.block k hk
 obtain⟨g',cap',W1,hrun,ho1,hg1,hwh⟩:=append_row (t:=84) infoSta Tryz.underlying84 rfl (by decide) X 0 (.slice ab k cb) k xs [.int .i64 num,.int .i64 0,.iface ty (.pointer q)] w.heap.size hrX (by rw[hX];exact hnw _ _) rfl (by intro u hu;simp at hu;rcases hu with rfl|rfl|rfl<;>rfl) (by omega) (by decide) (Nat.zero_le _)
 have nb:(Value.slice ab k cb).ownBlock≠some x:=bty hblk hrow (by decide)
 have hxW:W1.heap[x]?=some (.cells #[.slice ab k cb,a1,a2,a3,a4,a5] 93):=(hg1.block x (by omega) (fun e=>nb e.symm)).trans ((hbX.block x hxl).trans hblk)
 have d0:=coh hxW 0
 have e0:=foh hxW 0
 have M1:Moved w W1 (fun z=>z=x∨(Value.slice ab k cb).ownBlock=some z):=((Moved.refl w _).below hbX).grown hg1 (fun k _ e=>.inr e)
 have HR:=hideA hrun;rw[hX] at HR
 have HF:Hid (∃ vs',(W1.setCell ⟨x,0,none⟩ (.slice (some ⟨g',0,none⟩) (k+1) cap')).heap[x]?=some (.cells #[vs',a1,a2,a3,a4,a5] 93)∧(W1.setCell ⟨x,0,none⟩ (.slice (some ⟨g',0,none⟩) (k+1) cap')).ownsRow 0 183 3 vs' (k+1) (xs++[.int .i64 num,.int .i64 0,.iface ty (.pointer q)])∧Moved w (W1.setCell ⟨x,0,none⟩ (.slice (some ⟨g',0,none⟩) (k+1) cap')) (fun z=>z=x∨(Value.slice ab k cb).ownBlock=some z)∧Grows w (.slice ab k cb) vs'):=hideA (by
  refine⟨_,set6_0 _ hxW,ownsRow_setCell_other ho1 (bty hxW ho1 (by decide)) _,M1.setCell ⟨x,0,none⟩ (.inl rfl) _, ?_⟩
  intro z hz;have:g'=z:=by simpa [Value.ownBlock] using hz
  subst this;rcases hwh with h5|h5
  ·exact .inl h5
  ·exact .inr (by omega))
 clear hrun ho1 hg1 hwh hrX M1 hX hbX hsX hxW;go_enter Tryz.func108,Tryz.ntmps108
 go_wp2_with (at_builtin;refine wpList_append_run rfl (.tmp 10) (.tmp 14) 84 rfl _ _ _ _ (by simp[Act.eval]) (by simp[Act.eval]) HR.out ?_)
 go_wp2_with fail;go_end0
 exact⟨⟨_,rfl⟩,HF.out⟩
def firstNod (n j:Nat):Nod:=if j<n then .rep (Rep.first n) else if j<n+3 then .acc (Acc.first n) else .mas (Mas.still true 0)
def staOf (n:Nat)(b:Nat→Nat)(j:Nat):List Value:=[.int .i64 (numOf n j),.int .i64 0,.iface (nodTy (firstNod n j)) (.pointer (some ⟨b j,0,none⟩))]
def OwnB (x:Nat)(vs vr va vm:Value)(k:Nat):Prop:=k=x∨vs.ownBlock=some k∨vr.ownBlock=some k∨va.ownBlock=some k∨vm.ownBlock=some k
structure Built (w0 w:World)(x n k:Nat)(b:Nat→Nat)(Fn:Nat→Nat→Prop)(vs vr va vm:Value):Prop where
 blk:w.heap[x]?=some (.cells #[vs,vr,va,vm,.slice none 0 0,.slice none 0 0] 93)
 rs:w.ownsRow 0 183 3 vs k ((List.range k).flatMap (staOf n b))
 rr:w.ownsRow 0 129 1 vr (min k n) (ptrs b 0 (min k n))
 ra:w.ownsRow 0 99 1 va (min (k-n) 3) (ptrs b n (min (k-n) 3))
 rm:w.ownsRow 0 81 1 vm (k-n-3) (ptrs b (n+3) (k-n-3))
 nod:∀ j,j<k→NodAt w (Fn j) (b j) (numOf n j) (firstNod n j)
 sep:∀ i j,i<k→j<k→i≠j→∀ z,Fn i z→¬ Fn j z
 off:∀ j,j<k→∀ z,Fn j z→¬ OwnB x vs vr va vm z
 newO:∀ z,OwnB x vs vr va vm z→w0.heap.size≤z
 newN:∀ j,j<k→∀ z,Fn j z→w0.heap.size≤z
 bel:Below w0.heap.size w0 w
theorem ptrs_snoc (b:Nat→Nat)(s m:Nat):ptrs b s (m+1)=ptrs b s m++[.pointer (some ⟨b (s+m),0,none⟩)]:=by
 unfold ptrs
 rw[List.range_succ,List.map_append];rfl
theorem ptrs_same (b b':Nat→Nat)(s m:Nat)(h:∀ i,i<m→b (s+i)=b' (s+i)):ptrs b s m=ptrs b' s m:=by
 unfold ptrs
 refine List.map_congr_left fun i hi => ?_
 rw[h i (List.mem_range.1 hi)]
theorem sta_snoc (n:Nat)(b:Nat→Nat)(k:Nat):(List.range (k+1)).flatMap (staOf n b)=(List.range k).flatMap (staOf n b)++staOf n b k:=by
 rw[List.range_succ,List.flatMap_append];simp
theorem sta_same (n:Nat)(b b':Nat→Nat)(k:Nat)(h:∀ i,i<k→b i=b' i):(List.range k).flatMap (staOf n b)=(List.range k).flatMap (staOf n b'):=by
 rw[List.flatMap_def,List.flatMap_def];congr 1
 refine List.map_congr_left fun i hi => ?_
 unfold staOf
 rw[h i (List.mem_range.1 hi)]
def putB (b:Nat→Nat)(k v:Nat)(i:Nat):Nat:=if i=k then v else b i
def putF (Fn:Nat→Nat→Prop)(k:Nat)(F:Nat→Prop)(i:Nat):Nat→Prop:=if i=k then F else Fn i
theorem Built.step {w0 w w1 w3:World}{x n k:Nat}{b:Nat→Nat}{Fn:Nat→Nat→Prop}{vs vr va vm vs' vr' va' vm':Value}(h:Built w0 w x n k b Fn vs vr va vm)(b':Nat)(F':Nat→Prop)
  (h1:Below w.heap.size w w1) (hN:NodAt w1 F' b' (numOf n k) (firstNod n k)) (hF:∀ z,F' z→w.heap.size≤z)
  (hM:Moved w1 w3 (OwnB x vs vr va vm)) (hG:∀ z,OwnB x vs' vr' va' vm' z→OwnB x vs vr va vm z∨w1.heap.size≤z)
  (hblk:w3.heap[x]?=some (.cells #[vs',vr',va',vm',.slice none 0 0,.slice none 0 0] 93))
  (hrs:w3.ownsRow 0 183 3 vs' (k+1) ((List.range k).flatMap (staOf n b)++[.int .i64 (numOf n k),.int .i64 0,.iface (nodTy (firstNod n k)) (.pointer (some ⟨b',0,none⟩))]))
  (hrr:w3.ownsRow 0 129 1 vr' (min (k+1) n) (ptrs (putB b k b') 0 (min (k+1) n)))
  (hra:w3.ownsRow 0 99 1 va' (min (k+1-n) 3) (ptrs (putB b k b') n (min (k+1-n) 3)))
  (hrm:w3.ownsRow 0 81 1 vm' (k+1-n-3) (ptrs (putB b k b') (n+3) (k+1-n-3))) :
  Built w0 w3 x n (k+1) (putB b k b') (putF Fn k F') vs' vr' va' vm':=by
 have hs0:=h.bel.size
 have hs1:=h1.size
 have hs3:=hM.size
 have hO:∀ z,OwnB x vs vr va vm z→z<w.heap.size:=by
  intro z hz;have key:∀ {base size n:Nat} {e:TypeId} {v:Value} {xs:List Value},w.ownsRow base e size v n xs→v.ownBlock=some z→z<w.heap.size:=fun hr e=>(Array.getElem?_eq_some_iff.1 (obc hr e).choose_spec.1).1
  rcases hz with e|e|e|e|e
  ·rw[e];exact (Array.getElem?_eq_some_iff.1 h.blk).1
  ·exact key h.rs e
  ·exact key h.rr e
  ·exact key h.ra e
  ·exact key h.rm e
 have hold:∀ j,j<k→∀ z,Fn j z→z<w.heap.size:=fun j hj z hz=>(h.nod j hj).lt hz
 have hF1:∀ z,F' z→z<w1.heap.size:=fun z hz=>hN.lt hz
 refine⟨hblk, ?_,hrr,hra,hrm, ?_, ?_, ?_, ?_, ?_, ?_⟩
 ·rw[sta_snoc,sta_same n (putB b k b') b k (fun i hi=>by unfold putB;rw[if_neg (by omega)])]
  have:staOf n (putB b k b') k=[.int .i64 (numOf n k),.int .i64 0,.iface (nodTy (firstNod n k)) (.pointer (some ⟨b',0,none⟩))]:=by unfold staOf putB;rw[if_pos rfl]
  rw[this];exact hrs
 ·intro j hj
  unfold putB putF
  by_cases e:j=k
  ·subst e
   rw[if_pos rfl,if_pos rfl];exact hN.keep fun z hz=>hM.block z (hF1 z hz) (fun e2=>by have:=hO z e2;have:=hF z hz;omega)
  ·rw[if_neg e,if_neg e]
   have hj':j<k:=by omega
   exact (h.nod j hj').keep fun z hz=>(hM.block z (by have:=hold j hj' z hz;omega) (h.off j hj' z hz)).trans (h1.block z (hold j hj' z hz))
 ·intro i j hi hj hne z hz hz2
  unfold putF at hz hz2
  by_cases e:i=k
  ·subst e
   rw[if_pos rfl] at hz
   rw[if_neg (Ne.symm hne)] at hz2
   have:=hF z hz
   have:=hold j (by omega) z hz2
   omega
  ·rw[if_neg e] at hz
   by_cases e2:j=k
   ·subst e2
    rw[if_pos rfl] at hz2
    have:=hF z hz2
    have:=hold i (by omega) z hz
    omega
   ·rw[if_neg e2] at hz2
    exact h.sep i j (by omega) (by omega) hne z hz hz2
 ·intro j hj z hz hz2
  unfold putF at hz
  rcases hG z hz2 with q|q
  ·by_cases e:j=k
   ·rw[if_pos e] at hz
    have:=hF z hz
    have:=hO z q
    omega
   ·rw[if_neg e] at hz
    exact h.off j (by omega) z hz q
  ·by_cases e:j=k
   ·rw[if_pos e] at hz
    have:=hF1 z hz
    omega
   ·rw[if_neg e] at hz
    have:=hold j (by omega) z hz
    omega
 ·intro z hz
  rcases hG z hz with q|q
  ·exact h.newO z q
  ·omega
 ·intro j hj z hz
  unfold putF at hz
  by_cases e:j=k
  ·rw[if_pos e] at hz
   have:=hF z hz
   omega
  ·rw[if_neg e] at hz
   exact h.newN j (by omega) z hz
 ·exact (h.bel.trans (h1.mono hs0)).trans ((hM.to_below (fun z hz=>h.newO z hz) (by omega)))
theorem infoInt3 : (Tryz.prog.info? 3).map (fun i=>(i.zero,i.size,i.bytes))=some (some (.int .i64 0),1,8):=by kernel_rfl
theorem infoPRep : (Tryz.prog.info? 197).map (fun i=>(i.zero,i.size,i.bytes))=some (some (.pointer none),1,8):=by kernel_rfl
theorem infoPAcc : (Tryz.prog.info? 200).map (fun i=>(i.zero,i.size,i.bytes))=some (some (.pointer none),1,8):=by kernel_rfl
theorem infoPMas : (Tryz.prog.info? 204).map (fun i=>(i.zero,i.size,i.bytes))=some (some (.pointer none),1,8):=by kernel_rfl
theorem firstInts_snoc (k:Nat):firstInts (k+1)=firstInts k++[(k:Int)]:=by
 unfold firstInts
 rw[List.range_succ,List.map_append];rfl
theorem refInts_any (v:Value)(l:List Int)(w:World)(hv:IntOwn w v l)(h0:l≠[])(hl:l.length≤1000000000) :
  Calls Tryz.prog 132 #[v] w fun e w'=>∃ a c,e=.returned (.slice a l.length c)∧w'.ownsRow w.heap.size 3 1 (.slice a l.length c) l.length (ints l)∧Below w.heap.size w w':=by
 obtain⟨i0,hi,hz0,hz1,hz2⟩:=info_parts infoInt3
 have hpos:0<l.length:=List.length_pos_iff.2 h0
 obtain⟨g,cv,rfl, -, -⟩:=hv.form (by omega)
 have hcells:∀ j u,(ints l)[j]?=some u→w.cell? ((⟨g,0,none⟩:Addr).add j)=some u:=fun j u hj=>by
  have hjl:j<l.length:=by have:=(List.getElem?_eq_some_iff.1 hj).1;rwa [ints_length] at this
  have:=World.ownsRow.cellAt hv j (by omega)
  rw[show (⟨g,0,none⟩:Addr).add j=⟨g,j,none⟩ by unfold Addr.add;by_cases hj0:j=0<;>simp[hj0],this,hj]
 clear hv;go_enter Tryz.func132,Tryz.ntmps132
 go_wp2_with (at_builtin;refine wpList_append_own _ rfl _ _ 29 rfl w.heap.size 3 i0 _ 1 8 Tryz.underlying29 hi hz0 hz1 hz2 rfl (by decide) (.slice none 0 0) 0 [] rfl (World.ownsRow_nil _ _ _ _) ⟨g,0,none⟩ l.length cv (ints l) rfl (by rw[ints_length];omega) hcells (ints_one _) (by unfold maxLen;omega) (by omega) (Nat.le_refl _) ?_)
 intro v' w' ho hg _;have ho':w'.ownsRow w.heap.size 3 1 v' l.length (ints l):=by simpa using ho
 obtain⟨a',c',hv'⟩:=osh ho'
 subst hv';have HO:=hideA ho';have HG:Hid (Below w.heap.size w w'):=hideA (((Moved.refl w (fun _=>False)).grown hg (fun k _ e=>by simp[Value.ownBlock] at e)).to_below (fun _ e=>e.elim) (Nat.le_refl _))
 clear ho ho' hg hcells;go_wp2_with fail;go_ret;exact⟨a',c',rfl,HO.out,HG.out⟩
def Fr (w0 w:World)(z:Nat):Prop:=w0.heap.size≤z∧z<w.heap.size
theorem RRepAt.later {w0 w w':World}{b:Nat}{r:Rep}(h:RRepAt w (Fr w0 w) b r)(hs:w.heap.size≤w'.heap.size)(hk:∀ {base size n:Nat} {e:TypeId} {v:Value} {xs:List Value},w.ownsRow base e size v n xs→e=3∨e=42→w'.ownsRow base e size v n xs)(hb:∀ cs,w.heap[b]?=some (.cells cs 199)→w'.heap[b]?=some (.cells cs 199)):RRepAt w' (Fr w0 w') b r:=by
 obtain⟨vm,vl,h1,h2,h3,h4,h5,h6⟩:=h;have wid:∀ z,Fr w0 w z→Fr w0 w' z:=fun z e=>⟨e.1,Nat.lt_of_lt_of_le e.2 hs⟩
 exact⟨vm,vl,hb _ h1,hk h2 (.inl rfl),hk h3 (.inr rfl),wid _ h4,h5.wider wid,h6.wider wid⟩
theorem VotesAt.nil (w:World)(F:Nat→Prop):VotesAt w F (.slice none 0 0) (fun _=>AVote.none) :=
 ⟨[],World.ownsRow_nil _ _ _ _,InF.nil _,fun _ h=>absurd h List.not_mem_nil,List.nodup_nil,fun _ h=>absurd h List.not_mem_nil,fun _ _=>rfl⟩
theorem RAccAt.later {w0 w w':World}{b n:Nat}(h:RAccAt w (Fr w0 w) b (.slice none 0 0) (Acc.first n))(hs:w.heap.size≤w'.heap.size)(hk:∀ {base size n:Nat} {e:TypeId} {v:Value} {xs:List Value},w.ownsRow base e size v n xs→e=3∨e=42→w'.ownsRow base e size v n xs)(hb:∀ cs,w.heap[b]?=some (.cells cs 203)→w'.heap[b]?=some (.cells cs 203)):RAccAt w' (Fr w0 w') b (.slice none 0 0) (Acc.first n):=by
 obtain⟨vm,h1,h2,h3,h4,h5⟩:=h;have wid:∀ z,Fr w0 w z→Fr w0 w' z:=fun z e=>⟨e.1,Nat.lt_of_lt_of_le e.2 hs⟩
 exact⟨vm,hb _ h1,hk h2 (.inl rfl),wid _ h3,h4.wider wid,VotesAt.nil _ _⟩
structure NewR (w0 w:World)(y n k m:Nat)(vA:Value)(br ba:Nat→Nat)(vr va:Value):Prop where
 blk:w.heap[y]?=some (.cells #[vr,va,.slice none 0 0,.slice none 0 0,.slice none 0 0] 120)
 rr:w.ownsRow 0 197 1 vr k (ptrs br 0 k)
 ra:w.ownsRow 0 200 1 va m (ptrs ba 0 m)
 reps:∀ j,j<k→RRepAt w (Fr w0 w) (br j) (Rep.first n)
 accs:∀ j,j<m→RAccAt w (Fr w0 w) (ba j) (.slice none 0 0) (Acc.first n)
 all:IntOwn w vA (firstInts n)
 new:w0.heap.size≤y∧(∀ z,vr.ownBlock=some z→w0.heap.size≤z)∧(∀ z,va.ownBlock=some z→w0.heap.size≤z)∧∀ z,vA.ownBlock=some z→w0.heap.size≤z
 be:Below w0.heap.size w0 w
 cfg:w.heap[w0.heap.size]?=some (.cells #[.int .i64 (n:Int)] 75)
 ijr:∀ i j,i<k→j<k→br i=br j→i=j
 ija:∀ i j,i<m→j<m→ba i=ba j→i=j
theorem NewR.below {w0 w w':World}{y n k m:Nat}{vA:Value}{br ba:Nat→Nat}{vr va:Value}(h:NewR w0 w y n k m vA br ba vr va)(hb:Below w.heap.size w w'):NewR w0 w' y n k m vA br ba vr va where
 blk:=(hb.block _ (Array.getElem?_eq_some_iff.1 h.blk).1).trans h.blk
 rr:=okp h.rr fun z _ hz=>hb.block z hz
 ra:=okp h.ra fun z _ hz=>hb.block z hz
 reps:=fun j hj=>(h.reps j hj).later hb.size (fun ho _=>okp ho fun z _ hz=>hb.block z hz) (fun _ e=>(hb.block _ (Array.getElem?_eq_some_iff.1 e).1).trans e)
 accs:=fun j hj=>(h.accs j hj).later hb.size (fun ho _=>okp ho fun z _ hz=>hb.block z hz) (fun _ e=>(hb.block _ (Array.getElem?_eq_some_iff.1 e).1).trans e)
 all:=okp h.all fun z _ hz=>hb.block z hz
 new:=h.new
 be:=h.be.trans (hb.mono h.be.size)
 cfg:=(hb.block _ (Array.getElem?_eq_some_iff.1 h.cfg).1).trans h.cfg
 ijr:=h.ijr
 ija:=h.ija
theorem NewR.rep {w0 V:World}{y n k m:Nat}{vA:Value}{br ba:Nat→Nat}{vr va vm:Value}(h:NewR w0 V y n k m vA br ba vr va)(hm:IntOwn V vm (firstInts n))(hmn:∀ z,vm.ownBlock=some z→w0.heap.size≤z)(hk:k≤10) :
  ∃ g' cap' W1 br',(∀ ty,(Builtin.append_ #[115,115] ty #[vr,.slice (some ⟨V.heap.size+1,0,none⟩) 1 1]).run Tryz.prog ((V.alloc (.cells #[.bool true,.int .i64 0,.int .i64 0,vm,.slice none 0 0,.int .i64 0,.int .i64 0] 199)).alloc (.cells #[.pointer (some ⟨V.heap.size,0,none⟩)] 197))=.ok (.slice (some ⟨g',0,none⟩) (k+1) cap') W1) ∧
   W1.cell? ⟨y,0,none⟩=some vr∧W1.frozen? ⟨y,0,none⟩=false∧NewR w0 (W1.setCell ⟨y,0,none⟩ (.slice (some ⟨g',0,none⟩) (k+1) cap')) y n (k+1) m vA br' ba (.slice (some ⟨g',0,none⟩) (k+1) cap') va:=by
 obtain⟨X,hX⟩:∃ X,X=V.alloc (.cells #[.bool true,.int .i64 0,.int .i64 0,vm,.slice none 0 0,.int .i64 0,.int .i64 0] 199):=⟨_,rfl⟩
 have hsX:X.heap.size=V.heap.size+1:=by rw[hX];simp
 have hbX:Below V.heap.size V X:=by rw[hX];exact (Below.refl _ V).alloc (Nat.le_refl _) _
 have hM:X.heap[V.heap.size]?=some (.cells #[.bool true,.int .i64 0,.int .i64 0,vm,.slice none 0 0,.int .i64 0,.int .i64 0] 199):=by rw[hX];exact hnw _ _
 have hbZ:Below X.heap.size X (X.alloc (.cells #[.pointer (some ⟨V.heap.size,0,none⟩)] 197)):=(Below.refl _ X).alloc (Nat.le_refl _) _
 have IZ:=(h.below hbX).below hbZ
 have hnew:(X.alloc (.cells #[.pointer (some ⟨V.heap.size,0,none⟩)] 197)).heap[V.heap.size+1]?=some (.cells [Value.pointer (some ⟨V.heap.size,0,none⟩)].toArray 197):=by
  have:=hnw X (.cells #[.pointer (some ⟨V.heap.size,0,none⟩)] 197)
  rw[hsX] at this
  exact this
 obtain⟨g',cap',W1,hrun,ho1,hg1,hwh⟩:=append_row (t:=115) infoPRep Tryz.underlying115 rfl (by decide) (X.alloc (.cells #[.pointer (some ⟨V.heap.size,0,none⟩)] 197)) 0 vr k (ptrs br 0 k) [.pointer (some ⟨V.heap.size,0,none⟩)] (V.heap.size+1) IZ.rr hnew rfl (by intro u hu;rw[List.mem_singleton] at hu;subst hu;rfl) (by omega) (by decide) (Nat.zero_le _)
 have hsZ:(X.alloc (.cells #[.pointer (some ⟨V.heap.size,0,none⟩)] 197)).heap.size=V.heap.size+2:=by rw[World.size_alloc,hsX]
 have hw0V:=h.be.size
 generalize hZ:X.alloc (.cells #[.pointer (some ⟨V.heap.size,0,none⟩)] 197)=Z at *
 have hsW:=hg1.size
 have nb:vr.ownBlock≠some y:=bty IZ.blk IZ.rr (by decide)
 have hyl:y<Z.heap.size:=(Array.getElem?_eq_some_iff.1 IZ.blk).1
 have hyW:W1.heap[y]?=some (.cells #[vr,va,.slice none 0 0,.slice none 0 0,.slice none 0 0] 120):=(hg1.block y hyl (fun e=>nb e.symm)).trans IZ.blk
 obtain⟨U,hU⟩:∃ U,U=W1.setCell ⟨y,0,none⟩ (.slice (some ⟨g',0,none⟩) (k+1) cap'):=⟨_,rfl⟩
 have hMv:Moved Z U (fun z=>z=y∨vr.ownBlock=some z):=by
  rw[hU];exact ((Moved.refl Z _).grown hg1 (fun z _ e=>.inr e)).setCell ⟨y,0,none⟩ (.inl rfl) _
 have hkeep:∀ {base size n:Nat} {e:TypeId} {v:Value} {xs:List Value},Z.ownsRow base e size v n xs→e≠120→e≠197→U.ownsRow base e size v n xs:=fun ho h1 h2=>hMv.owns ho fun z hz hS=>by
  rcases hS with e|e
  ·exact bty IZ.blk ho h1 (e ▸ hz)
  ·exact otw ho IZ.rr h2 z hz e
 have hblkK:∀ {b:Nat} {cs:Array Value} {t:TypeId},Z.heap[b]?=some (.cells cs t)→t≠120→t≠197→U.heap[b]?=some (.cells cs t):=fun {b cs t} e h1 h2=>by
  refine (hMv.block b (Array.getElem?_eq_some_iff.1 e).1 fun hS => ?_).trans e
  rcases hS with q|q
  ·rw[q,IZ.blk] at e
   injection e with e
   injection e with e1 e2
   exact h1 e2.symm
  ·exact bty e IZ.rr (fun q=>h2 q.symm) q
 have hbrV:V.heap.size≠y:=by
  have:=(Array.getElem?_eq_some_iff.1 h.blk).1
  omega
 have hsZU:=hMv.size
 have hMZ:Z.heap[V.heap.size]?=some (.cells #[.bool true,.int .i64 0,.int .i64 0,vm,.slice none 0 0,.int .i64 0,.int .i64 0] 199):=(hbZ.block _ (by omega)).trans hM
 have hvmV:∀ z,vm.ownBlock=some z→z<V.heap.size:=fun z e=>(Array.getElem?_eq_some_iff.1 (obc hm e).choose_spec.1).1
 have hmZ:IntOwn Z vm (firstInts n):=okp (okp hm fun z _ hz=>hbX.block z hz) fun z _ hz=>hbZ.block z hz
 refine⟨g',cap',W1,fun j=>if j=k then V.heap.size else br j,fun ty=>by rw[← hX,hZ];exact hrun ty,coh hyW 0,foh hyW 0, ?_⟩
 rw[← hU];refine⟨?_, ?_,hkeep IZ.ra (by decide) (by decide),fun j hj => ?_,fun j hj => ?_,hkeep IZ.all (by decide) (by decide),⟨h.new.1,fun z e => ?_,h.new.2.2.1,h.new.2.2.2⟩, ?_,hblkK IZ.cfg (by decide) (by decide),fun i j hi hj e => ?_,h.ija⟩
 ·rw[hU]
  exact heap_setCell_same _ _ _ _ _ _ hyW
 ·have hr:=ownsRow_setCell_other (a:=⟨y,0,none⟩) ho1 (bty hyW ho1 (by decide)) (.slice (some ⟨g',0,none⟩) (k+1) cap')
  rw[← hU] at hr
  rw[ptrs_snoc,Nat.zero_add,if_pos rfl,ptrs_same _ br 0 k (fun i hi=>by rw[Nat.zero_add,if_neg (by omega)])]
  exact hr
 ·by_cases hjk:j=k
  ·rw[if_pos hjk]
   refine⟨vm,.slice none 0 0,hblkK hMZ (by decide) (by decide),hkeep hmZ (by decide) (by decide),World.ownsRow_nil _ _ _ _,⟨hw0V,by omega⟩,fun z e=>⟨hmn z e,by have:=hvmV z e;omega⟩,fun z e=>absurd e no_row⟩
  ·rw[if_neg hjk]
   exact (IZ.reps j (by omega)).later hsZU (fun ho e=>hkeep ho (by rcases e with e|e<;>(rw[e];decide)) (by rcases e with e|e<;>(rw[e];decide))) (fun _ e=>hblkK e (by decide) (by decide))
 ·exact (IZ.accs j hj).later hsZU (fun ho e=>hkeep ho (by rcases e with e|e<;>(rw[e];decide)) (by rcases e with e|e<;>(rw[e];decide))) (fun _ e=>hblkK e (by decide) (by decide))
 ·have hg:g'=z:=by simpa [Value.ownBlock] using e
  rcases hwh with q|q
  ·exact h.new.2.1 z (hg ▸ q)
  ·omega
 ·refine IZ.be.trans (hMv.to_below (fun z q => ?_) IZ.be.size)
  rcases q with q|q
  ·rw[q];exact h.new.1
  ·exact h.new.2.1 z q
 ·have old:∀ t,t<k→br t<V.heap.size:=fun t ht=>by
   obtain⟨_,_,q,_⟩:=h.reps t ht
   exact (Array.getElem?_eq_some_iff.1 q).1
  by_cases h1:i=k
  ·by_cases h2:j=k
   ·omega
   ·rw[if_pos h1,if_neg h2] at e
    have:=old j (by omega)
    omega
  ·by_cases h2:j=k
   ·rw[if_neg h1,if_pos h2] at e
    have:=old i (by omega)
    omega
   ·rw[if_neg h1,if_neg h2] at e
    exact h.ijr i j (by omega) (by omega) e
theorem NewR.acc {w0 V:World}{y n k m:Nat}{vA:Value}{br ba:Nat→Nat}{vr va vm:Value}(h:NewR w0 V y n k m vA br ba vr va)(hm:IntOwn V vm (firstInts n))(hmn:∀ z,vm.ownBlock=some z→w0.heap.size≤z)(hk:m≤10) :
  ∃ g' cap' W1 ba',(∀ ty,(Builtin.append_ #[116,116] ty #[va,.slice (some ⟨V.heap.size+1,0,none⟩) 1 1]).run Tryz.prog ((V.alloc (.cells #[.bool true,.int .i64 0,vm,.slice none 0 0] 203)).alloc (.cells #[.pointer (some ⟨V.heap.size,0,none⟩)] 200))=.ok (.slice (some ⟨g',0,none⟩) (m+1) cap') W1) ∧
   W1.cell? ⟨y,1,none⟩=some va∧W1.frozen? ⟨y,1,none⟩=false∧NewR w0 (W1.setCell ⟨y,1,none⟩ (.slice (some ⟨g',0,none⟩) (m+1) cap')) y n k (m+1) vA br ba' vr (.slice (some ⟨g',0,none⟩) (m+1) cap'):=by
 obtain⟨X,hX⟩:∃ X,X=V.alloc (.cells #[.bool true,.int .i64 0,vm,.slice none 0 0] 203):=⟨_,rfl⟩
 have hsX:X.heap.size=V.heap.size+1:=by rw[hX];simp
 have hbX:Below V.heap.size V X:=by rw[hX];exact (Below.refl _ V).alloc (Nat.le_refl _) _
 have hM:X.heap[V.heap.size]?=some (.cells #[.bool true,.int .i64 0,vm,.slice none 0 0] 203):=by rw[hX];exact hnw _ _
 have hbZ:Below X.heap.size X (X.alloc (.cells #[.pointer (some ⟨V.heap.size,0,none⟩)] 200)):=(Below.refl _ X).alloc (Nat.le_refl _) _
 have IZ:=(h.below hbX).below hbZ
 have hnew:(X.alloc (.cells #[.pointer (some ⟨V.heap.size,0,none⟩)] 200)).heap[V.heap.size+1]?=some (.cells [Value.pointer (some ⟨V.heap.size,0,none⟩)].toArray 200):=by
  have:=hnw X (.cells #[.pointer (some ⟨V.heap.size,0,none⟩)] 200)
  rw[hsX] at this
  exact this
 obtain⟨g',cap',W1,hrun,ho1,hg1,hwh⟩:=append_row (t:=116) infoPAcc Tryz.underlying116 rfl (by decide) (X.alloc (.cells #[.pointer (some ⟨V.heap.size,0,none⟩)] 200)) 0 va m (ptrs ba 0 m) [.pointer (some ⟨V.heap.size,0,none⟩)] (V.heap.size+1) IZ.ra hnew rfl (by intro u hu;rw[List.mem_singleton] at hu;subst hu;rfl) (by omega) (by decide) (Nat.zero_le _)
 have hsZ:(X.alloc (.cells #[.pointer (some ⟨V.heap.size,0,none⟩)] 200)).heap.size=V.heap.size+2:=by rw[World.size_alloc,hsX]
 have hw0V:=h.be.size
 generalize hZ:X.alloc (.cells #[.pointer (some ⟨V.heap.size,0,none⟩)] 200)=Z at *
 have hsW:=hg1.size
 have nb:va.ownBlock≠some y:=bty IZ.blk IZ.ra (by decide)
 have hyl:y<Z.heap.size:=(Array.getElem?_eq_some_iff.1 IZ.blk).1
 have hyW:W1.heap[y]?=some (.cells #[vr,va,.slice none 0 0,.slice none 0 0,.slice none 0 0] 120):=(hg1.block y hyl (fun e=>nb e.symm)).trans IZ.blk
 obtain⟨U,hU⟩:∃ U,U=W1.setCell ⟨y,1,none⟩ (.slice (some ⟨g',0,none⟩) (m+1) cap'):=⟨_,rfl⟩
 have hMv:Moved Z U (fun z=>z=y∨va.ownBlock=some z):=by
  rw[hU];exact ((Moved.refl Z _).grown hg1 (fun z _ e=>.inr e)).setCell ⟨y,1,none⟩ (.inl rfl) _
 have hkeep:∀ {base size n:Nat} {e:TypeId} {v:Value} {xs:List Value},Z.ownsRow base e size v n xs→e≠120→e≠200→U.ownsRow base e size v n xs:=fun ho h1 h2=>hMv.owns ho fun z hz hS=>by
  rcases hS with e|e
  ·exact bty IZ.blk ho h1 (e ▸ hz)
  ·exact otw ho IZ.ra h2 z hz e
 have hblkK:∀ {b:Nat} {cs:Array Value} {t:TypeId},Z.heap[b]?=some (.cells cs t)→t≠120→t≠200→U.heap[b]?=some (.cells cs t):=fun {b cs t} e h1 h2=>by
  refine (hMv.block b (Array.getElem?_eq_some_iff.1 e).1 fun hS => ?_).trans e
  rcases hS with q|q
  ·rw[q,IZ.blk] at e
   injection e with e
   injection e with e1 e2
   exact h1 e2.symm
  ·exact bty e IZ.ra (fun q=>h2 q.symm) q
 have hbrV:V.heap.size≠y:=by
  have:=(Array.getElem?_eq_some_iff.1 h.blk).1
  omega
 have hsZU:=hMv.size
 have hMZ:Z.heap[V.heap.size]?=some (.cells #[.bool true,.int .i64 0,vm,.slice none 0 0] 203):=(hbZ.block _ (by omega)).trans hM
 have hvmV:∀ z,vm.ownBlock=some z→z<V.heap.size:=fun z e=>(Array.getElem?_eq_some_iff.1 (obc hm e).choose_spec.1).1
 have hmZ:IntOwn Z vm (firstInts n):=okp (okp hm fun z _ hz=>hbX.block z hz) fun z _ hz=>hbZ.block z hz
 refine⟨g',cap',W1,fun j=>if j=m then V.heap.size else ba j,fun ty=>by rw[← hX,hZ];exact hrun ty,coh hyW 1,foh hyW 1, ?_⟩
 rw[← hU];refine⟨?_,hkeep IZ.rr (by decide) (by decide), ?_,fun j hj => ?_,fun j hj => ?_,hkeep IZ.all (by decide) (by decide),⟨h.new.1,h.new.2.1,fun z e => ?_,h.new.2.2.2⟩, ?_,hblkK IZ.cfg (by decide) (by decide),h.ijr,fun i j hi hj e => ?_⟩
 ·rw[hU]
  exact heap_setCell_same _ _ _ _ _ _ hyW
 ·have hr:=ownsRow_setCell_other (a:=⟨y,1,none⟩) ho1 (bty hyW ho1 (by decide)) (.slice (some ⟨g',0,none⟩) (m+1) cap')
  rw[← hU] at hr
  rw[ptrs_snoc,Nat.zero_add,if_pos rfl,ptrs_same _ ba 0 m (fun i hi=>by rw[Nat.zero_add,if_neg (by omega)])]
  exact hr
 ·exact (IZ.reps j hj).later hsZU (fun ho e=>hkeep ho (by rcases e with e|e<;>(rw[e];decide)) (by rcases e with e|e<;>(rw[e];decide))) (fun _ e=>hblkK e (by decide) (by decide))
 ·by_cases hjk:j=m
  ·rw[if_pos hjk]
   refine⟨vm,hblkK hMZ (by decide) (by decide),hkeep hmZ (by decide) (by decide),⟨hw0V,by omega⟩,fun z e=>⟨hmn z e,by have:=hvmV z e;omega⟩,VotesAt.nil _ _⟩
  ·rw[if_neg hjk]
   exact (IZ.accs j (by omega)).later hsZU (fun ho e=>hkeep ho (by rcases e with e|e<;>(rw[e];decide)) (by rcases e with e|e<;>(rw[e];decide))) (fun _ e=>hblkK e (by decide) (by decide))
 ·have hg:g'=z:=by simpa [Value.ownBlock] using e
  rcases hwh with q|q
  ·exact h.new.2.2.1 z (hg ▸ q)
  ·omega
 ·refine IZ.be.trans (hMv.to_below (fun z q => ?_) IZ.be.size)
  rcases q with q|q
  ·rw[q];exact h.new.1
  ·exact h.new.2.2.1 z q
 ·have old:∀ t,t<m→ba t<V.heap.size:=fun t ht=>by
   obtain⟨_,q,_⟩:=h.accs t ht
   exact (Array.getElem?_eq_some_iff.1 q).1
  by_cases h1:i=m
  ·by_cases h2:j=m
   ·omega
   ·rw[if_pos h1,if_neg h2] at e
    have:=old j (by omega)
    omega
  ·by_cases h2:j=m
   ·rw[if_neg h1,if_pos h2] at e
    have:=old i (by omega)
    omega
   ·rw[if_neg h1,if_neg h2] at e
    exact h.ija i j (by omega) (by omega) e
def masCells (u:Bool)(n:Nat):Array Value:=#[.bool u,.int .i64 (n:Int),.int .i64 0,.int .i64 0,.int .i64 0,.slice none 0 0,.slice none 0 0,.slice none 0 0,.slice none 0 0,.slice none 0 0]
theorem RMasAt.still {w:World}{F:Nat→Prop}{b:Nat}{u:Bool}{n:Nat}(h:w.heap[b]?=some (.cells (masCells u n) 206))(hF:F b):RMasAt w F b (.slice none 0 0) (Mas.still u n) :=
 ⟨.slice none 0 0,.slice none 0 0,.slice none 0 0,.slice none 0 0,h,⟨World.ownsRow_nil _ _ _ _,World.ownsRow_nil _ _ _ _,World.ownsRow_nil _ _ _ _,World.ownsRow_nil _ _ _ _⟩,hF,⟨InF.nil _,InF.nil _,InF.nil _,InF.nil _⟩,[],rfl,World.ownsRow_nil _ _ _ _,InF.nil _,fun _ h=>absurd h List.not_mem_nil⟩
end Go.Proofs.YtgieeeeeiggoeaaGreat
