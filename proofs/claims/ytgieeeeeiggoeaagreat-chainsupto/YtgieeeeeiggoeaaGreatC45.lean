import Derived.Test.YtgieeeeeiggoeaaGreatC43
import Derived.Test.YtgieeeeeiggoeaaGreatC31
import Derived.Test.YtgieeeeeiggoeaaGreatC32
set_option maxRecDepth 100000
set_option maxHeartbeats 2000000
namespace Go.Proofs.YtgieeeeeiggoeaaGreat
open Go.RowKit Go.Shelf
theorem append_frs (W:World)(base:Nat)(v:Value)(l m:List (List UInt8 × Bool))(A:Addr)(cap:Nat)(hown:W.ownsRow base 214 2 v l.length (frV l))(hA:∀ j u,(frV m)[j]?=some u→W.cell? (A.add j)=some u)(hl:l.length+m.length≤1000)(hb:base≤W.heap.size) :
  ∃ v' W',(∀ ty,(Builtin.append_ #[118,118] ty #[v,.slice (some A) m.length cap]).run Tryz.prog W=.ok v' W') ∧
   W'.ownsRow base 214 2 v' (l++m).length (frV (l++m))∧W.grownBy W' v.ownBlock∧(v'.ownBlock=v.ownBlock∨v'.ownBlock=some W.heap.size):=by
 obtain⟨i0,hi,hz0,hz1,hz2⟩:=info_parts infoFrm
 have hB:∀ ty,∃ v' W',(Builtin.append_ #[118,118] ty #[v,.slice (some A) m.length cap]).run Tryz.prog W=.ok v' W' ∧
   W'.ownsRow base 214 2 v' (l++m).length (frV (l++m))∧W.grownBy W' v.ownBlock∧(v'.ownBlock=v.ownBlock∨v'.ownBlock=some W.heap.size):=fun ty=>by
  obtain⟨v',W',hr,h2,h3,_,h5⟩:=run_append_own_at (P:=Tryz.prog) W base 118 ty 214 i0 _ 2 24 Tryz.underlying118 hi hz0 hz1 hz2 rfl (by decide) v l.length (frV l) hown A m.length cap (frV m) (frV_length m) hA (frV_one m) (by unfold maxLen;omega) (by omega) hb
  rw[← frV_append, ← List.length_append] at h2
  exact⟨v',W',hr,h2,h3,h5⟩
 obtain⟨v',W',hr,h2⟩:=hB 0
 refine⟨v',W',fun ty => ?_,h2⟩
 rw[← hr];rfl
theorem refGone_any {w:World}{F:Nat→Prop}{y:Nat}{c:Clu}(k:Nat)(h:RefAt w F y c)(hl:c.bag.length≤200)(hk:k<c.bag.length) :
  Calls Tryz.prog 138 #[.pointer (some ⟨y,0,none⟩),.int .i64 (k:Int)] w fun r w'=>(∃ v,r=.returned v)∧OutAfter w F y (c.gone (k:Int)) w':=by
 have HG:Hid (c.gone (k:Int)={ c with bag:=c.bag.take k++c.bag.drop (k+1) }):=hideA (by unfold Clu.gone;rw[Int.toNat_natCast,eraseIdx_parts])
 obtain⟨br,ba,bm,vr,va,vm,vb,vt,vv,vc,h⟩:=h;obtain⟨g,cb,hv, -, -⟩:=h.bag.form (by omega)
 subst hv;have hcb:c.bag.length≤cb:=by
  rcases h.bag.2 with ⟨h0,_⟩|⟨g',cap',cur,hv,_,_,hnc,_⟩
  ·cases h0
  ·cases hv
   exact hnc
 have c3:w.cell? ⟨y,3,none⟩=some (.slice (some ⟨g,0,none⟩) c.bag.length cb):=coh h.blk 3
 have hyl:y<w.heap.size:=(Array.getElem?_eq_some_iff.1 h.blk).1
 have hcell:∀ j u,(frV c.bag)[j]?=some u→w.cell? ⟨g,j,none⟩=some u:=fun j u hu=>by
  have hj:=(List.getElem?_eq_some_iff.1 hu).1
  rw[frV_length] at hj
  rw[World.ownsRow.cellAt h.bag j hj,hu]
 have hadd:∀ o j,(⟨g,o,none⟩:Addr).add j=⟨g,o+j,none⟩:=fun o j=>by rw[Addr.add_lit]
 obtain⟨v1,W1,hr1,ho1,hg1,hw1⟩:=append_frs w w.heap.size (.slice none 0 0) [] (c.bag.take k) ⟨g,0,none⟩ cb (World.ownsRow_nil _ _ _ _) (fun j u hu=>by
  rw[hadd,Nat.zero_add];rw[frV_take] at hu
  exact hcell j u (by rw[← hu,List.getElem?_take_of_lt];have:=(List.getElem?_eq_some_iff.1 hu).1;rw[List.length_take] at this;omega)) (by rw[List.length_take];simp;omega) (Nat.le_refl _)
 have hb1:Below w.heap.size w W1:=((Moved.refl w (fun _=>False)).grown hg1 (fun z _ e=>by simp[Value.ownBlock] at e)).to_below (fun _ e=>e.elim) (Nat.le_refl _)
 rw[List.nil_append] at ho1
 have hlt:(c.bag.take k).length=k:=by rw[List.length_take];omega
 obtain⟨A,hA,hsrc⟩:∃ A:Addr,(if cb=k+1 then some (⟨g,0,none⟩:Addr) else some ⟨g,(k+1)*2,none⟩)=some A∧∀ t u,(frV (c.bag.drop (k+1)))[t]?=some u→W1.cell? (A.add t)=some u:=by
  by_cases h9:cb=k+1
  ·refine⟨⟨g,0,none⟩,by simp[h9],fun t u hu => ?_⟩
   rw[List.drop_of_length_le (by omega)] at hu
   simp[frV] at hu
  ·refine⟨⟨g,(k+1)*2,none⟩,by simp[h9],fun t u hu => ?_⟩
   rw[hadd];rw[frV_drop,List.getElem?_drop] at hu
   exact cell_later hb1 (hcell _ u hu)
 obtain⟨v2,W2,hr2,ho2,hg2,hw2⟩:=append_frs W1 w.heap.size v1 (c.bag.take k) (c.bag.drop (k+1)) A (cb-(k+1)) ho1 hsrc (by rw[List.length_take,List.length_drop];omega) hb1.size
 have hld:(c.bag.drop (k+1)).length=c.bag.length-(k+1):=List.length_drop
 rw[hlt] at hr1
 rw[hld] at hr2
 have M2:Moved w W2 (fun k=>k=y∨(Value.slice (some ⟨g,0,none⟩) c.bag.length cb).ownBlock=some k∨vt.ownBlock=some k):=((Moved.refl w _).below hb1).grown hg2 (fun z hz e=>by
  have:=(ho1.lt z e).1
  omega)
 have hb2:Below w.heap.size w W2:=hb1.trans ((Moved.refl W1 (fun z=>v1.ownBlock=some z)).grown hg2 (fun z _ e=>e) |>.to_below (fun z e=>(ho1.lt z e).1) hb1.size)
 have hyW:W2.heap[y]?=some (.cells #[vr,va,vm,.slice (some ⟨g,0,none⟩) c.bag.length cb,vt] 120):=(hb2.block y hyl).trans h.blk
 obtain⟨av1,cv1,hvv1⟩:=osh ho1
 obtain⟨av2,cv2,hvv2⟩:=osh ho2
 subst hvv1;subst hvv2;have d3:=coh hyW 3
 have e3:=foh hyW 3
 have c3b:=cell_later hb1 c3
 have HF:Hid (OutAfter w F y { c with bag:=c.bag.take k++c.bag.drop (k+1) } (W2.setCell ⟨y,3,none⟩ (.slice av2 (c.bag.take k++c.bag.drop (k+1)).length cv2))):=hideA (by
  have M3:=M2.setCell ⟨y,3,none⟩ (.inl rfl) (.slice av2 (c.bag.take k++c.bag.drop (k+1)).length cv2)
  have hr:=ownsRow_setCell_other (a:=⟨y,3,none⟩) ho2 (bty hyW ho2 (by decide)) (.slice av2 (c.bag.take k++c.bag.drop (k+1)).length cv2)
  have hS:∀ k,k=y∨(Value.slice (some ⟨g,0,none⟩) c.bag.length cb).ownBlock=some k∨vt.ownBlock=some k→F k:=fun k hk=>h.inF k (by
   rcases hk with e|e|e
   ·exact .inl e
   ·exact .inr (.inr (.inr (.inl e)))
   ·exact .inr (.inr (.inr (.inr (.inl e)))))
  have hs2:=M3.size
  have hro:(W2.setCell ⟨y,3,none⟩ (.slice av2 (c.bag.take k++c.bag.drop (k+1)).length cv2)).ownsRow 0 113 3 vt c.told.length (ints (ansNums c.told)) :=
   ownsRow_setCell_other (a:=⟨y,3,none⟩) (okp h.told fun z _ hz=>hb2.block z hz) (bty h.blk h.told (by decide)) _
  refine⟨⟨br,ba,bm,vr,va,vm,_,vt,vv,vc,h.outTo (c.bag.take k++c.bag.drop (k+1)) c.told (.slice av2 (c.bag.take k++c.bag.drop (k+1)).length cv2) vt M3 (fun k e=>.inl e) (Gr.lt h.lt hs2) (set5_3 _ hyW) (obs hr (Nat.zero_le _)) hro ?_ ?_⟩,M3.wider hS,fun _ _ _ hm=>hm.off M3 h.blk h.bag h.told⟩
  ·exact InF.new hr (Nat.le_refl _)
  ·exact fun k hk=>.inl (h.inF k (.inr (.inr (.inr (.inr (.inl hk)))))))
 rw[hlt] at hr2
 have HR1:=hideA hr1;have HR2:=hideA hr2;have hk0:(0:Int)≤(k:Int):=by omega
 have hk1:(k:Int)≤(c.bag.length:Int):=by omega
 have hk2:(0:Int)≤(k:Int)+1:=by omega
 have hk3:(k:Int)+1≤(c.bag.length:Int):=by omega
 have hk4:k≤cb:=by omega
 have hk5:k+1≤cb:=by omega
 have hwr:IntKind.i64.wrap ((k:Int)+1)=(k:Int)+1:=by rw[IntKind.wrap_i64];omega
 clear h hr1 hr2 hcell ho1 ho2 hg1 hg2 hw1 hw2 hb1 hb2 M2 hyW hsrc hadd;go_enter Tryz.func138,Tryz.ntmps138
 go_wp2_with (at_builtin;first
  | refine wpList_append_run rfl (.tmp 5) (.tmp 11) 118 rfl _ _ _ _ (by simp[Act.eval]) (by simp[Act.eval]) HR1.out ?_
  | refine wpList_append_run rfl (.tmp 14) (.tmp 21) 118 rfl _ _ _ _ (by simp[Act.eval]) (by simp[Act.eval]) HR2.out ?_)
 go_wp2_with fail;go_end0
 rw[HG.out];have hF:=HF.out
 rw[show (c.bag.take k++c.bag.drop (k+1)).length=k+(c.bag.length-(k+1)) by rw[List.length_append,hlt,hld]] at hF
 exact⟨⟨_,rfl⟩,hF⟩
theorem refDrop_any {w:World}{F:Nat→Prop}{y:Nat}{c:Clu}(d:Int)(h:RefAt w F y c)(hl:c.bag.length≤200) :
  Calls Tryz.prog 85 #[.pointer (some ⟨y,0,none⟩),.int .i64 d] w fun r w'=>r=.returned (.int .i64 (c.drop d).2)∧RefAfter w F y (c.drop d).1 w':=by
 have HA:=hideA h;obtain⟨br,ba,bm,vr,va,vm,vb,vt,vv,vc,h⟩:=h;obtain⟨ab,cb,rfl⟩:=osh h.bag
 have c3:w.cell? ⟨y,3,none⟩=some (.slice ab c.bag.length cb):=coh h.blk 3
 clear h;by_cases hh:c.hasFrame d
 ·have hh1:=hh.1
  have hh2:=hh.2
  have H:Hid (c.drop d=(c.gone d,0)):=hideA (by unfold Clu.drop;rw[if_pos hh])
  obtain⟨k,rfl⟩:∃ k:Nat,d=(k:Int):=⟨d.toNat,by omega⟩
  have HG:=hideA (refGone_any k HA.out hl (by omega))
  have h3:¬ (k:Int)<0:=by omega
  clear hh;go_enter Tryz.func85,Tryz.ntmps85
  go_wp2_with fail;refine HG.out.mono ?_
  rintro e W ⟨⟨v,rfl⟩,hC⟩;have HC:=hideA hC;clear hC;go_wp2_with fail;go_ret;rw[H.out];exact⟨rfl,HC.out.after⟩
 ·have H:Hid (c.drop d=(c,8)):=hideA (by unfold Clu.drop;rw[if_neg hh])
  by_cases h3:d<0
  ·clear hh
   go_enter Tryz.func85,Tryz.ntmps85
   go_wp2_with fail;go_ret;rw[H.out];exact⟨rfl,RefAfter.still HA.out (Below.refl _ _)⟩
  ·have h4:(c.bag.length:Int)≤d:=by
    unfold Clu.hasFrame at hh
    omega
   clear hh;go_enter Tryz.func85,Tryz.ntmps85
   go_wp2_with fail;go_ret;rw[H.out];exact⟨rfl,RefAfter.still HA.out (Below.refl _ _)⟩
theorem refDouble_any {w:World}{F:Nat→Prop}{y:Nat}{c:Clu}(d:Int)(h:RefAt w F y c)(hl:c.bag.length≤200) :
  Calls Tryz.prog 86 #[.pointer (some ⟨y,0,none⟩),.int .i64 d] w fun r w'=>r=.returned (.int .i64 (c.double d).2)∧RefAfter w F y (c.double d).1 w':=by
 have HA:=hideA h;obtain⟨br,ba,bm,vr,va,vm,vb,vt,vv,vc,h⟩:=h;obtain⟨ab,cb,rfl⟩:=osh h.bag
 have c3:w.cell? ⟨y,3,none⟩=some (.slice ab c.bag.length cb):=coh h.blk 3
 by_cases hh:c.hasFrame d
 ·have hh1:=hh.1
  have hh2:=hh.2
  have H:Hid (c.double d=({ c with bag:=putOne c.bag (c.bag.getD d.toNat ([],false)) },0)):=hideA (by unfold Clu.double;rw[if_pos hh,double_put c hl];rfl)
  obtain⟨k,rfl⟩:∃ k:Nat,d=(k:Int):=⟨d.toNat,by omega⟩
  rw[Int.toNat_natCast] at H
  have hkl:k<c.bag.length:=by omega
  obtain⟨g,cap,hv, -, -⟩:=h.bag.form (by omega)
  cases hv
  have hf:c.bag[k]?=some (c.bag.getD k ([],false)):=by rw[List.getD_eq_getElem?_getD,List.getElem?_eq_getElem hkl];rfl
  have f0:=World.ownsRow.cellAt h.bag (k*2) (by omega)
  have f1:=World.ownsRow.cellAt h.bag (k*2+1) (by omega)
  rw[(frVat c.bag k _ hf).1] at f0
  rw[(frVat c.bag k _ hf).2] at f1
  have HG:=hideA (refPut_any (c.bag.getD k ([],false)) HA.out hl)
  generalize c.bag.getD k ([],false)=fr at *
  have h3:¬ (k:Int)<0:=by omega
  have h5:(0:Int)≤(k:Int):=by omega
  clear hh h hf;go_enter Tryz.func86,Tryz.ntmps86
  go_wp2_with fail;refine HG.out.mono ?_
  rintro e W ⟨⟨v,rfl⟩,hC⟩;have HC:=hideA hC;clear hC;go_wp2_with fail;go_ret;rw[H.out];exact⟨rfl,HC.out.after⟩
 ·have H:Hid (c.double d=(c,8)):=hideA (by unfold Clu.double;rw[if_neg hh])
  by_cases h3:d<0
  ·clear hh h
   go_enter Tryz.func86,Tryz.ntmps86
   go_wp2_with fail;go_ret;rw[H.out];exact⟨rfl,RefAfter.still HA.out (Below.refl _ _)⟩
  ·have h4:(c.bag.length:Int)≤d:=by
    unfold Clu.hasFrame at hh
    omega
   clear hh h;go_enter Tryz.func86,Tryz.ntmps86
   go_wp2_with fail;go_ret;rw[H.out];exact⟨rfl,RefAfter.still HA.out (Below.refl _ _)⟩
theorem ansNums_snoc (l:List Ans)(a:Ans):ints (ansNums (l++[a]))=ints (ansNums l)++[.int .i64 a.client,.int .i64 a.seq,.int .i64 a.value]:=by
 unfold ansNums ints
 rw[List.flatMap_append,List.map_append];rfl
def arrOf (c:Clu)(L:List UInt8):Clu:=match msgOf L with|none=>c|some m=>c.arrive m
theorem findIn_no {c:Clu}{gs:Nat}{d:Int}(h:c.upOf d≠some true):∃ en,(en == (0:Int))=false∧findIn c gs true d=.tuple #[.pointer none,.int .i64 en]:=by
 rw[upOf_nod] at h
 unfold findIn
 cases hp:nodPlace c.reps.length d with
 | none=>exact⟨4,rfl,rfl⟩
 | some j =>
  rw[hp] at h
  simp only [Option.map_some,ne_eq,Option.some.injEq] at h
  exact⟨5,rfl,by simp[h]⟩
theorem findIn_yes {c:Clu}{gs:Nat}{d:Int}(h:c.upOf d=some true):∃ j,nodPlace c.reps.length d=some j∧(c.nod j).up=true∧findIn c gs true d=.tuple #[.pointer (some ⟨gs,j*3,none⟩),.int .i64 0]:=by
 rw[upOf_nod] at h
 unfold findIn
 cases hp:nodPlace c.reps.length d with
 | none=>rw[hp] at h;cases h
 | some j =>
  rw[hp] at h
  simp only [Option.map_some,Option.some.injEq] at h
  exact⟨j,rfl,h,by simp[h]⟩
theorem cluTell_any {X:World}{F:Nat→Prop}{x:Nat}{c:Clu}(m:Msg)(a1:Option Addr)(d1:Nat)(a2:Option Addr)(d2:Nat)(h:CAt X F x c)(ht:c.told.length≤2999999999999) :
  Calls Tryz.prog 118 #[.pointer (some ⟨x,0,none⟩),.agg #[.int .i64 m.kind,.int .i64 m.src,.int .i64 m.dst,.int .i64 m.epoch,.int .i64 m.ballot,.int .i64 m.vote,.int .i64 m.pos,.int .i64 m.value,.slice a1 m.mems.length d1,.slice a2 m.log.length d2]] X fun r w'=>(∃ v,r=.returned v)∧CAfter X F x (c.tell m) w':=by
 have HA:=hideA h;obtain⟨gs,cap,b,Fn,vr,va,vm,vb,vt,h⟩:=h;have IX:=hideA h;have hxl:x<X.heap.size:=h.lt x (h.inO x (.inl rfl))
 have HCl:=fun W=>hideA (isClient_any m.dst W)
 have HT:Hid (c.tell m=if m.kind=4∧300≤m.dst∧m.dst≤303 then { c with told:=c.told++[⟨m.dst-300,m.pos,m.value⟩] } else c):=hideA rfl
 obtain⟨B0,hB0,hbB0,hMB0⟩:=msg_box X m (.slice a1 m.mems.length d1) (.slice a2 m.log.length d2)
 have k0:B0.cell? ⟨X.heap.size,0,none⟩=some (.int .i64 m.kind):=coh hMB0 0
 have k2:B0.cell? ⟨X.heap.size,2,none⟩=some (.int .i64 m.dst):=coh hMB0 2
 have k6:B0.cell? ⟨X.heap.size,6,none⟩=some (.int .i64 m.pos):=coh hMB0 6
 have k7:B0.cell? ⟨X.heap.size,7,none⟩=some (.int .i64 m.value):=coh hMB0 7
 clear h hMB0;cases tk:(m.kind == 4) with
 | false =>
  have HV:Hid (c.tell m=c):=hideA (by rw[HT.out,if_neg (fun e=>by rw[e.1] at tk;simp at tk)])
  go_enter Tryz.func118,Tryz.ntmps118
  go_wp2_with fail;go_end0
  rw[HV.out];exact⟨⟨_,rfl⟩,CAfter.still HA.out hbB0⟩
 | true =>
  have PK:Hid (m.kind=4):=hideA (by simpa using tk)
  by_cases hcl:300≤m.dst∧m.dst≤303
  ·have HV:Hid (c.tell m={ c with told:=c.told++[⟨m.dst-300,m.pos,m.value⟩] }):=hideA (by rw[HT.out,if_pos ⟨PK.out,hcl⟩])
   have hdd:decide (300≤m.dst∧m.dst≤303)=true:=decide_eq_true hcl
   rw[hdd] at HCl
   clear hdd;have hwr:IntKind.i64.wrap (m.dst-300)=m.dst-300:=by rw[IntKind.wrap_i64];omega
   have mixed:Tryz.prog.follows Departure.mixedOrders=true:=by kernel_rfl
   obtain⟨av,cv,hvt⟩:=osh IX.out.rt
   subst hvt;have c5:=coh IX.out.bag.blk 5
   have c5B:=cell_later hbB0 c5
   obtain⟨Z,hZ⟩:∃ Z,Z=(B0.alloc (.cells #[.int .i64 (m.dst-300),.int .i64 m.pos,.int .i64 m.value] 113)).drew:=⟨_,rfl⟩
   have hbZ:Below X.heap.size X Z:=by rw[hZ];exact hbB0.trans ((((Below.refl _ B0).alloc (Nat.le_refl _) _).drew).mono hbB0.size)
   have hs0:=hbB0.size
   have IZ:=IX.out.below hbZ
   have hsZ:Z.heap.size=B0.heap.size+1:=by rw[hZ];simp
   obtain⟨g',cap',W1,hrun,ho1,hg1,hwh⟩:=append_row3 (t:=91) infoAns Tryz.underlying91 rfl (by decide) Z 0 (.slice av c.told.length cv) c.told.length (ints (ansNums c.told)) [.int .i64 (m.dst-300),.int .i64 m.pos,.int .i64 m.value] B0.heap.size IZ.rt (by rw[hZ];exact hnw _ _) rfl (by intro u hu;simp at hu;rcases hu with rfl|rfl|rfl<;>rfl) (by omega) (by decide) (Nat.zero_le _)
   have nb:(Value.slice av c.told.length cv).ownBlock≠some x:=bty IX.out.bag.blk IX.out.rt (by decide)
   have hxW:W1.heap[x]?=some (.cells #[.slice (some ⟨gs,0,none⟩) (c.reps.length+5) cap,vr,va,vm,vb,.slice av c.told.length cv] 93):=(hg1.block x (by omega) (fun e=>nb e.symm)).trans IZ.bag.blk
   have d5:=coh hxW 5
   have e5:=foh hxW 5
   have z5:∀ o,(B0.alloc o).cell? ⟨x,5,none⟩=some (.slice av c.told.length cv):=fun o=>cell_later ((Below.refl _ B0).alloc (Nat.le_refl _) o) c5B
   have M1:Moved X W1 (fun k=>k=x∨(Value.slice av c.told.length cv).ownBlock=some k):=((Moved.refl X _).below hbZ).grown hg1 (fun k _ e=>.inr e)
   have HFin:Hid (CAfter X F x { c with told:=c.told++[⟨m.dst-300,m.pos,m.value⟩] } (W1.setCell ⟨x,5,none⟩ (.slice (some ⟨g',0,none⟩) (c.told.length+1) cap'))):=hideA (by
    refine IX.out.toldTo _ (.slice (some ⟨g',0,none⟩) (c.told.length+1) cap') (set6_5 _ hxW) ?_ (M1.setCell ⟨x,5,none⟩ (.inl rfl) _) ?_
    ·rw[List.length_append,ansNums_snoc]
     exact ownsRow_setCell_other ho1 (bty hxW ho1 (by decide)) _
    ·intro k hk
     have:g'=k:=by simpa [Value.ownBlock] using hk
     subst this;rcases hwh with h5|h5
     ·exact .inl h5
     ·exact .inr (by omega))
   rw[hZ] at hrun
   clear hg1 hwh ho1 hxW M1 IZ hbZ hsZ hZ hs0;go_enter Tryz.func118,Tryz.ntmps118
   go_wp2_with fail;refine (HCl _).out.mono ?_
   rintro e W ⟨rfl,rfl⟩;go_wp2_with fail;go_region_law (first|(refine op_append rfl (.tmp 16) (.tmp 25) 91 rfl _ _ _ _ (by simp[Act.eval]) (by simp[Act.eval]) hrun ?_))
   all_goals (
    go_wp2_with fail;go_end0
    rw[HV.out];exact⟨⟨_,rfl⟩,HFin.out⟩)
  ·have HV:Hid (c.tell m=c):=hideA (by rw[HT.out,if_neg (fun e=>hcl e.2)])
   have hdd:decide (300≤m.dst∧m.dst≤303)=false:=decide_eq_false hcl
   rw[hdd] at HCl
   clear hdd hcl;go_enter Tryz.func118,Tryz.ntmps118
   go_wp2_with fail;refine (HCl _).out.mono ?_
   rintro e W ⟨rfl,rfl⟩;go_wp2_with fail;go_end0
   rw[HV.out];exact⟨⟨_,rfl⟩,CAfter.still HA.out hbB0⟩
theorem arrive_any {w:World}{F:Nat→Prop}{x:Nat}{c:Clu}{E:Int}{g:Gh}(L:List UInt8)(sp:Bool)(hL:L.length≤100000)(h:CAt w F x c)(hg:Good c E g)(ht:c.told.length≤2999999999999)(hs:∀ m,msgOf L=some m→Sent c E g m) :
  Calls Tryz.prog 63 #[.pointer (some ⟨x,0,none⟩),.agg #[.string (bs L),.bool sp]] w fun r w'=>(∃ v,r=.returned v)∧CAfter w F x (arrOf c L) w':=by
 have HA:=hideA h;obtain⟨gs,cap,b,Fn,vr,va,vm,vb,vt,h⟩:=h;obtain⟨B0,hB0,hbB0,hMB0⟩:=bm1 w #[.string (bs L),.bool sp] 138
 have b0:B0.cell? ⟨w.heap.size,0,none⟩=some (.string (bs L)):=coh hMB0 0
 have HD:=hideA (wireDecode_any L B0 (by omega))
 have hmo:=msgOf_dec L
 have HV:Hid (∀ mem log,(decOf L).value mem log=.tuple #[mval (decMsg L) mem log,.int .i64 (decOf L).err]∧(decOf L).ms=(decMsg L).mems∧(decOf L).es=(decMsg L).log):=hideA fun mem log=>⟨rfl,rfl,rfl⟩
 generalize decMsg L=m at *
 generalize (decOf L).err=er at *
 have HI:=hideA h;have hxl:x<w.heap.size:=h.lt x (h.inO x (.inl rfl))
 have hgl:gs<w.heap.size:=h.lt gs (h.inO gs (.inr (.inl rfl)))
 have HF:Hid (∀ W,Below w.heap.size w W→Calls Tryz.prog 65 #[.pointer (some ⟨x,0,none⟩),.int .i64 0,.int .i64 m.dst] W fun e w'=>e=.returned (findIn c gs true m.dst)∧w'=W):=hideA fun W hb=>findIn_any W F x gs cap c b Fn vr va vm vb vt true m.dst (h.below hb)
 have HTl:Hid (∀ (a1 a2:Option Addr) (d1 d2:Nat) W F' c',CAt W F' x c'→c'.told.length≤2999999999999→Calls Tryz.prog 118 #[.pointer (some ⟨x,0,none⟩),.agg #[.int .i64 m.kind,.int .i64 m.src,.int .i64 m.dst,.int .i64 m.epoch,.int .i64 m.ballot,.int .i64 m.vote,.int .i64 m.pos,.int .i64 m.value,.slice a1 m.mems.length d1,.slice a2 m.log.length d2]] W fun r w'=>(∃ v,r=.returned v)∧CAfter W F' x (c'.tell m) w'):=hideA fun a1 a2 d1 d2 W F' c' h1 h2=>cluTell_any m a1 d1 a2 d2 h1 h2
 clear h;go_enter Tryz.func63,Tryz.ntmps63
 go_wp2_with fail;refine HD.out.mono ?_
 rintro e Y ⟨hbY0,mem,log,rfl,o1,o2⟩;have hbY:=hbB0.trans (hbY0.mono hbB0.size)
 have hB0s:=hbB0.size
 replace o1:=obs o1 (base':=w.heap.size+1) (by omega)
 replace o2:=obs o2 (base':=w.heap.size+1) (by omega)
 obtain⟨v1,v2,v3⟩:=HV.out mem log
 rw[v2] at o1
 rw[v3] at o2
 rw[v1];clear v1 v2 v3;obtain⟨a1,d1,rfl⟩:=osh o1
 obtain⟨a2,d2,rfl⟩:=osh o2
 have HO:=hideA (And.intro o1 o2)
 clear o1 o2 HD HV b0 hMB0 hB0s;unfold mval
 go_upto_region 2 with fail
 obtain⟨X,hX,hbYX,hM⟩:=msg_box Y m (.slice a1 m.mems.length d1) (.slice a2 m.log.length d2)
 rw[hX];clear hX;have hbX:=hbY.trans (hbYX.mono hbY.size)
 have HOX:Hid (X.ownsRow (w.heap.size+1) 3 1 (.slice a1 m.mems.length d1) m.mems.length (ints m.mems)∧X.ownsRow (w.heap.size+1) 42 5 (.slice a2 m.log.length d2) m.log.length (ints (entsNums m.log))):=hideA ⟨okp HO.out.1 fun k _ hk=>hbYX.block k hk,okp HO.out.2 fun k _ hk=>hbYX.block k hk⟩
 have hys:=hbY.size
 have gM:=fun j=>coh hM j
 have HM:=hideA hM;clear hM HO;have IX:=hideA (HI.out.below hbX)
 cases her:(er == 0) with
 | false =>
  have N0:Hid (¬ er=0):=hideA (by simpa using her)
  have H:Hid (arrOf c L=c):=hideA (by unfold arrOf;rw[hmo,if_neg N0.out])
  go_wp2_with fail;(try simp only [Exit.inBlock,Exit.then]);refine bodyPost_ret (results_none rfl _ _ _) rfl ?_
  rw[H.out];exact⟨⟨_,rfl⟩,CAfter.still HA.out hbX⟩
 | true =>
  have P0:er=0:=by simpa using her
  subst P0;rw[if_pos rfl] at hmo
  have hsent:=hs m hmo
  have H:Hid (arrOf c L=c.arrive m):=hideA (by unfold arrOf;rw[hmo])
  by_cases hup:c.upOf m.dst=some true
  ·obtain⟨j,hp,hu2,hfi⟩:=findIn_yes (gs:=gs) hup
   rw[hfi] at HF
   have hj:=nodPlace_lt hp
   have hnum:=nodPlace_num hp
   have hA:=arrive_node hg.nodes.n5 hp hu2
   have hd3:m.dst<300:=by rw[← hnum];exact num_small hg.nodes.n5 hj
   have hout:Hid ((∀ z∈((c.nod j).take m.dst m).2,z.ok=true)∧((c.nod j).take m.dst m).2.length≤100):=hideA (by
    obtain⟨E',g',hl,ho⟩:=hg.nodes.takes hsent
    rw[takes_nod hp hu2] at hl ho
    refine⟨fun z hz=>(ho z hz).1.ok hl.nodes.n5 hl.nodes.E2000, ?_⟩
    have hk:=nodOK hg j hj
    rw[hnum] at hk
    refine nodTake_len hk fun s hsm=>⟨E', ?_⟩
    have hr:=hl.reps
    rcases nod_at hp with ⟨_,h2,_⟩|⟨_,_,h3,_⟩|⟨h1,h2,h3,h4,h5⟩
    ·rw[h2] at hsm;cases hsm
    ·rw[h3] at hsm;cases hsm
    ·have hS:=hl.nodes.S m.dst h3
     rw[h4] at hsm
     cases hsm
     rw[h4] at hS
     simp only [Nod.take] at hS
     rw[h5,mas_setMas hg.nodes.m2 h3 h3,if_pos rfl] at hS
     exact hS)
   obtain⟨cs,hcs,hst⟩:=IX.out.sta;have HST:=hideA (And.intro hcs (hst j hj))
   have c2:X.cell? ⟨gs,j*3+2,none⟩=some (.iface (nodTy (c.nod j)) (.pointer (some ⟨b j,0,none⟩))):=(coh hcs (j*3+2)).trans (hst j hj).2.2
   clear hcs hst;have hm:=meth_take (c.nod j) (some ⟨b j,0,none⟩)
   have HC:Hid (∀ W,Below X.heap.size X W→Calls Tryz.prog (takeFn (c.nod j)) #[.pointer (some ⟨b j,0,none⟩),.agg #[.int .i64 m.kind,.int .i64 m.src,.int .i64 m.dst,.int .i64 m.epoch,.int .i64 m.ballot,.int .i64 m.vote,.int .i64 m.pos,.int .i64 m.value,.slice a1 m.mems.length d1,.slice a2 m.log.length d2]] W fun e w'=>NodOut X w' (Fn j) (b j) m.dst e ((c.nod j).take m.dst m)):=hideA fun W hb=>by
    have hN:NodAt W (Fn j) (b j) m.dst (c.nod j):=by
     rw[← hnum];exact (IX.out.nod j hj).keep fun k hk=>hb.block k ((IX.out.nod j hj).lt hk)
    have hnF:∀ k,w.heap.size+1≤k→¬ Fn j k:=fun k hk e=>by
     have:=HI.out.lt k (HI.out.inN j hj k e)
     omega
    exact (nodTake_any c.reps.length E (Fn j) (b j) m.dst (c.nod j) m _ _ W hN (hnum ▸ nodOK hg j hj) hu2 hsent.1 (obs (okp HOX.out.1 fun k _ hk=>hb.block k hk) (Nat.zero_le _)) (obs (okp HOX.out.2 fun k _ hk=>hb.block k hk) (Nat.zero_le _)) rfl
     (fun k e=>hnF k (obc HOX.out.1 e).choose_spec.2) (fun k e=>hnF k (obc HOX.out.2 e).choose_spec.2)).mono fun e w' ho=>NodOut.below hb ho
   have HS:Hid (∀ W v,Moved X W (Fn j)→MsgsOwn W X.heap.size v ((c.nod j).take m.dst m).2→Calls Tryz.prog 36 #[.pointer (some ⟨x,4,none⟩),v] W fun e w'=>(∃ v,e=.returned v)∧BagTo W w' x (.slice (some ⟨gs,0,none⟩) (c.reps.length+5) cap) vr va vm vb vt (puts c.bag ((c.nod j).take m.dst m).2)):=hideA fun W v hM hv=>bagSend_any x _ vr va vm vb vt c.bag _ v _ W (IX.out.bagBeside j hj hM).1 hg.bag hv hout.out.1 (by have:=hout.out.2;omega)
   have HK:Hid (∀ W,Moved X W (Fn j)→(W.cell? ⟨gs,j*3+2,none⟩=some (.iface (nodTy (c.nod j)) (.pointer (some ⟨b j,0,none⟩)))∧W.heap[Y.heap.size]?=some (.cells #[.int .i64 m.kind,.int .i64 m.src,.int .i64 m.dst,.int .i64 m.epoch,.int .i64 m.ballot,.int .i64 m.vote,.int .i64 m.pos,.int .i64 m.value,.slice a1 m.mems.length d1,.slice a2 m.log.length d2] 134))∧∀ w' l',BagTo W w' x (.slice (some ⟨gs,0,none⟩) (c.reps.length+5) cap) vr va vm vb vt l'→w'.cell? ⟨gs,j*3+2,none⟩=some (.iface (nodTy (c.nod j)) (.pointer (some ⟨b j,0,none⟩)))∧w'.heap[Y.heap.size]?=some (.cells #[.int .i64 m.kind,.int .i64 m.src,.int .i64 m.dst,.int .i64 m.epoch,.int .i64 m.ballot,.int .i64 m.vote,.int .i64 m.pos,.int .i64 m.value,.slice a1 m.mems.length d1,.slice a2 m.log.length d2] 134)):=hideA fun W hM=>by
    obtain⟨q1,q2⟩:=IX.out.bagBeside j hj hM
    have q3:=q2.trans HST.out.1
    have q4:W.heap[Y.heap.size]?=some (.cells #[.int .i64 m.kind,.int .i64 m.src,.int .i64 m.dst,.int .i64 m.epoch,.int .i64 m.ballot,.int .i64 m.vote,.int .i64 m.pos,.int .i64 m.value,.slice a1 m.mems.length d1,.slice a2 m.log.length d2] 134):=(hM.block _ (Array.getElem?_eq_some_iff.1 HM.out).1 (fun e=>by have:=HI.out.lt _ (HI.out.inN j hj _ e);omega)).trans HM.out
    refine⟨⟨(coh q3 (j*3+2)).trans HST.out.2.2.2,q4⟩,fun w' l' hB=>⟨(coh (hB.beside q1 q3) (j*3+2)).trans HST.out.2.2.2, ?_⟩⟩
    obtain⟨vb',z1,z2,z3⟩:=hB;refine (z2.block _ (Array.getElem?_eq_some_iff.1 q4).1 ?_).trans q4
    rintro (e|e)
    ·rw[e,q1.blk] at q4
     simp at q4
    ·exact bty q4 q1.row (by decide) e
   clear hsent hup hfi;rcases kinds (c.nod j) with ⟨k1,k2,_⟩|⟨k1,k2,_⟩|⟨k1,k2,_⟩
   ·rw[k1] at c2 hm HK
    rw[k2] at hm HC
    go_wp2_with fail;refine (HF.out X hbX).mono ?_
    rintro e W9 ⟨rfl,rfl⟩;go_wp2_with fail;have hbd:=(Below.refl W9.heap.size W9).drew
    go_region_held3 (fun w'=>w'.cell? ⟨gs,j*3+2,none⟩=some (.iface 129 (.pointer (some ⟨b j,0,none⟩)))∧∀ t,w'.cell? ⟨Y.heap.size,t,none⟩=(#[.int .i64 m.kind,.int .i64 m.src,.int .i64 m.dst,.int .i64 m.epoch,.int .i64 m.ballot,.int .i64 m.vote,.int .i64 m.pos,.int .i64 m.value,.slice a1 m.mems.length d1,.slice a2 m.log.length d2]:Array Value)[t]?) (first|(simp[go_sem];done)|(simp[go_sem, *];done)|go_keep)
     (first
      | (go_at_call 261;refine (HC.out _ hbd).mono ?_;rintro e W ⟨v,F',rfl,n1,n2,n3,n4⟩;have HN:=hideA (And.intro n1 (And.intro n2 (And.intro n3 n4)));have cW:=(HK.out W n2).1.1;have gW:=fun t=>coh (HK.out W n2).1.2 t;clear n1 n2 n3 n4)
      | (go_at_call 36;refine (HS.out _ _ HN.out.2.1 HN.out.2.2.2).mono ?_;rintro e W2 ⟨⟨v2,rfl⟩,hB⟩;have HB:=hideA hB;have hz:=(HK.out W HN.out.2.1).2 _ _ hB;have cZ:=hz.1;have gZ:=fun t=>coh hz.2 t;clear hB hz))
    all_goals (
     obtain⟨F9,q1,q2,q3⟩:=IX.out.sends j hj ((c.nod j).take m.dst m).1 F' _ (by rw[hnum];exact HN.out.1) HN.out.2.1 HN.out.2.2.1 (kin_take _ _ _) (nodTake_up _ _ _) HB.out
     have HQ:=hideA (And.intro q1 (And.intro q2 q3))
     clear q1 q2 q3;go_wp2_with fail;refine (HTl.out a1 a2 d1 d2 _ F9 _ HQ.out.1 (by rw[show ({ c.setNod j ((c.nod j).take m.dst m).1 with bag:=puts c.bag ((c.nod j).take m.dst m).2 }:Clu).told=c.told from (setNod_rest c j _).2.1];exact ht)).mono ?_
     rintro e W3 ⟨⟨v3,rfl⟩,hC⟩;rw[tell_no hd3] at hC
     have HCf:=hideA hC;clear hC;go_wp2_with fail;go_end0
     rw[H.out,hA];exact⟨⟨_,rfl⟩,CAfter.trans ((Moved.refl w F).below hbX) (fun _ e=>.inl e) (CAfter.trans HQ.out.2.1 HQ.out.2.2 HCf.out)⟩)
   ·rw[k1] at c2 hm HK
    rw[k2] at hm HC
    go_wp2_with fail;refine (HF.out X hbX).mono ?_
    rintro e W9 ⟨rfl,rfl⟩;go_wp2_with fail;have hbd:=(Below.refl W9.heap.size W9).drew
    go_region_held3 (fun w'=>w'.cell? ⟨gs,j*3+2,none⟩=some (.iface 99 (.pointer (some ⟨b j,0,none⟩)))∧∀ t,w'.cell? ⟨Y.heap.size,t,none⟩=(#[.int .i64 m.kind,.int .i64 m.src,.int .i64 m.dst,.int .i64 m.epoch,.int .i64 m.ballot,.int .i64 m.vote,.int .i64 m.pos,.int .i64 m.value,.slice a1 m.mems.length d1,.slice a2 m.log.length d2]:Array Value)[t]?) (first|(simp[go_sem];done)|(simp[go_sem, *];done)|go_keep)
     (first
      | (go_at_call 250;refine (HC.out _ hbd).mono ?_;rintro e W ⟨v,F',rfl,n1,n2,n3,n4⟩;have HN:=hideA (And.intro n1 (And.intro n2 (And.intro n3 n4)));have cW:=(HK.out W n2).1.1;have gW:=fun t=>coh (HK.out W n2).1.2 t;clear n1 n2 n3 n4)
      | (go_at_call 36;refine (HS.out _ _ HN.out.2.1 HN.out.2.2.2).mono ?_;rintro e W2 ⟨⟨v2,rfl⟩,hB⟩;have HB:=hideA hB;have hz:=(HK.out W HN.out.2.1).2 _ _ hB;have cZ:=hz.1;have gZ:=fun t=>coh hz.2 t;clear hB hz))
    all_goals (
     obtain⟨F9,q1,q2,q3⟩:=IX.out.sends j hj ((c.nod j).take m.dst m).1 F' _ (by rw[hnum];exact HN.out.1) HN.out.2.1 HN.out.2.2.1 (kin_take _ _ _) (nodTake_up _ _ _) HB.out
     have HQ:=hideA (And.intro q1 (And.intro q2 q3))
     clear q1 q2 q3;go_wp2_with fail;refine (HTl.out a1 a2 d1 d2 _ F9 _ HQ.out.1 (by rw[show ({ c.setNod j ((c.nod j).take m.dst m).1 with bag:=puts c.bag ((c.nod j).take m.dst m).2 }:Clu).told=c.told from (setNod_rest c j _).2.1];exact ht)).mono ?_
     rintro e W3 ⟨⟨v3,rfl⟩,hC⟩;rw[tell_no hd3] at hC
     have HCf:=hideA hC;clear hC;go_wp2_with fail;go_end0
     rw[H.out,hA];exact⟨⟨_,rfl⟩,CAfter.trans ((Moved.refl w F).below hbX) (fun _ e=>.inl e) (CAfter.trans HQ.out.2.1 HQ.out.2.2 HCf.out)⟩)
   ·rw[k1] at c2 hm HK
    rw[k2] at hm HC
    go_wp2_with fail;refine (HF.out X hbX).mono ?_
    rintro e W9 ⟨rfl,rfl⟩;go_wp2_with fail;have hbd:=(Below.refl W9.heap.size W9).drew
    go_region_held3 (fun w'=>w'.cell? ⟨gs,j*3+2,none⟩=some (.iface 81 (.pointer (some ⟨b j,0,none⟩)))∧∀ t,w'.cell? ⟨Y.heap.size,t,none⟩=(#[.int .i64 m.kind,.int .i64 m.src,.int .i64 m.dst,.int .i64 m.epoch,.int .i64 m.ballot,.int .i64 m.vote,.int .i64 m.pos,.int .i64 m.value,.slice a1 m.mems.length d1,.slice a2 m.log.length d2]:Array Value)[t]?) (first|(simp[go_sem];done)|(simp[go_sem, *];done)|go_keep)
     (first
      | (go_at_call 239;refine (HC.out _ hbd).mono ?_;rintro e W ⟨v,F',rfl,n1,n2,n3,n4⟩;have HN:=hideA (And.intro n1 (And.intro n2 (And.intro n3 n4)));have cW:=(HK.out W n2).1.1;have gW:=fun t=>coh (HK.out W n2).1.2 t;clear n1 n2 n3 n4)
      | (go_at_call 36;refine (HS.out _ _ HN.out.2.1 HN.out.2.2.2).mono ?_;rintro e W2 ⟨⟨v2,rfl⟩,hB⟩;have HB:=hideA hB;have hz:=(HK.out W HN.out.2.1).2 _ _ hB;have cZ:=hz.1;have gZ:=fun t=>coh hz.2 t;clear hB hz))
    all_goals (
     obtain⟨F9,q1,q2,q3⟩:=IX.out.sends j hj ((c.nod j).take m.dst m).1 F' _ (by rw[hnum];exact HN.out.1) HN.out.2.1 HN.out.2.2.1 (kin_take _ _ _) (nodTake_up _ _ _) HB.out
     have HQ:=hideA (And.intro q1 (And.intro q2 q3))
     clear q1 q2 q3;go_wp2_with fail;refine (HTl.out a1 a2 d1 d2 _ F9 _ HQ.out.1 (by rw[show ({ c.setNod j ((c.nod j).take m.dst m).1 with bag:=puts c.bag ((c.nod j).take m.dst m).2 }:Clu).told=c.told from (setNod_rest c j _).2.1];exact ht)).mono ?_
     rintro e W3 ⟨⟨v3,rfl⟩,hC⟩;rw[tell_no hd3] at hC
     have HCf:=hideA hC;clear hC;go_wp2_with fail;go_end0
     rw[H.out,hA];exact⟨⟨_,rfl⟩,CAfter.trans ((Moved.refl w F).below hbX) (fun _ e=>.inl e) (CAfter.trans HQ.out.2.1 HQ.out.2.2 HCf.out)⟩)
  ·obtain⟨en,hen,hfi⟩:=findIn_no (gs:=gs) hup
   rw[hfi] at HF
   have hA:=arrive_tell hup hg.bag
   go_wp2_with fail;refine (HF.out X hbX).mono ?_
   rintro e W ⟨rfl,rfl⟩;go_wp2_with fail;refine (HTl.out a1 a2 d1 d2 _ F c ⟨gs,cap,b,Fn,vr,va,vm,vb,vt,IX.out⟩ ht).mono ?_
   rintro e W3 ⟨⟨v3,rfl⟩,hC⟩;have HCf:=hideA hC;clear hC;go_wp2_with fail;go_end0
   rw[H.out,hA];exact⟨⟨_,rfl⟩,CAfter.trans ((Moved.refl w F).below hbX) (fun _ e=>.inl e) HCf.out⟩
end Go.Proofs.YtgieeeeeiggoeaaGreat
