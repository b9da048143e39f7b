import Derived.Test.YtgieeeeeiggoeaaGreatC46
import Derived.Test.YtgieeeeeiggoeaaGreatC43
import Derived.Test.YtgieeeeeiggoeaaGreatC32
set_option maxRecDepth 100000
set_option maxHeartbeats 4000000
namespace Go.Proofs.YtgieeeeeiggoeaaGreat
open Go.RowKit Go.Shelf
def Clu.turn (c:Clu)(d:Int)(tu:Bool):Clu × Int:=if tu then c.restart d else c.crash d
theorem RR.up {V:World}{b:Nat}{r:Rep}{vm vl:Value}(h:RR V b r vm vl)(u:Bool):RR (V.setCell ⟨b,0,none⟩ (.bool u)) b { r with up:=u } vm vl :=
 ⟨heap_setCell_same _ _ _ _ _ _ h.blk,ownsRow_setCell_other (a:=⟨b,0,none⟩) h.hm (bty h.blk h.hm (by decide)) _,ownsRow_setCell_other (a:=⟨b,0,none⟩) h.hl (bty h.blk h.hl (by decide)) _⟩
theorem turn_rep {c:Clu}{i:Nat}{tu:Bool}(hi:i<c.reps.length)(hu:(c.rep i).up = !tu):c.turn i tu=(c.setRep i (if tu then (c.rep i).restart i else (c.rep i).crash),0):=by
 have hr:c.isRep (i:Int):=⟨by omega,by omega⟩
 have hup:c.upOf (i:Int)=some (!tu):=by unfold Clu.upOf;rw[if_pos hr,hu]
 unfold Clu.turn
 cases tu
 ·simp only [Bool.false_eq_true,if_false]
  unfold Clu.crash
  rw[hup];simp only [Bool.not_false]
  rw[if_pos hr]
 ·simp only [if_true]
  unfold Clu.restart
  rw[hup];simp only [Bool.not_true]
  rw[if_pos hr]
theorem turn_acc {c:Clu}{i:Nat}{tu:Bool}(hn:c.reps.length≤5)(hi:i<3)(hu:(c.acc (100+(i:Int))).up = !tu):c.turn (100+(i:Int)) tu=(c.setAcc (100+(i:Int)) { c.acc (100+(i:Int)) with up:=tu },0):=by
 have hr:¬ c.isRep (100+(i:Int)):=fun e=>by have:=e.2;omega
 have ha:isAcc (100+(i:Int)):=by unfold isAcc;omega
 have hup:c.upOf (100+(i:Int))=some (!tu):=by unfold Clu.upOf;rw[if_neg hr,if_pos ha,hu]
 unfold Clu.turn
 cases tu
 ·simp only [Bool.false_eq_true,if_false]
  unfold Clu.crash
  rw[hup];simp only [Bool.not_false]
  rw[if_neg hr,if_pos ha]
 ·simp only [if_true]
  unfold Clu.restart
  rw[hup];simp only [Bool.not_true]
  rw[if_neg hr,if_pos ha]
theorem turn_mas {c:Clu}{i:Nat}{tu:Bool}(hn:c.reps.length≤5)(hi:i<2)(hu:(c.mas (200+(i:Int))).up = !tu):c.turn (200+(i:Int)) tu=(c.setMas (200+(i:Int)) (Mas.still tu (c.mas (200+(i:Int))).begun),0):=by
 have hr:¬ c.isRep (200+(i:Int)):=fun e=>by have:=e.2;omega
 have ha:¬ isAcc (200+(i:Int)):=fun e=>by have:=e.2;omega
 have hm:isMas (200+(i:Int)):=by unfold isMas;omega
 have hup:c.upOf (200+(i:Int))=some (!tu):=by unfold Clu.upOf;rw[if_neg hr,if_neg ha,if_pos hm,hu]
 unfold Clu.turn
 cases tu
 ·simp only [Bool.false_eq_true,if_false]
  unfold Clu.crash
  rw[hup];simp only [Bool.not_false]
  rw[if_neg hr,if_neg ha]
 ·simp only [if_true]
  unfold Clu.restart
  rw[hup];simp only [Bool.not_true]
  rw[if_neg hr,if_neg ha]
theorem turn_no {c:Clu}{d:Int}{tu:Bool}(hu:c.upOf d=none):c.turn d tu=(c,4):=by
 unfold Clu.turn Clu.crash Clu.restart
 rw[hu];cases tu<;>rfl
theorem turn_same {c:Clu}{d:Int}{tu:Bool}(hu:c.upOf d=some tu):c.turn d tu=(c,5):=by
 unfold Clu.turn Clu.crash Clu.restart
 rw[hu];cases tu<;>rfl
theorem refTurn_any {w:World}{F:Nat→Prop}{y:Nat}{c:Clu}{E:Int}{g:Gh}(d:Int)(tu:Bool)(h:RefAt w F y c)(hg:Good c E g)(hi : -9223372036854775808≤d∧d≤9223372036854775807) :
  Calls Tryz.prog 143 #[.pointer (some ⟨y,0,none⟩),.int .i64 d,.bool tu] w fun r w'=>r=.returned (.int .i64 (c.turn d tu).2)∧RefAfter w F y (c.turn d tu).1 w':=by
 have HA:=hideA h;have hn:=hg.nodes.n5
 have HU:=hideA (refUp_any d h hn hi)
 obtain⟨br,ba,bm,vr,va,vm,vb,vt,vv,vc,hI⟩:=h;obtain⟨ar,cr,hvr⟩:=osh hI.rr
 subst hvr;have c0:w.cell? ⟨y,0,none⟩=some (.slice ar c.reps.length cr):=coh hI.blk 0
 have c1:w.cell? ⟨y,1,none⟩=some va:=coh hI.blk 1
 have c2:w.cell? ⟨y,2,none⟩=some vm:=coh hI.blk 2
 have HK:Hid (∀ q,Calls Tryz.prog 133 #[.pointer (some ⟨y,0,none⟩),.int .i64 d] (w.drewN q) fun e w'=>e=.returned (.tuple #[.int .i64 (kindOf c.reps.length d).1,.int .i64 (kindOf c.reps.length d).2])∧w'=w.drewN q):=hideA fun q=>refKind_any y c.reps.length _ cr d (w.drewN q) c0 hn hi
 rcases who c d hn with ⟨i,hil,rfl,hk,hu⟩|⟨i,hil,rfl,hk,hu⟩|⟨i,hil,rfl,hk,hu⟩|⟨hk,hu⟩
 ·rw[hk] at HK
  rw[hu] at HU
  by_cases hsame:(c.rep i).up=tu
  ·have HV:Hid (c.turn (i:Int) tu=(c,5)):=hideA (turn_same (by rw[hu,hsame]))
   rw[hsame] at HU
   have hbb:(tu == tu)=true:=by cases tu<;>rfl
   clear hI hk hu hsame;go_enter Tryz.func143,Tryz.ntmps143
   go_wp2_with fail;refine HU.out.mono ?_
   rintro e W ⟨rfl,q,rfl⟩;go_wp2_with fail;go_ret;rw[HV.out];exact⟨rfl,RefAfter.still HA.out (below_drewN (Below.refl _ _) q)⟩
  ·have hup:(c.rep i).up = !tu:=by cases h1:(c.rep i).up<;>cases tu<;>simp_all
   have HV:=hideA (turn_rep (tu:=tu) hil hup)
   rw[hup] at HU
   obtain⟨g1,cap,hv,hgl,hcell⟩:=hI.atRep hil
   cases hv
   obtain⟨um,ul,hR,hbF,hum,hul⟩:=hI.rr' hil
   have hf:=RepFit.of (own:=i) (hg.nodes.R i ⟨by omega,by omega⟩) hn hg.nodes.E2000
   have hi1:(i:Int)<(c.reps.length:Int):=by omega
   have hi0:(0:Int)≤(i:Int):=by omega
   have hbb:((!tu) == tu)=false:=by cases tu<;>rfl
   have HF:Hid (∀ W r',RR W (br i) r' um ul→Moved w W (fun k=>k=br i)→RefAfter w F y (c.setRep i r') W):=hideA fun W r' hR' hM'=>hI.ofRR hil hum hul hR' hM' (Grows.refl _ _) (Grows.refl _ _) hbF
   obtain⟨am,cm,hvm⟩:=osh hR.hm
   subst hvm;obtain⟨al,cl,hvl⟩:=osh hR.hl
   subst hvl;have hbl:br i<w.heap.size:=(Array.getElem?_eq_some_iff.1 hR.blk).1
   generalize hrr:c.rep i=r at *
   have r0:w.cell? ⟨br i,0,none⟩=some (.bool r.up):=coh hR.blk 0
   have r5:w.cell? ⟨br i,5,none⟩=some (.int .i64 (r.base:Int)):=coh hR.blk 5
   have r6:w.cell? ⟨br i,6,none⟩=some (.int .i64 (r.commit:Int)):=coh hR.blk 6
   have r3:w.cell? ⟨br i,3,none⟩=some (.slice am r.mems.length cm):=coh hR.blk 3
   have r4:w.cell? ⟨br i,4,none⟩=some (.slice al r.log.length cl):=coh hR.blk 4
   have f0:=foh hR.blk 0
   have f6:=foh hR.blk 6
   have HR2:Hid (∀ q,RR (((w.drewN q).setCell ⟨br i,0,none⟩ (.bool tu)).setCell ⟨br i,6,none⟩ (.int .i64 (r.base:Int))) (br i) { r with up:=tu,commit:=r.base } (.slice am r.mems.length cm) (.slice al r.log.length cl)∧Moved w (((w.drewN q).setCell ⟨br i,0,none⟩ (.bool tu)).setCell ⟨br i,6,none⟩ (.int .i64 (r.base:Int))) (fun k=>k=br i)):=hideA fun q=>⟨((hR.below (below_drewN (Below.refl _ _) q)).up tu).commit r.base,(((Moved.refl w (fun k=>k=br i)).below (below_drewN (Below.refl _ _) q)).setCell ⟨br i,0,none⟩ rfl _).setCell ⟨br i,6,none⟩ rfl _⟩
   have HS:Hid (∀ q,Calls Tryz.prog 175 #[.pointer (some ⟨br i,0,none⟩),.int .i64 (i:Int)] (((w.drewN q).setCell ⟨br i,0,none⟩ (.bool tu)).setCell ⟨br i,6,none⟩ (.int .i64 (r.base:Int))) fun e w'=>e=.returned (.tuple #[.int .i64 (rankOf r.mems i),.bool (r.live i)])∧∃ q2,w'=(((w.drewN q).setCell ⟨br i,0,none⟩ (.bool tu)).setCell ⟨br i,6,none⟩ (.int .i64 (r.base:Int))).drewN q2):=hideA fun q=>by
    have:=refStands_any (br i) { r with up:=tu,commit:=r.base } _ _ (i:Int) _ (HR2.out q).1.rrp hf.ml
    rw[live_rank hf.nd] at this
    exact this
   have hRs:Hid (r.restart (i:Int)={ r with up:=true,commit:=if r.live (i:Int)∧nextOf r.mems (i:Int)=none then r.log.length else r.base }):=hideA rfl
   have hCr:Hid (r.crash={ r with up:=false,commit:=r.base }):=hideA rfl
   have hlr:=fun hm:(i:Int)∈r.mems=>last_rank hf.nd hm
   have hwr:IntKind.i64.wrap ((r.mems.length:Int)-1)=(r.mems.length:Int)-1:=by have:=hf.ml;rw[IntKind.wrap_i64];omega
   have hrg:=rankTo_range r.mems (i:Int) r.mems.length
   have hro:rankTo r.mems (i:Int) r.mems.length=rankOf r.mems (i:Int):=rfl
   rw[hro] at hrg
   have hml:=hf.ml
   clear hI hk hu hsame hup hR hf hro;have HFq:Hid (∀ q q2,RefAfter w F y (c.setRep i { r with up:=tu,commit:=r.base }) ((((w.drewN q).setCell ⟨br i,0,none⟩ (.bool tu)).setCell ⟨br i,6,none⟩ (.int .i64 (r.base:Int))).drewN q2)):=hideA fun q q2=>HF.out _ _ ((HR2.out q).1.below (below_drewN (Below.refl _ _) q2)) ((HR2.out q).2.ofBelow (below_drewN (Below.refl _ _) q2) (Nat.le_refl _))
   have HFl:Hid (∀ q q2,RefAfter w F y (c.setRep i { r with up:=tu,commit:=r.log.length }) (((((w.drewN q).setCell ⟨br i,0,none⟩ (.bool tu)).setCell ⟨br i,6,none⟩ (.int .i64 (r.base:Int))).drewN q2).setCell ⟨br i,6,none⟩ (.int .i64 (r.log.length:Int)))):=hideA fun q q2=>HF.out _ _ (((HR2.out q).1.below (below_drewN (Below.refl _ _) q2)).commit r.log.length) (((HR2.out q).2.ofBelow (below_drewN (Below.refl _ _) q2) (Nat.le_refl _)).setCell ⟨br i,6,none⟩ rfl _)
   cases tu with
   | false =>
    clear hlr hrg;go_enter Tryz.func143,Tryz.ntmps143
    go_wp2_with fail;refine HU.out.mono ?_
    rintro e W ⟨rfl,q,rfl⟩;go_wp2_with fail;refine (HK.out q).mono ?_
    rintro e W ⟨rfl,rfl⟩;go_wp2_with fail;refine (HS.out q).mono ?_
    rintro e W ⟨rfl,q2,rfl⟩;go_wp2_with fail;go_ret;rw[HV.out];exact⟨rfl,HFq.out q q2⟩
   | true =>
    cases hlv:r.live (i:Int) with
    | false =>
     have HRb:Hid (r.restart (i:Int)={ r with up:=true,commit:=r.base }):=hideA (by rw[hRs.out,if_neg (by rw[hlv];simp)])
     rw[hlv] at HS
     clear hlr hrg;go_enter Tryz.func143,Tryz.ntmps143
     go_wp2_with fail;refine HU.out.mono ?_
     rintro e W ⟨rfl,q,rfl⟩;go_wp2_with fail;refine (HK.out q).mono ?_
     rintro e W ⟨rfl,rfl⟩;go_wp2_with fail;refine (HS.out q).mono ?_
     rintro e W ⟨rfl,q2,rfl⟩;go_wp2_with fail;go_ret;rw[HV.out];simp only [if_true]
     rw[HRb.out];exact⟨rfl,HFq.out q q2⟩
    | true =>
     have hmem:(i:Int)∈r.mems:=by
      unfold Rep.live at hlv
      rw[Bool.and_eq_true,decide_eq_true_eq] at hlv
      exact hlv.1
     have hl2:=hlr hmem
     rw[hlv] at HS
     by_cases hR:rankOf r.mems (i:Int)=(r.mems.length:Int)-1
     ·have HRb:Hid (r.restart (i:Int)={ r with up:=true,commit:=r.log.length }):=hideA (by rw[hRs.out,if_pos ⟨hlv,hl2.1 hR⟩])
      generalize rankOf r.mems (i:Int)=R at *
      have hR':(R == (r.mems.length:Int)-1)=true:=by simp[hR]
      clear hlr hrg hl2 hR;go_enter Tryz.func143,Tryz.ntmps143
      go_wp2_with fail;refine HU.out.mono ?_
      rintro e W ⟨rfl,q,rfl⟩;go_wp2_with fail;refine (HK.out q).mono ?_
      rintro e W ⟨rfl,rfl⟩;go_wp2_with fail;refine (HS.out q).mono ?_
      rintro e W ⟨rfl,q2,rfl⟩;go_wp2_with fail;go_ret;rw[HV.out];simp only [if_true]
      rw[HRb.out];exact⟨rfl,HFl.out q q2⟩
     ·have HRb:Hid (r.restart (i:Int)={ r with up:=true,commit:=r.base }):=hideA (by rw[hRs.out,if_neg (fun e=>hR (hl2.2 e.2))])
      generalize rankOf r.mems (i:Int)=R at *
      have hR':(R == (r.mems.length:Int)-1)=false:=by simp[hR]
      clear hlr hrg hl2 hR;go_enter Tryz.func143,Tryz.ntmps143
      go_wp2_with fail;refine HU.out.mono ?_
      rintro e W ⟨rfl,q,rfl⟩;go_wp2_with fail;refine (HK.out q).mono ?_
      rintro e W ⟨rfl,rfl⟩;go_wp2_with fail;refine (HS.out q).mono ?_
      rintro e W ⟨rfl,q2,rfl⟩;go_wp2_with fail;go_ret;rw[HV.out];simp only [if_true]
      rw[HRb.out];exact⟨rfl,HFq.out q q2⟩
 ·rw[hk] at HK
  rw[hu] at HU
  by_cases hsame:(c.acc (100+(i:Int))).up=tu
  ·have HV:Hid (c.turn (100+(i:Int)) tu=(c,5)):=hideA (turn_same (by rw[hu,hsame]))
   rw[hsame] at HU
   have hbb:(tu == tu)=true:=by cases tu<;>rfl
   clear hI hk hu hsame;go_enter Tryz.func143,Tryz.ntmps143
   go_wp2_with fail;refine HU.out.mono ?_
   rintro e W ⟨rfl,q,rfl⟩;go_wp2_with fail;go_ret;rw[HV.out];exact⟨rfl,RefAfter.still HA.out (below_drewN (Below.refl _ _) q)⟩
  ·have hup:(c.acc (100+(i:Int))).up = !tu:=by cases h1:(c.acc (100+(i:Int))).up<;>cases tu<;>simp_all
   have HV:=hideA (turn_acc (tu:=tu) hn hil hup)
   rw[hup] at HU
   obtain⟨g1,cap,hv,hgl,hcell⟩:=hI.atAcc hil
   subst hv;obtain⟨um,hb,hm1,hbF,hmF,hvt⟩:=hI.accs i hil
   have hi1:(i:Int)<3:=by omega
   have hi0:(0:Int)≤(i:Int):=by omega
   have hbb:((!tu) == tu)=false:=by cases tu<;>rfl
   have r0:w.cell? ⟨ba i,0,none⟩=some (.bool (c.acc (100+(i:Int))).up):=coh hb 0
   have f0:=foh hb 0
   have hvt0:=hvt
   obtain⟨vs0,qv,_⟩:=hvt0;have HF:Hid (∀ q,RefAfter w F y (c.setAcc (100+(i:Int)) { c.acc (100+(i:Int)) with up:=tu }) ((w.drewN q).setCell ⟨ba i,0,none⟩ (.bool tu))):=hideA fun q=>by
    have hM:Moved w ((w.drewN q).setCell ⟨ba i,0,none⟩ (.bool tu)) (fun k=>k=ba i∨(vv i).ownBlock=some k):=((Moved.refl w _).below (below_drewN (Below.refl _ _) q)).setCell ⟨ba i,0,none⟩ (.inl rfl) _
    have hM1:Moved w ((w.drewN q).setCell ⟨ba i,0,none⟩ (.bool tu)) (fun k=>k=ba i):=((Moved.refl w (fun k=>k=ba i)).below (below_drewN (Below.refl _ _) q)).setCell ⟨ba i,0,none⟩ rfl _
    have keep:∀ {base size n:Nat} {e:TypeId} {v:Value} {xs:List Value},w.ownsRow base e size v n xs→e≠203→((w.drewN q).setCell ⟨ba i,0,none⟩ (.bool tu)).ownsRow base e size v n xs:=fun ho he=>hM1.owns ho fun k hk hS=>bty hb ho he (hS ▸ hk)
    refine⟨⟨br,ba,bm,_,_,vm,vb,vt,_,vc,hI.accTo i hil _ (vv i) hM (fun k e=>.inl e) (Gr.lt hI.lt hM.size) ⟨um,heap_setCell_same _ _ _ _ _ _ hb,keep hm1 (by decide),.inl hbF,hmF.wider (fun k e=>.inl e),hvt.keep (fun k e=>.inl e) (fun ho _ e => ?_)⟩ (fun k e=>.inl e)⟩,hM1.wider (fun k e=>by rw[e];exact hbF)⟩
    rcases e with e|e|e
    ·exact keep ho (by rw[e];decide)
    ·exact keep ho (by rw[e];decide)
    ·subst e
     exact hM1.owns ho fun k hk hS=>bty hb qv (by decide) (hS ▸ hk)
   clear hI hk hu hsame hup hb hm1 hvt qv;go_enter Tryz.func143,Tryz.ntmps143
   go_wp2_with fail;refine HU.out.mono ?_
   rintro e W ⟨rfl,q,rfl⟩;go_wp2_with fail;refine (HK.out q).mono ?_
   rintro e W ⟨rfl,rfl⟩;go_wp2_with fail;go_ret;rw[HV.out];exact⟨rfl,HF.out q⟩
 ·rw[hk] at HK
  rw[hu] at HU
  by_cases hsame:(c.mas (200+(i:Int))).up=tu
  ·have HV:Hid (c.turn (200+(i:Int)) tu=(c,5)):=hideA (turn_same (by rw[hu,hsame]))
   rw[hsame] at HU
   have hbb:(tu == tu)=true:=by cases tu<;>rfl
   clear hI hk hu hsame;go_enter Tryz.func143,Tryz.ntmps143
   go_wp2_with fail;refine HU.out.mono ?_
   rintro e W ⟨rfl,q,rfl⟩;go_wp2_with fail;go_ret;rw[HV.out];exact⟨rfl,RefAfter.still HA.out (below_drewN (Below.refl _ _) q)⟩
  ·have hup:(c.mas (200+(i:Int))).up = !tu:=by cases h1:(c.mas (200+(i:Int))).up<;>cases tu<;>simp_all
   have HV:=hideA (turn_mas (tu:=tu) hn hil hup)
   rw[hup] at HU
   obtain⟨g1,cap,hv,hgl,hcell⟩:=hI.atMas hil
   subst hv;obtain⟨_,_,_,_,hb,_⟩:=hI.mass i hil
   have hi1:(i:Int)<2:=by omega
   have hi0:(0:Int)≤(i:Int):=by omega
   have hbb:((!tu) == tu)=false:=by cases tu<;>rfl
   have r1:w.cell? ⟨bm i,1,none⟩=some (.int .i64 ((c.mas (200+(i:Int))).begun:Int)):=coh hb 1
   have hgc:w.heap[g1]?=some (.cells (obc hI.rm (by rfl)).choose 204):=(obc hI.rm (by rfl)).choose_spec.1
   have HF:Hid (∀ q,RefAfter w F y (c.setMas (200+(i:Int)) (Mas.still tu (c.mas (200+(i:Int))).begun)) (((w.drewN q).alloc (.cells (masCells tu (c.mas (200+(i:Int))).begun) 206)).setCell ⟨g1,i,none⟩ (.pointer (some ⟨w.heap.size,0,none⟩)))):=hideA fun q=>hI.masNew i hil tu _ w.heap.size ((below_drewN (Below.refl _ _) q).alloc (Nat.le_refl _) _) (hnw _ _) (Nat.le_refl _)
   have HF2:Hid (∀ q q2,RefAfter w F y (c.setMas (200+(i:Int)) (Mas.still tu (c.mas (200+(i:Int))).begun)) ((((w.drewN q).alloc (.cells (masCells tu (c.mas (200+(i:Int))).begun) 206)).drewN q2).setCell ⟨g1,i,none⟩ (.pointer (some ⟨w.heap.size,0,none⟩)))):=hideA fun q q2=>hI.masNew i hil tu _ w.heap.size (below_drewN ((below_drewN (Below.refl _ _) q).alloc (Nat.le_refl _) _) q2) (hnw _ _) (Nat.le_refl _)
   have z1:∀ q o,((w.drewN q).alloc o).cell? ⟨g1,i,none⟩=some (.pointer (some ⟨bm i,0,none⟩)):=fun q o=>cell_later ((below_drewN (Below.refl _ _) q).alloc (Nat.le_refl _) o) hcell
   have z2:∀ q o,((w.drewN q).alloc o).frozen? ⟨g1,i,none⟩=false:=fun q o=>foh ((((below_drewN (Below.refl _ w) q).alloc (Nat.le_refl _) o).block _ hgl).trans hgc) i
   have z3:∀ q o,((w.drewN q).alloc o).cell? ⟨y,2,none⟩=some (.slice (some ⟨g1,0,none⟩) 2 cap):=fun q o=>cell_later ((below_drewN (Below.refl _ _) q).alloc (Nat.le_refl _) o) c2
   have mixed:Tryz.prog.follows Departure.mixedOrders=true:=by kernel_rfl
   unfold masCells at HF HF2
   generalize (c.mas (200+(i:Int))).begun=bg at *
   clear hI hk hu hsame hup hb hgc;go_enter Tryz.func143,Tryz.ntmps143
   go_wp2_with fail;refine HU.out.mono ?_
   rintro e W ⟨rfl,q,rfl⟩;go_wp2_with fail;refine (HK.out q).mono ?_
   rintro e W ⟨rfl,rfl⟩;go_wp2_with fail;go_region
   go_wp2_with fail;go_ret;rw[HV.out];refine⟨rfl, ?_⟩
   first
    | exact HF.out _
    | exact HF2.out _ _
    | (simp only [World.drew_drewN];exact HF.out _)
    | trace_state
 ·rw[hk] at HK
  rw[hu] at HU
  have HV:Hid (c.turn d tu=(c,4)):=hideA (turn_no hu)
  clear hI hk hu;go_enter Tryz.func143,Tryz.ntmps143
  go_wp2_with fail;refine HU.out.mono ?_
  rintro e W ⟨rfl,q,rfl⟩;go_wp2_with fail;go_ret;rw[HV.out];exact⟨rfl,RefAfter.still HA.out (below_drewN (Below.refl _ _) q)⟩
theorem cluAsk_any {w:World}{F:Nat→Prop}{xx:Nat}{c:Clu}{E:Int}{g:Gh}(d:Int)(x:Ent)(h:CAt w F xx c)(hg:Good c E g) :
  Calls Tryz.prog 28 #[.pointer (some ⟨xx,0,none⟩),.int .i64 d,.agg #[.int .i64 x.client,.int .i64 x.seq,.int .i64 x.kind,.int .i64 x.key,.int .i64 x.value]] w fun r w'=>r=.returned (.int .i64 (c.ask d x).2)∧CAfter w F xx (c.ask d x).1 w':=by
 have HA:=hideA h;obtain⟨gs,cap,b,Fn,vr,va,vm,vb,vt,h⟩:=h;obtain⟨ar,cr,hvr⟩:=osh h.rr
 subst hvr;have HI:=hideA h;have hxl:xx<w.heap.size:=h.lt xx (h.inO xx (.inl rfl))
 have hx1:¬ xx=w.heap.size:=by omega
 have hx2:¬ w.heap.size=xx:=by omega
 have HP:Hid (∀ W,Below w.heap.size w W→Calls Tryz.prog 59 #[.slice ar c.reps.length cr,.int .i64 0,.int .i64 d] W fun e w'=>e=.returned (if 0≤d∧d<0+(c.reps.length:Int) then .tuple #[.pointer (some ⟨b (0+(d-0).toNat),0,none⟩),.bool true] else .tuple #[.pointer none,.bool false])∧w'=W):=hideA fun W hb=>pickRep_any _ b 0 c.reps.length 0 d W (h.below hb).rr (by have:=h.n5;omega) (by omega)
 have HE:=fun W=>hideA (isEntry_any x W)
 clear h;obtain⟨X,hX,hbX,hM⟩:=ent_box w x
 have c1:=coh (HI.out.below hbX).bag.blk 1
 have gM:=fun j=>coh hM j
 have HM:=hideA hM;clear hM;by_cases hr:c.isRep d
 ·have e0:(if 0≤d∧d<0+(c.reps.length:Int) then Value.tuple #[.pointer (some ⟨b (0+(d-0).toNat),0,none⟩),.bool true] else .tuple #[.pointer none,.bool false])=.tuple #[.pointer (some ⟨b (0+(d-0).toNat),0,none⟩),.bool true]:=if_pos (by have:=hr.1;have:=hr.2;omega)
  rw[e0] at HP
  clear e0;cases hok:x.ok with
  | false =>
   have H:Hid (c.ask d x=(c,6)):=hideA (by unfold Clu.ask;rw[if_neg (by simpa using hr),if_pos hok])
   rw[hok] at HE
   go_enter Tryz.func28,Tryz.ntmps28
   go_upto_region 1 with fail
   go_wp2_with fail;refine (HP.out X hbX).mono ?_
   rintro e W ⟨rfl,rfl⟩;go_wp2_with fail;refine (HE _).out.mono ?_
   rintro e W2 ⟨rfl,hb2⟩;clear gM c1;go_wp2_with fail;go_ret;rw[H.out];exact⟨rfl,CAfter.still HA.out (hbX.trans (hb2.mono hbX.size))⟩
  | true =>
   have H:Hid (c.ask d x=({ c with bag:=puts c.bag [{ kind:=1,src:=300+x.client,dst:=d,log:=[x] }] },0)):=hideA (by unfold Clu.ask;rw[if_neg (by simpa using hr),if_neg (by rw[hok];simp)];rfl)
   rw[hok] at HE
   have hcl:=ok_client hok
   have hwr:IntKind.i64.wrap (300+x.client)=300+x.client:=by rw[IntKind.wrap_i64];omega
   have HS:Hid (∀ Y,Below w.heap.size w Y→Y.heap[w.heap.size]?=some (.cells #[.int .i64 x.client,.int .i64 x.seq,.int .i64 x.kind,.int .i64 x.key,.int .i64 x.value] 42)→Calls Tryz.prog 36 #[.pointer (some ⟨xx,4,none⟩),.slice (some ⟨Y.heap.size+1,0,none⟩) 1 1] (((Y.alloc (.cells #[.int .i64 x.client,.int .i64 x.seq,.int .i64 x.kind,.int .i64 x.key,.int .i64 x.value] 42)).alloc (.cells #[.int .i64 1,.int .i64 (300+x.client),.int .i64 d,.int .i64 0,.int .i64 0,.int .i64 0,.int .i64 0,.int .i64 0,.slice none 0 0,.slice (some ⟨Y.heap.size,0,none⟩) 1 1] 134)).drew) fun e w'=>(∃ v,e=.returned v)∧CAfter w F xx { c with bag:=puts c.bag [{ kind:=1,src:=300+x.client,dst:=d,log:=[x] }] } w'∧w'.heap[w.heap.size]?=some (.cells #[.int .i64 x.client,.int .i64 x.seq,.int .i64 x.kind,.int .i64 x.key,.int .i64 x.value] 42)):=hideA fun Y hbY hbx=>by
    have hbT:=(((hbY.alloc hbY.size (.cells #[.int .i64 x.client,.int .i64 x.seq,.int .i64 x.kind,.int .i64 x.key,.int .i64 x.value] 42)).alloc (by have:=hbY.size;simp;omega) (.cells #[.int .i64 1,.int .i64 (300+x.client),.int .i64 d,.int .i64 0,.int .i64 0,.int .i64 0,.int .i64 0,.int .i64 0,.slice none 0 0,.slice (some ⟨Y.heap.size,0,none⟩) 1 1] 134))).drew
    have hlg:LogOwn (((Y.alloc (.cells #[.int .i64 x.client,.int .i64 x.seq,.int .i64 x.kind,.int .i64 x.key,.int .i64 x.value] 42)).alloc (.cells #[.int .i64 1,.int .i64 (300+x.client),.int .i64 d,.int .i64 0,.int .i64 0,.int .i64 0,.int .i64 0,.int .i64 0,.slice none 0 0,.slice (some ⟨Y.heap.size,0,none⟩) 1 1] 134)).drew) (.slice (some ⟨Y.heap.size,0,none⟩) 1 1) [x]:=by
     refine⟨rfl,.inr ⟨Y.heap.size,1,#[.int .i64 x.client,.int .i64 x.seq,.int .i64 x.kind,.int .i64 x.key,.int .i64 x.value],rfl,Nat.zero_le _, ?_,Nat.le_refl _,by decide,rfl,rfl⟩⟩
     exact (Below.heap_alloc _ _ _ (by simp)).trans (hnw _ _)
    have hms:MsgsOwn _ 0 (.slice (some ⟨Y.heap.size+1,0,none⟩) 1 1) [{ kind:=1,src:=300+x.client,dst:=d,log:=[x] }]:=MsgsOwn.one { kind:=1,src:=300+x.client,dst:=d,log:=[x] } (.slice none 0 0) (.slice (some ⟨Y.heap.size,0,none⟩) 1 1) (heap_new2 _ _ _) (Nat.zero_le _) (World.ownsRow_nil _ _ _ _) hlg
    have hsent:∀ m∈[({ kind:=1,src:=300+x.client,dst:=d,log:=[x] }:Msg)],m.ok=true:=by
     intro m hm;rw[List.mem_singleton] at hm
     subst hm;obtain⟨d0,d1,_⟩:=rep_dst hg.nodes hr
     have hwf:MsgWF c.reps.length E { kind:=1,src:=300+x.client,dst:=d,log:=[x] }:=request_wf hok hg.nodes.E0 (by omega) ⟨d0,d1⟩
     exact hwf.ok hg.nodes.n5 hg.nodes.E2000
    refine (bagSend_any xx _ _ va vm vb vt c.bag 0 _ _ _ (HI.out.below hbT).bag hg.bag hms hsent (by simp)).mono ?_
    rintro e w' ⟨h1,hB⟩;refine⟨h1,CAfter.trans ((Moved.refl w F).below hbT) (fun _ e=>.inl e) ((HI.out.below hbT).bagAfter _ hB), ?_⟩
    have hbq:(((Y.alloc (.cells #[.int .i64 x.client,.int .i64 x.seq,.int .i64 x.kind,.int .i64 x.key,.int .i64 x.value] 42)).alloc (.cells #[.int .i64 1,.int .i64 (300+x.client),.int .i64 d,.int .i64 0,.int .i64 0,.int .i64 0,.int .i64 0,.int .i64 0,.slice none 0 0,.slice (some ⟨Y.heap.size,0,none⟩) 1 1] 134)).drew).heap[w.heap.size]?=some (.cells #[.int .i64 x.client,.int .i64 x.seq,.int .i64 x.kind,.int .i64 x.key,.int .i64 x.value] 42):=by
     have hlt:=(Array.getElem?_eq_some_iff.1 hbx).1
     exact ((((Below.refl Y.heap.size Y).alloc (Nat.le_refl _) _).alloc (by simp) _).block _ hlt).trans hbx
    obtain⟨vb',_,hMv,_⟩:=hB;refine (hMv.block _ (Array.getElem?_eq_some_iff.1 hbq).1 ?_).trans hbq
    rintro (e|e)
    ·exact hx2 e
    ·exact bty hbq (HI.out.below hbT).bag.row (by decide) e
   go_enter Tryz.func28,Tryz.ntmps28
   go_upto_region 1 with fail
   go_wp2_with fail;refine (HP.out X hbX).mono ?_
   rintro e W ⟨rfl,rfl⟩;go_wp2_with fail;refine (HE _).out.mono ?_
   rintro e Y ⟨rfl,hb2⟩;have hbY:=hbX.trans (hb2.mono hbX.size)
   have hMY:=(hb2.block _ (Array.getElem?_eq_some_iff.1 HM.out).1).trans HM.out
   clear gM c1;have g0:=coh hMY 0
   have g1:=coh hMY 1
   have g2:=coh hMY 2
   have g3:=coh hMY 3
   have g4:=coh hMY 4
   have HMY:=hideA hMY;clear hMY;go_wp2_with fail;go_region_held3 (fun w'=>w'.cell? ⟨w.heap.size,0,none⟩=some (.int .i64 x.client)∧w'.cell? ⟨w.heap.size,1,none⟩=some (.int .i64 x.seq)∧w'.cell? ⟨w.heap.size,2,none⟩=some (.int .i64 x.kind)∧w'.cell? ⟨w.heap.size,3,none⟩=some (.int .i64 x.key)∧w'.cell? ⟨w.heap.size,4,none⟩=some (.int .i64 x.value)) (first|(refine⟨?_, ?_, ?_, ?_, ?_⟩<;>first|assumption|(simp[go_sem, *];done))|(simp[go_sem];done)|go_keep)
    (first|(go_at_call 36;refine (HS.out Y hbY HMY.out).mono ?_;rintro e Z ⟨⟨v9,rfl⟩,hC,hz⟩;have HCf:=hideA hC;have z0:=coh hz 0;have z1:=coh hz 1;have z2:=coh hz 2;have z3:=coh hz 3;have z4:=coh hz 4;clear hC hz))
   all_goals (
    go_wp2_with fail;go_ret;rw[H.out];exact⟨rfl,HCf.out⟩)
 ·have e0:(if 0≤d∧d<0+(c.reps.length:Int) then Value.tuple #[.pointer (some ⟨b (0+(d-0).toNat),0,none⟩),.bool true] else .tuple #[.pointer none,.bool false])=.tuple #[.pointer none,.bool false]:=if_neg (fun e=>hr ⟨e.1,by omega⟩)
  rw[e0] at HP
  have H:Hid (c.ask d x=(c,4)):=hideA (by unfold Clu.ask;rw[if_pos hr])
  clear e0;go_enter Tryz.func28,Tryz.ntmps28
  go_upto_region 1 with fail
  go_wp2_with fail;refine (HP.out X hbX).mono ?_
  rintro e W ⟨rfl,rfl⟩;clear gM c1;go_wp2_with fail;go_ret;rw[H.out];exact⟨rfl,CAfter.still HA.out hbX⟩
end Go.Proofs.YtgieeeeeiggoeaaGreat
