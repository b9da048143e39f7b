import Derived.Test.YtgieeeeeiggoeaaGreatC39
import Derived.Test.YtgieeeeeiggoeaaGreatC37
set_option maxRecDepth 100000
set_option maxHeartbeats 4000000
namespace Go.Proofs.YtgieeeeeiggoeaaGreat
open Go.RowKit Go.Shelf
theorem num_rep {n k:Nat}(h:k<n):numOf n k=(k:Int):=by unfold numOf;rw[if_pos h]
theorem num_acc {n i:Nat}(h:i<3):numOf n (n+i)=100+(i:Int):=by unfold numOf;rw[if_neg (by omega),if_pos (by omega)];omega
theorem num_mas {n i:Nat}:numOf n (n+3+i)=200+(i:Int):=by unfold numOf;rw[if_neg (by omega),if_neg (by omega)];omega
theorem firstInts_lenC (n:Nat):(firstInts n).length=n:=by simp[firstInts]
theorem Built.below {w0 w w1:World}{x n k:Nat}{b:Nat→Nat}{Fn:Nat→Nat→Prop}{vs vr va vm:Value}(h:Built w0 w x n k b Fn vs vr va vm)(h1:Below w.heap.size w w1):Built w0 w1 x n k b Fn vs vr va vm :=
 ⟨(h1.block x (Array.getElem?_eq_some_iff.1 h.blk).1).trans h.blk,okp h.rs fun z _ hz=>h1.block z hz,okp h.rr fun z _ hz=>h1.block z hz,okp h.ra fun z _ hz=>h1.block z hz,okp h.rm fun z _ hz=>h1.block z hz,fun j hj=>(h.nod j hj).keep fun z hz=>h1.block z ((h.nod j hj).lt hz),h.sep,h.off,h.newO,h.newN,h.bel.trans (h1.mono h.bel.size)⟩
theorem Built.zero {w X:World}{n:Nat}(hb:Below w.heap.size w X)(hM:X.heap[w.heap.size]?=some (.cells #[.slice none 0 0,.slice none 0 0,.slice none 0 0,.slice none 0 0,.slice none 0 0,.slice none 0 0] 93)) :
  Built w X w.heap.size n 0 (fun _=>0) (fun _ _=>False) (.slice none 0 0) (.slice none 0 0) (.slice none 0 0) (.slice none 0 0):=by
 have e1:min 0 n=0:=by omega
 have e2:min (0-n) 3=0:=by omega
 have e3:0-n-3=0:=by omega
 refine⟨hM,World.ownsRow_nil _ _ _ _,by rw[e1];exact World.ownsRow_nil _ _ _ _,by rw[e2];exact World.ownsRow_nil _ _ _ _,by rw[e3];exact World.ownsRow_nil _ _ _ _,fun j hj=>absurd hj (Nat.not_lt_zero _),fun i j hi=>absurd hi (Nat.not_lt_zero _),fun j hj=>absurd hj (Nat.not_lt_zero _), ?_,fun j hj=>absurd hj (Nat.not_lt_zero _),hb⟩
 rintro z (e|e|e|e|e)
 ·omega
 all_goals exact absurd e no_row
theorem row_at {w:World}{g c:Nat}{a:Int}{m i:Nat}(h:w.ownsRow 0 3 1 (.slice (some ⟨g,0,none⟩) m c) m (ints (runOf a m)))(hi:i<m):w.cell? ⟨g,i,none⟩=some (.int .i64 (a+(i:Int))):=by
 rw[World.ownsRow.cellAt h i (by omega)]
 unfold ints runOf
 rw[List.getElem?_map,List.getElem?_map,List.getElem?_range hi]
 rfl
theorem Built.row {w0 w w1 w3:World}{x n k m c g:Nat}{a:Int}{b:Nat→Nat}{Fn:Nat→Nat→Prop}{vs vr va vm:Value}(h:Built w0 w x n k b Fn vs vr va vm)(h1:Below w.heap.size w w1)(hM:Moved w1 w3 (OwnB x vs vr va vm))(hv:w.ownsRow 0 3 1 (.slice (some ⟨g,0,none⟩) m c) m (ints (runOf a m))):w3.ownsRow 0 3 1 (.slice (some ⟨g,0,none⟩) m c) m (ints (runOf a m)):=by
 have h2:IntOwn w (.slice (some ⟨g,0,none⟩) m c) (runOf a m):=by unfold IntOwn;rw[run_len];exact hv
 have h3:=h.keepInts h1 hM h2
 unfold IntOwn at h3
 rwa [run_len] at h3
theorem newCluster_any (n:Nat)(w:World)(h1:1≤n)(h5:n≤5) :
  Calls Tryz.prog 53 #[.int .i64 (n:Int)] w fun e w'=>∃ b Fn vs vr va vm,e=.returned (.pointer (some ⟨w.heap.size,0,none⟩))∧Built w w' w.heap.size n (n+5) b Fn vs vr va vm:=by
 have HN:=fun W=>hideA (memNumbers_any 0 n W h5 (by omega))
 have HN1:Hid (∀ W,Calls Tryz.prog 106 #[.int .i64 100,.int .i64 3] W fun e w'=>∃ c,e=.returned (.slice (some ⟨W.heap.size,0,none⟩) 3 c)∧w'.ownsRow W.heap.size 3 1 (.slice (some ⟨W.heap.size,0,none⟩) 3 c) 3 (ints (runOf 100 3))∧Below W.heap.size W w'):=hideA fun W=>memNumbers_any 100 3 W (by omega) (by omega)
 have HN2:Hid (∀ W,Calls Tryz.prog 106 #[.int .i64 200,.int .i64 2] W fun e w'=>∃ c,e=.returned (.slice (some ⟨W.heap.size,0,none⟩) 2 c)∧w'.ownsRow W.heap.size 3 1 (.slice (some ⟨W.heap.size,0,none⟩) 2 c) 2 (ints (runOf 200 2))∧Below W.heap.size W w'):=hideA fun W=>memNumbers_any 200 2 W (by omega) (by omega)
 have HA := @add_any
 have HAH:=hideA HA;clear HA;go_enter Tryz.func53,Tryz.ntmps53
 go_upto_region 2 with fail
 obtain⟨X,hX,hbX,hM⟩:=bm1 w #[.slice none 0 0,.slice none 0 0,.slice none 0 0,.slice none 0 0,.slice none 0 0,.slice none 0 0] 93
 rw[hX];clear hX;have HB0:=hideA (Built.zero (n:=n) hbX hM)
 clear hM;go_wp2_with fail;refine (HN X).out.mono ?_
 rintro e Y ⟨c,rfl,o1,hbY⟩;have HY:Hid (Built w Y w.heap.size n 0 (fun _=>0) (fun _ _=>False) (.slice none 0 0) (.slice none 0 0) (.slice none 0 0) (.slice none 0 0)∧IntOwn Y (.slice (some ⟨X.heap.size,0,none⟩) n c) (firstInts n)):=hideA ⟨HB0.out.below hbY,by
  have:=obs o1 (Nat.zero_le _)
  unfold IntOwn
  rw[← run_first,run_len];exact this⟩
 clear o1 hbY hbX;generalize hga:X.heap.size=ga at *
 generalize hx0:w.heap.size=x at *
 go_wp2_with fail;go_loopw [20] (fun i wr=>∃ k:Nat,k≤n∧i=.int .i64 k∧∃ b Fn vs vr,Built w wr x n k b Fn vs vr (.slice none 0 0) (.slice none 0 0)∧IntOwn wr (.slice (some ⟨ga,0,none⟩) n c) (firstInts n)) (fun i _=>n-(intOf i).toNat)
 case atStart=>exact⟨0,Nat.zero_le _,rfl,_,_,_,_,HY.out.1,HY.out.2⟩
 case round =>
  obtain⟨k,hk,rfl,b,Fn,vs,vr,hB,hI⟩:=hrel;by_cases hlt:k<n
  ·have hk1:(k:Int)<(n:Int):=by omega
   have hI':wr.ownsRow 0 3 1 (.slice (some ⟨ga,0,none⟩) n c) n (ints (firstInts n)):=by
    have:=hI
    unfold IntOwn at this
    rwa [firstInts_lenC] at this
   have ck:wr.cell? ⟨ga,k,none⟩=some (.int .i64 (k:Int)):=by
    rw[World.ownsRow.cellAt hI' k (by omega)]
    unfold ints firstInts
    rw[List.getElem?_map,List.getElem?_map,List.getElem?_range hlt]
    rfl
   have HC:=hideA (newRep_nod n k _ wr hlt hI h5)
   rw[num_rep hlt] at HC
   have hmin:min k n=k:=by omega
   obtain⟨ar,cr,hvr⟩:=osh hB.rr
   rw[hmin] at hvr
   subst hvr;have HB:=hideA (And.intro hB hI)
   have HMin:=hideA hmin;clear hB hI hI' hmin;go_wp2_with fail;refine HC.out.mono ?_
   rintro e W1 ⟨b',F',rfl,q1,q2,q3⟩;have B1:=HB.out.1.below q3
   obtain⟨g',cap',W2,hrun,hx2,hrow2,hM2,hG2⟩:=ptr_app (t:=85) infoPR Tryz.underlying85 (by decide) W1 x k (.slice ar k cr) (ptrs b 0 k) (some ⟨b',0,none⟩) _ (by have:=B1.rr;rwa [HMin.out] at this) B1.blk (by omega)
   have HS:Hid (∀ vs' w3,w3.heap[x]?=some (.cells #[vs',.slice (some ⟨g',0,none⟩) (k+1) cap',.slice none 0 0,.slice none 0 0,.slice none 0 0,.slice none 0 0] 93)→w3.ownsRow 0 183 3 vs' (k+1) ((List.range k).flatMap (staOf n b)++[.int .i64 (k:Int),.int .i64 0,.iface 129 (.pointer (some ⟨b',0,none⟩))])→Moved (W2.setCell ⟨x,1,none⟩ (.slice (some ⟨g',0,none⟩) (k+1) cap')) w3 (fun z=>z=x∨vs.ownBlock=some z)→Grows (W2.setCell ⟨x,1,none⟩ (.slice (some ⟨g',0,none⟩) (k+1) cap')) vs vs' →
     Built w w3 x n (k+1) (putB b k b') (putF Fn k F') vs' (.slice (some ⟨g',0,none⟩) (k+1) cap') (.slice none 0 0) (.slice none 0 0)∧IntOwn w3 (.slice (some ⟨ga,0,none⟩) n c) (firstInts n)):=hideA fun vs' w3 z1 z2 z3 z4=>by
    have hty:nodTy (firstNod n k)=129:=by unfold firstNod;rw[if_pos hlt];rfl
    obtain⟨r1,r2⟩:=HB.out.1.stepR b' F' hlt q3 (by rw[num_rep hlt];exact q1) q2 (by rw[HMin.out];exact hrow2) hM2 hG2 hx2 z1 (by rw[hty,num_rep hlt];exact z2) z3 z4
    exact⟨r1,HB.out.1.keepInts q3 r2 HB.out.2⟩
   have HD:=hideA (HAH.out x k vs (.slice (some ⟨g',0,none⟩) (k+1) cap') (.slice none 0 0) (.slice none 0 0) (.slice none 0 0) (.slice none 0 0) ((List.range k).flatMap (staOf n b)) (k:Int) 129 (some ⟨b',0,none⟩) (W2.setCell ⟨x,1,none⟩ (.slice (some ⟨g',0,none⟩) (k+1) cap')) (set6_1 _ hx2)
    (ownsRow_setCell_other (hM2.owns B1.rs (fun z e e2=>otw B1.rs B1.rr (by decide) z e e2)) (bty B1.blk B1.rs (by decide)) _) (by omega))
   have c1:=coh B1.blk 1
   have d1:=coh hx2 1
   have e1:=foh hx2 1
   have HR:=hideA hrun;clear hrun hrow2 hM2 hG2 hx2 B1 q1 q2 q3 ck;go_wp2_with (at_builtin;refine wpList_append_run rfl (.tmp 31) (.tmp 33) 85 rfl _ _ _ _ (by simp[Act.eval]) (by simp[Act.eval]) HR.out ?_)
   go_wp2_with fail;refine HD.out.mono ?_
   rintro e w3 ⟨⟨v9,rfl⟩,vs',z1,z2,z3,z4⟩;have HFin:=hideA (HS.out vs' w3 z1 z2 z3 z4)
   clear z1 z2 z3 z4 c1 d1 e1;go_wp2_with fail;go_roundw
   case rel=>exact⟨k+1,by omega,by go_num,_,_,_,_,HFin.out.1,HFin.out.2⟩
   case measure=>simp[intOf];omega
  ·obtain rfl:k=n:=by omega
   have HBn:=hideA (And.intro hB hI)
   clear hB hI HY hlt;go_wp2_with fail;refine (HN1.out _).mono ?_
   rintro e Y1 ⟨c1x,rfl,o1,hbY⟩;have HY:=hideA (And.intro (HBn.out.1.below hbY) (And.intro (okp HBn.out.2 fun z _ hz=>hbY.block z hz) (obs o1 (Nat.zero_le _))))
   clear o1 hbY HBn;generalize hgb:wr.heap.size=g45 at *
   go_wp2_with fail;go_loopw [45] (fun ix wr=>∃ i:Nat,i≤3∧ix=.int .i64 i∧∃ b Fn vs va,Built w wr x k (k+i) b Fn vs vr va (.slice none 0 0)∧IntOwn wr (.slice (some ⟨ga,0,none⟩) k c) (firstInts k)∧wr.ownsRow 0 3 1 (.slice (some ⟨g45,0,none⟩) 3 c1x) 3 (ints (runOf 100 3))) (fun ix _=>3-(intOf ix).toNat)
   case atStart=>exact⟨0,Nat.zero_le _,rfl,_,_,_,_,HY.out.1,HY.out.2.1,HY.out.2.2⟩
   case round =>
    obtain⟨i,hi,rfl,b,Fn,vs,va,hB,hI,hR⟩:=hrel;by_cases hlt:i<3
    ·have hi1:(i:Int)<3:=by omega
     have ck:=row_at hR hlt
     have HC:=hideA (newAcc_nod k (k+i) _ wr (by omega) (by omega) hI h5)
     rw[num_acc hlt] at HC
     have hmin:min (k+i-k) 3=i:=by omega
     obtain⟨ar,cr,hvr⟩:=osh hB.ra
     rw[hmin] at hvr
     subst hvr;have HB:=hideA (And.intro hB (And.intro hI hR))
     have HMin:=hideA hmin;clear hB hI hR hmin;go_wp2_with fail;refine HC.out.mono ?_
     rintro e W1 ⟨b',F',rfl,q1,q2,q3⟩;have B1:=HB.out.1.below q3
     obtain⟨g',cap',W2,hrun,hx2,hrow2,hM2,hG2⟩:=ptr_app (t:=86) infoPA Tryz.underlying86 (by decide) W1 x i (.slice ar i cr) (ptrs b k i) (some ⟨b',0,none⟩) _ (by have:=B1.ra;rwa [HMin.out] at this) B1.blk (by omega)
     have HS:Hid (∀ vs' w3,w3.heap[x]?=some (.cells #[vs',vr,.slice (some ⟨g',0,none⟩) (i+1) cap',.slice none 0 0,.slice none 0 0,.slice none 0 0] 93)→w3.ownsRow 0 183 3 vs' (k+i+1) ((List.range (k+i)).flatMap (staOf k b)++[.int .i64 (100+(i:Int)),.int .i64 0,.iface 99 (.pointer (some ⟨b',0,none⟩))])→Moved (W2.setCell ⟨x,2,none⟩ (.slice (some ⟨g',0,none⟩) (i+1) cap')) w3 (fun z=>z=x∨vs.ownBlock=some z)→Grows (W2.setCell ⟨x,2,none⟩ (.slice (some ⟨g',0,none⟩) (i+1) cap')) vs vs' →
       Built w w3 x k (k+i+1) (putB b (k+i) b') (putF Fn (k+i) F') vs' vr (.slice (some ⟨g',0,none⟩) (i+1) cap') (.slice none 0 0)∧IntOwn w3 (.slice (some ⟨ga,0,none⟩) k c) (firstInts k)∧w3.ownsRow 0 3 1 (.slice (some ⟨g45,0,none⟩) 3 c1x) 3 (ints (runOf 100 3))):=hideA fun vs' w3 z1 z2 z3 z4=>by
      have hty:nodTy (firstNod k (k+i))=99:=by unfold firstNod;rw[if_neg (by omega),if_pos (by omega)];rfl
      obtain⟨r1,r2⟩:=HB.out.1.stepA b' F' (by omega) (by omega) q3 (by rw[num_acc hlt];exact q1) q2 (by rw[HMin.out];exact hrow2) hM2 hG2 hx2 z1 (by rw[hty,num_acc hlt];exact z2) z3 z4
      exact⟨r1,HB.out.1.keepInts q3 r2 HB.out.2.1,HB.out.1.row q3 r2 HB.out.2.2⟩
     have HD:=hideA (HAH.out x (k+i) vs (vr) (.slice (some ⟨g',0,none⟩) (i+1) cap') (.slice none 0 0) (.slice none 0 0) (.slice none 0 0) ((List.range (k+i)).flatMap (staOf k b)) (100+(i:Int)) 99 (some ⟨b',0,none⟩) (W2.setCell ⟨x,2,none⟩ (.slice (some ⟨g',0,none⟩) (i+1) cap')) (set6_2 _ hx2)
      (ownsRow_setCell_other (hM2.owns B1.rs (fun z e e2=>otw B1.rs B1.ra (by decide) z e e2)) (bty B1.blk B1.rs (by decide)) _) (by omega))
     have c1:=coh B1.blk 2
     have d1:=coh hx2 2
     have e1:=foh hx2 2
     have HR:=hideA hrun;clear hrun hrow2 hM2 hG2 hx2 B1 q1 q2 q3 ck;go_wp2_with (at_builtin;refine wpList_append_run rfl (.tmp 56) (.tmp 58) 86 rfl _ _ _ _ (by simp[Act.eval]) (by simp[Act.eval]) HR.out ?_)
     go_wp2_with fail;refine HD.out.mono ?_
     rintro e w3 ⟨⟨v9,rfl⟩,vs',z1,z2,z3,z4⟩;have HFin:=hideA (HS.out vs' w3 z1 z2 z3 z4)
     clear z1 z2 z3 z4 c1 d1 e1;go_wp2_with fail;go_roundw
     case rel=>exact⟨i+1,by omega,by go_num,_,_,_,_,HFin.out.1,HFin.out.2.1,HFin.out.2.2⟩
     case measure=>simp[intOf];omega
    ·obtain rfl:i=3:=by omega
     have HBn:=hideA (And.intro hB hI)
     clear hB hI HY hlt hR;go_wp2_with fail;refine (HN2.out _).mono ?_
     rintro e Y2 ⟨c2x,rfl,o1,hbY⟩;have HY:=hideA (And.intro (HBn.out.1.below hbY) (And.intro (trivial) (obs o1 (Nat.zero_le _))))
     clear o1 hbY HBn;generalize hgb:wr.heap.size=g70 at *
     go_wp2_with fail;go_loopw [70] (fun ix wr=>∃ i:Nat,i≤2∧ix=.int .i64 i∧∃ b Fn vs vm,Built w wr x k (k+3+i) b Fn vs vr va vm∧True∧wr.ownsRow 0 3 1 (.slice (some ⟨g70,0,none⟩) 2 c2x) 2 (ints (runOf 200 2))) (fun ix _=>2-(intOf ix).toNat)
     case atStart=>exact⟨0,Nat.zero_le _,rfl,_,_,_,_,HY.out.1,HY.out.2.1,HY.out.2.2⟩
     case round =>
      obtain⟨i,hi,rfl,b,Fn,vs,vm,hB,hI,hR⟩:=hrel;by_cases hlt:i<2
      ·have hi1:(i:Int)<2:=by omega
       have ck:=row_at hR hlt
       have HC:=hideA (newMas_nod k (k+3+i) wr (by omega))
       rw[num_mas] at HC
       have hmin:k+3+i-k-3=i:=by omega
       obtain⟨ar,cr,hvr⟩:=osh hB.rm
       rw[hmin] at hvr
       subst hvr;have HB:=hideA (And.intro hB (And.intro hI hR))
       have HMin:=hideA hmin;clear hB hI hR hmin;go_wp2_with fail;refine HC.out.mono ?_
       rintro e W1 ⟨b',F',rfl,q1,q2,q3⟩;have B1:=HB.out.1.below q3
       obtain⟨g',cap',W2,hrun,hx2,hrow2,hM2,hG2⟩:=ptr_app (t:=87) infoPM Tryz.underlying87 (by decide) W1 x i (.slice ar i cr) (ptrs b (k+3) i) (some ⟨b',0,none⟩) _ (by have:=B1.rm;rwa [HMin.out] at this) B1.blk (by omega)
       have HS:Hid (∀ vs' w3,w3.heap[x]?=some (.cells #[vs',vr,va,.slice (some ⟨g',0,none⟩) (i+1) cap',.slice none 0 0,.slice none 0 0] 93)→w3.ownsRow 0 183 3 vs' (k+3+i+1) ((List.range (k+3+i)).flatMap (staOf k b)++[.int .i64 (200+(i:Int)),.int .i64 0,.iface 81 (.pointer (some ⟨b',0,none⟩))])→Moved (W2.setCell ⟨x,3,none⟩ (.slice (some ⟨g',0,none⟩) (i+1) cap')) w3 (fun z=>z=x∨vs.ownBlock=some z)→Grows (W2.setCell ⟨x,3,none⟩ (.slice (some ⟨g',0,none⟩) (i+1) cap')) vs vs' →
         Built w w3 x k (k+3+i+1) (putB b (k+3+i) b') (putF Fn (k+3+i) F') vs' vr va (.slice (some ⟨g',0,none⟩) (i+1) cap')∧True∧w3.ownsRow 0 3 1 (.slice (some ⟨g70,0,none⟩) 2 c2x) 2 (ints (runOf 200 2))):=hideA fun vs' w3 z1 z2 z3 z4=>by
        have hty:nodTy (firstNod k (k+3+i))=81:=by unfold firstNod;rw[if_neg (by omega),if_neg (by omega)];rfl
        obtain⟨r1,r2⟩:=HB.out.1.stepM b' F' (by omega) q3 (by rw[num_mas];exact q1) q2 (by rw[HMin.out];exact hrow2) hM2 hG2 hx2 z1 (by rw[hty,num_mas];exact z2) z3 z4
        exact⟨r1,trivial,HB.out.1.row q3 r2 HB.out.2.2⟩
       have HD:=hideA (HAH.out x (k+3+i) vs (vr) (va) (.slice (some ⟨g',0,none⟩) (i+1) cap') (.slice none 0 0) (.slice none 0 0) ((List.range (k+3+i)).flatMap (staOf k b)) (200+(i:Int)) 81 (some ⟨b',0,none⟩) (W2.setCell ⟨x,3,none⟩ (.slice (some ⟨g',0,none⟩) (i+1) cap')) (set6_3 _ hx2)
        (ownsRow_setCell_other (hM2.owns B1.rs (fun z e e2=>otw B1.rs B1.rm (by decide) z e e2)) (bty B1.blk B1.rs (by decide)) _) (by omega))
       have c1:=coh B1.blk 3
       have d1:=coh hx2 3
       have e1:=foh hx2 3
       have HR:=hideA hrun;clear hrun hrow2 hM2 hG2 hx2 B1 q1 q2 q3 ck;go_wp2_with (at_builtin;refine wpList_append_run rfl (.tmp 80) (.tmp 82) 87 rfl _ _ _ _ (by simp[Act.eval]) (by simp[Act.eval]) HR.out ?_)
       go_wp2_with fail;refine HD.out.mono ?_
       rintro e w3 ⟨⟨v9,rfl⟩,vs',z1,z2,z3,z4⟩;have HFin:=hideA (HS.out vs' w3 z1 z2 z3 z4)
       clear z1 z2 z3 z4 c1 d1 e1;go_wp2_with fail;go_roundw
       case rel=>exact⟨i+1,by omega,by go_num,_,_,_,_,HFin.out.1,HFin.out.2.1,HFin.out.2.2⟩
       case measure=>simp[intOf];omega
      ·obtain rfl:i=2:=by omega
       have HBn:=hideA (And.intro hB hI)
       clear hB hI HY hlt hR;go_wp2_with fail;go_ret;rw[hx0];exact⟨_,_,_,_,_,_,rfl,HBn.out.1⟩
theorem sta_flat (n:Nat)(b:Nat→Nat):∀ (m j t:Nat),j<m→t<3→((List.range m).flatMap (staOf n b))[j*3+t]?=(staOf n b j)[t]?:=by
 intro m;induction m with
 | zero=>intro j t hj;omega
 | succ m ih =>
  intro j t hj ht;have hl:((List.range m).flatMap (staOf n b)).length=m*3:=by
   rw[List.length_flatMap];have:(List.range m).map (fun a=>(staOf n b a).length)=(List.range m).map (fun _=>3):=List.map_congr_left fun a _=>rfl
   rw[this];simp[List.map_const']
  rw[sta_snoc];by_cases e:j=m
  ·subst e
   rw[List.getElem?_append_right (by omega),hl,show j*3+t-j*3=t by omega]
  ·rw[List.getElem?_append_left (by omega)]
   exact ih j t (by omega) ht
theorem Built.done {w0 w:World}{x n:Nat}{b:Nat→Nat}{Fn:Nat→Nat→Prop}{vs vr va vm:Value}(h:Built w0 w x n (n+5) b Fn vs vr va vm)(h1:1≤n)(h5:n≤5) :
  ∃ F,CAt w F x (Clu.first n)∧∀ k,F k→w0.heap.size≤k:=by
 have hn:(Clu.first n).reps.length=n:=by simp[Clu.first]
 obtain⟨gs,cap,hv, -, -⟩:=h.rs.form (by omega)
 subst hv;obtain⟨cs,hcs, -⟩:=obc h.rs (k:=gs) rfl
 obtain⟨_,_,hcapv,hcap⟩:=own_cap h.rs
 cases hcapv
 have hO:∀ z,OwnS x gs vr va vm (.slice none 0 0) (.slice none 0 0) z→OwnB x (.slice (some ⟨gs,0,none⟩) (n+5) cap) vr va vm z:=by
  rintro z (e|e|e|e|e|e|e)
  ·exact .inl e
  ·exact .inr (.inl (by rw[e];rfl))
  ·exact .inr (.inr (.inl e))
  ·exact .inr (.inr (.inr (.inl e)))
  ·exact .inr (.inr (.inr (.inr e)))
  ·exact absurd e no_row
  ·exact absurd e no_row
 have hlt:∀ z,OwnB x (.slice (some ⟨gs,0,none⟩) (n+5) cap) vr va vm z→z<w.heap.size:=by
  intro z hz;have key:∀ {base size n:Nat} {e:TypeId} {v:Value} {xs:List Value},w.ownsRow base e size v n xs→v.ownBlock=some z→z<w.heap.size:=fun hr e=>(Array.getElem?_eq_some_iff.1 (obc hr e).choose_spec.1).1
  rcases hz with e|e|e|e|e
  ·rw[e];exact (Array.getElem?_eq_some_iff.1 h.blk).1
  ·exact key h.rs e
  ·exact key h.rr e
  ·exact key h.ra e
  ·exact key h.rm e
 have hnodj:∀ j,j<n+5→(Clu.first n).nod j=firstNod n j:=fun j hj=>nod_first n j hj
 refine⟨fun z=>OwnB x (.slice (some ⟨gs,0,none⟩) (n+5) cap) vr va vm z∨∃ j,j<n+5∧Fn j z,⟨gs,cap,b,Fn,vr,va,vm,.slice none 0 0,.slice none 0 0, ?_⟩, ?_⟩
 ·refine⟨?_, ?_, ?_, ?_, ?_, ?_, ?_, ?_, ?_, ?_, ?_, ?_, ?_, ?_, ?_,rfl,rfl⟩
  ·rw[hn]
   exact⟨h.blk,World.ownsRow_nil _ _ _ _⟩
  ·rw[hn]
   refine⟨cs,hcs,fun j hj => ?_⟩
   have key:∀ t,t<3→cs[j*3+t]?=(staOf n b j)[t]?:=fun t ht=>by
    rw[← coh hcs (j*3+t),World.ownsRow.cellAt h.rs (j*3+t) (by omega)]
    exact sta_flat n b (n+5) j t hj ht
   have hup:(firstNod n j).up=true:=by
    unfold firstNod
    split
    ·rfl
    ·split<;>rfl
   unfold Clu.sta
   rw[hn,hnodj j hj,hup];exact⟨key 0 (by omega),key 1 (by omega),key 2 (by omega)⟩
  ·rw[hn];exact hcap
  ·rw[hn]
   have:=h.rr
   rwa [show min (n+5) n=n by omega] at this
  ·rw[hn]
   have:=h.ra
   rwa [show min (n+5-n) 3=3 by omega] at this
  ·rw[hn]
   have:=h.rm
   rwa [show n+5-n-3=2 by omega] at this
  ·exact World.ownsRow_nil _ _ _ _
  ·intro j hj
   rw[hn] at hj ⊢
   rw[hnodj j hj];exact h.nod j hj
  ·intro i j hi hj
   rw[hn] at hi hj
   exact h.sep i j hi hj
  ·intro j hj z hz hz2
   rw[hn] at hj
   exact h.off j hj z hz (hO z hz2)
  ·exact fun z hz=>.inl (hO z hz)
  ·intro j hj z hz
   rw[hn] at hj
   exact .inr ⟨j,hj,hz⟩
  ·rintro z (hz|⟨j,hj,hz⟩)
   ·exact hlt z hz
   ·exact (h.nod j hj).lt hz
  ·rw[hn];exact h1
  ·rw[hn];exact h5
 ·rintro z (hz|⟨j,hj,hz⟩)
  ·exact h.newO z hz
  ·exact h.newN j hj z hz
theorem cluNew_any (n:Nat)(w:World)(h1:1≤n)(h5:n≤5) :
  Calls Tryz.prog 26 #[.agg #[.int .i64 (n:Int)]] w fun e w'=>∃ x F,e=.returned (.tuple #[.pointer (some ⟨x,0,none⟩),.int .i64 0])∧CAt w' F x (Clu.first n)∧(∀ k,F k→w.heap.size≤k)∧Below w.heap.size w w':=by
 have HC:=fun W=>hideA (newCluster_any n W h1 h5)
 have l1:¬ (n:Int)<1:=by omega
 have l2:¬ (5:Int)<(n:Int):=by omega
 go_enter Tryz.func26,Tryz.ntmps26
 go_upto_region 1 with fail
 obtain⟨X,hX,hbX,hM⟩:=bm1 w #[.int .i64 (n:Int)] 75
 rw[hX];clear hX;have c0:=coh hM 0
 clear hM;go_wp2_with fail;refine (HC X).out.mono ?_
 rintro e W ⟨b,Fn,vs,vr,va,vm,rfl,hB⟩;have HB:=hideA hB;clear hB c0;go_wp2_with fail;go_ret2
 obtain⟨F,q1,q2⟩:=HB.out.done h1 h5
 have hs:=hbX.size
 exact⟨_,F,rfl,q1,fun k hk=>by have:=q2 k hk;omega,hbX.trans (HB.out.bel.mono hs)⟩
theorem refNew_no (n:Int)(w:World)(hn:¬ (1≤n∧n≤5)):Calls Tryz.prog 81 #[.agg #[.int .i64 n]] w fun e w'=>e=.returned (.tuple #[.pointer none,.int .i64 3])∧Below w.heap.size w w':=by
 obtain⟨C,hC,hbC,hMC⟩:=bm1 w #[.int .i64 n] 75
 have cC:C.cell? ⟨w.heap.size,0,none⟩=some (.int .i64 n):=coh hMC 0
 clear hMC;by_cases h1:n<1
 ·go_enter Tryz.func81,Tryz.ntmps81
  go_wp2_with fail;go_ret2
  exact⟨rfl,hbC⟩
 ·have h5:5<n:=by omega
  go_enter Tryz.func81,Tryz.ntmps81
  go_wp2_with fail;go_ret2
  exact⟨rfl,hbC⟩
theorem cluNew_no (n:Int)(w:World)(hn:¬ (1≤n∧n≤5)):Calls Tryz.prog 26 #[.agg #[.int .i64 n]] w fun e w'=>e=.returned (.tuple #[.pointer none,.int .i64 3])∧Below w.heap.size w w':=by
 obtain⟨C,hC,hbC,hMC⟩:=bm1 w #[.int .i64 n] 75
 have cC:C.cell? ⟨w.heap.size,0,none⟩=some (.int .i64 n):=coh hMC 0
 clear hMC;by_cases h1:n<1
 ·go_enter Tryz.func26,Tryz.ntmps26
  go_wp2_with fail;go_ret2
  exact⟨rfl,hbC⟩
 ·have h5:5<n:=by omega
  go_enter Tryz.func26,Tryz.ntmps26
  go_wp2_with fail;go_ret2
  exact⟨rfl,hbC⟩
theorem infoPPair : (Tryz.prog.info? 104).map (fun i=>(i.zero,i.size,i.bytes))=some (some (.pointer none),1,8):=by kernel_rfl
theorem CAt.lt' {w:World}{F:Nat→Prop}{x:Nat}{c:Clu}(h:CAt w F x c){k:Nat}(hk:F k):k<w.heap.size:=by
 obtain⟨_,_,_,_,_,_,_,_,_,h⟩:=h;exact h.lt k hk
theorem LawIn.ltP {w0 w:World}{B:Nat}{x5:Value}{M:Nat}{b:Bk}{ps:List Pr}{vC vI vL vT vA:Value}(h:LawIn w0 w B x5 M b ps vC vI vL vT vA)(p:Pr)(hp:p∈ps)(k:Nat)(hk:p.F k):k<w.heap.size:=by
 obtain⟨_,_,_,_,_,_,_,h6⟩:=h.prs p hp
 exact h6 k hk
theorem LawIn.pair {w0 w W2:World}{B:Nat}{x5:Value}{M:Nat}{b:Bk}{ps:List Pr}{vC vI vL vT vA:Value}{x y:Nat}{c:Clu}{FX FY:Nat→Prop}(h:LawIn w0 w B x5 M b ps vC vI vL vT vA)(hb:Below w.heap.size w W2)(hX:CAt W2 FX x c)(hY:RefAt W2 FY y c)(hFX:∀ k,FX k→w.heap.size≤k)(hFY:∀ k,FY k→w.heap.size≤k)(hXY:∀ k,FX k→¬ FY k)(hn:ps.length≤1000000000) :
  ∃ g' cap' W3,(∀ ty,(Builtin.append_ #[59,59] ty #[vC,.slice (some ⟨W2.heap.size+1,0,none⟩) 1 1]).run Tryz.prog ((W2.alloc (.cells #[.pointer (some ⟨x,0,none⟩),.pointer (some ⟨y,0,none⟩)] 123)).alloc (.cells #[.pointer (some ⟨W2.heap.size,0,none⟩)] 104))=.ok (.slice (some ⟨g',0,none⟩) (ps.length+1) cap') W3) ∧
   W3.cell? ⟨B,0,none⟩=some vC∧W3.frozen? ⟨B,0,none⟩=false∧LawAt w0 (W3.setCell ⟨B,0,none⟩ (.slice (some ⟨g',0,none⟩) (ps.length+1) cap')) B x5 M (ps++[⟨W2.heap.size,x,y,c,fun k=>k=W2.heap.size∨FX k∨FY k⟩]):=by
 obtain⟨X,hXe⟩:∃ X,X=W2.alloc (.cells #[.pointer (some ⟨x,0,none⟩),.pointer (some ⟨y,0,none⟩)] 123):=⟨_,rfl⟩
 have hsX:X.heap.size=W2.heap.size+1:=by rw[hXe];simp
 have hbX:Below W2.heap.size W2 X:=by rw[hXe];exact (Below.refl _ W2).alloc (Nat.le_refl _) _
 have hMq:X.heap[W2.heap.size]?=some (.cells #[.pointer (some ⟨x,0,none⟩),.pointer (some ⟨y,0,none⟩)] 123):=by rw[hXe];exact hnw _ _
 have hbZ:Below X.heap.size X (X.alloc (.cells #[.pointer (some ⟨W2.heap.size,0,none⟩)] 104)):=(Below.refl _ X).alloc (Nat.le_refl _) _
 have hnew:(X.alloc (.cells #[.pointer (some ⟨W2.heap.size,0,none⟩)] 104)).heap[W2.heap.size+1]?=some (.cells [Value.pointer (some ⟨W2.heap.size,0,none⟩)].toArray 104):=by
  have:=hnw X (.cells #[.pointer (some ⟨W2.heap.size,0,none⟩)] 104)
  rw[hsX] at this
  exact this
 have hsZ:(X.alloc (.cells #[.pointer (some ⟨W2.heap.size,0,none⟩)] 104)).heap.size=W2.heap.size+2:=by rw[World.size_alloc,hsX]
 generalize hZ:X.alloc (.cells #[.pointer (some ⟨W2.heap.size,0,none⟩)] 104)=Z at *
 have hbWZ:Below w.heap.size w Z:=hb.trans ((hbX.trans (hbZ.mono hbX.size)).mono hb.size)
 have hb2Z:Below W2.heap.size W2 Z:=hbX.trans (hbZ.mono hbX.size)
 have IZ:=h.below hbWZ
 have hBl:=h.book.bs
 obtain⟨g',cap',W3,hrun,ho1,hg1,hwh⟩:=append_row (t:=59) infoPPair Tryz.underlying59 rfl (by decide) Z (B+1) vC ps.length (ps.map fun p=>Value.pointer (some ⟨p.q,0,none⟩)) [.pointer (some ⟨W2.heap.size,0,none⟩)] (W2.heap.size+1) IZ.row hnew rfl (by intro u hu;rw[List.mem_singleton] at hu;subst hu;rfl) (by omega) (by decide) (by have:=hbWZ.size;omega)
 have hw2:=hb.size
 have hBZ:B<Z.heap.size:=by omega
 have nb:vC.ownBlock≠some B:=fun e=>by have:=(IZ.row.lt B e).1;omega
 have hBW:W3.heap[B]?=some (.cells #[vC,vI,vL,vT,vA,x5] 67):=(hg1.block B hBZ (fun e=>nb e.symm)).trans IZ.book.blk
 obtain⟨U,hU⟩:∃ U,U=W3.setCell ⟨B,0,none⟩ (.slice (some ⟨g',0,none⟩) (ps.length+1) cap'):=⟨_,rfl⟩
 have hMv:Moved Z U (fun z=>z=B∨vC.ownBlock=some z):=by
  rw[hU];exact ((Moved.refl Z _).grown hg1 (fun z _ e=>.inr e)).setCell ⟨B,0,none⟩ (.inl rfl) _
 have hsU:=hMv.size
 have hblU:U.heap[B]?=some (.cells #[.slice (some ⟨g',0,none⟩) (ps.length+1) cap',vI,vL,vT,vA,x5] 67):=by
  rw[hU];exact heap_setCell_same _ _ _ _ _ _ hBW
 have hkeep:∀ {base size n:Nat} {e:TypeId} {v:Value} {xs:List Value},Z.ownsRow base e size v n xs→e≠67→e≠104→U.ownsRow base e size v n xs:=fun ho h1 h2=>hMv.owns ho fun z hz hS=>by
  rcases hS with e|e
  ·exact bty IZ.book.blk ho h1 (e ▸ hz)
  ·exact otw ho IZ.row h2 z hz e
 have hg'n:vC.ownBlock=some g'∨W2.heap.size+2≤g':=hwh.imp id (fun e=>by omega)
 have hCn:∀ z,(Value.slice (some ⟨g',0,none⟩) (ps.length+1) cap').ownBlock=some z→vC.ownBlock=some z∨W2.heap.size+2≤z:=fun z e=>by
  have hg:g'=z:=by simpa [Value.ownBlock] using e
  subst hg;exact hg'n
 have hold:∀ z,vC.ownBlock=some z→z<w.heap.size:=fun z e=>(Array.getElem?_eq_some_iff.1 (obc h.row e).choose_spec.1).1
 have hFlt:∀ k,k=W2.heap.size∨FX k∨FY k→w.heap.size≤k∧k<W2.heap.size+1:=fun k hk=>by
  rcases hk with e|e|e
  ·omega
  ·have:=hFX k e
   have:=hX.lt' e
   omega
  ·have:=hFY k e
   have:=hY.lt' e
   omega
 have hFU:∀ k,k=W2.heap.size∨FX k∨FY k→U.heap[k]?=Z.heap[k]?:=fun k hk=>hMv.block k (by have:=(hFlt k hk).2;omega) (fun hS=>by
  have h1:=(hFlt k hk).1
  rcases hS with e|e
  ·omega
  ·have:=hold k e
   omega)
 refine⟨g',cap',W3,fun ty=>by rw[← hXe,hZ];exact hrun ty,coh hBW 0,foh hBW 0,b,.slice (some ⟨g',0,none⟩) (ps.length+1) cap',vI,vL,vT,vA, ?_⟩
 rw[← hU];have hbook:BookIn U B (B+1) (.slice (some ⟨g',0,none⟩) (ps.length+1) cap') x5 b vI vL vT vA :=
  {blk:=hblU
   rI:=hkeep IZ.book.rI (by decide) (by decide)
   rL:=hkeep IZ.book.rL (by decide) (by decide)
   rT:=hkeep IZ.book.rT (by decide) (by decide)
   rA:=hkeep IZ.book.rA (by decide) (by decide)
   eI:=fun i p hp=>⟨(IZ.book.eI i p hp).1,hkeep (IZ.book.eI i p hp).2 (by decide) (by decide)⟩
   eL:=fun i p hp=>⟨(IZ.book.eL i p hp).1,hkeep (IZ.book.eL i p hp).2 (by decide) (by decide)⟩
   eT:=fun i p hp=>⟨(IZ.book.eT i p hp).1,hkeep (IZ.book.eT i p hp).2 (by decide) (by decide)⟩
   eA:=fun i p hp=>⟨(IZ.book.eA i p hp).1,hkeep (IZ.book.eA i p hp).2 (by decide) (by decide)⟩
   bb:=IZ.book.bb
   bs:=Nat.le_trans IZ.book.bs hsU
   fours:=IZ.book.fours }
 refine⟨hbook, ?_,fun p hp => ?_,fun p hp k hk => ?_,h.small, ?_,h.new, ?_⟩
 ·have hr:=ownsRow_setCell_other (a:=⟨B,0,none⟩) ho1 (fun e=>by have:=(ho1.lt B e).1;omega) (.slice (some ⟨g',0,none⟩) (ps.length+1) cap')
  rw[← hU] at hr
  rw[List.length_append,List.map_append];exact hr
 ·rcases List.mem_append.1 hp with hp|hp
  ·refine (IZ.prs p hp).keep fun k hk=>hMv.block k (IZ.ltP p hp k hk) (fun hS => ?_)
   have ho:=h.off p hp k hk
   rcases hS with e|e
   ·omega
   ·exact ho.2.2 e
  ·rw[List.mem_singleton] at hp
   subst hp;have hX':CAt U FX x c:=by
    obtain⟨gs,cap,b,Fn,vr,va,vm,vb,vt,h2⟩:=hX;exact⟨gs,cap,b,Fn,vr,va,vm,vb,vt,h2.keep fun k e=>(hFU k (.inr (.inl e))).trans (hb2Z.block k (h2.lt k e))⟩
   exact⟨FX,FY,(hFU _ (.inl rfl)).trans ((hbZ.block _ (by omega)).trans hMq),hX',hY.keep fun k e=>(hFU k (.inr (.inr e))).trans (hb2Z.block k (hY.lt' e)),fun k e=>e,⟨hXY,fun e=>Nat.lt_irrefl _ (hX.lt' e),fun e=>Nat.lt_irrefl _ (hY.lt' e)⟩,fun k e=>by have:=(hFlt k e).2;omega⟩
 ·rcases List.mem_append.1 hp with hp|hp
  ·obtain⟨o1,o2,o3⟩:=h.off p hp k hk
   refine⟨o1,o2,fun e => ?_⟩
   rcases hCn k e with q|q
   ·exact o3 q
   ·have:=h.ltP p hp k hk
    omega
  ·rw[List.mem_singleton] at hp
   subst hp;have hk':=hFlt k hk
   refine⟨by omega,fun e => ?_,fun e => ?_⟩
   ·have:=Bk.lt h.book e
    omega
   ·rcases hCn k e with q|q
    ·have:=hold k q
     omega
    ·omega
 ·have hnw:=h.new
  refine IZ.be.trans (hMv.to_below (fun z q => ?_) IZ.be.size)
  rcases q with q|q
  ·omega
  ·have:=(h.row.lt z q).1
   omega
 ·refine List.pairwise_append.2 ⟨h.apart,List.pairwise_singleton _ _,fun p hp q hq k hk hk2 => ?_⟩
  rw[List.mem_singleton] at hq
  subst hq;have h1:=h.ltP p hp k hk
  have h2:=(hFlt k hk2).1
  omega
theorem lawOpened_any {w0 w:World}{B:Nat}{x5:Value}{M:Nat}{ps:List Pr}(n:Int)(h:LawAt w0 w B x5 M ps)(hn:ps.length≤1000000000) :
  Calls Tryz.prog 41 #[.pointer (some ⟨B,0,none⟩),.int .i64 n] w fun e w'=>e=.returned (.bool true)∧∃ ps',LawAt w0 w' B x5 M ps'∧((1≤n∧n≤5∧∃ p,p.c=Clu.first n.toNat∧ps'=ps++[p])∨(¬ (1≤n∧n≤5)∧ps'=ps)):=by
 obtain⟨b,vC,vI,vL,vT,vA,h⟩:=h;obtain⟨C,hC,hbC,hMC⟩:=bm1 w #[.int .i64 n] 75
 have cC:C.cell? ⟨w.heap.size,0,none⟩=some (.int .i64 n):=coh hMC 0
 have HMC:=hideA hMC;have hCs:=(Array.getElem?_eq_some_iff.1 hMC).1
 have HL:=hideA h;clear h hMC;by_cases hin:1≤n∧n≤5
 ·obtain⟨m,rfl⟩:∃ m:Nat,n=(m:Int):=⟨n.toNat,by omega⟩
  have HN:=hideA (cluNew_any m C (by omega) (by omega))
  go_enter Tryz.func41,Tryz.ntmps41
  go_wp2_with fail;refine HN.out.mono ?_
  rintro e W1 ⟨x,FX,rfl,hX,hFX,hb1⟩;have c1:=cell_later hb1 cC
  have HX:=hideA (And.intro hX hFX)
  have HR:=hideA (refNew_any m W1 (by omega) (by omega))
  clear hX hFX cC;go_wp2_with fail;refine HR.out.mono ?_
  rintro e W2 ⟨y,FY,rfl,hY,hFY,hb2⟩;have hs1:=hb1.size
  have hbC2:=hbC.size
  have hb12:=(hbC.trans (hb1.mono hbC.size)).trans (hb2.mono (Nat.le_trans hbC.size hb1.size))
  have hX2:CAt W2 FX x (Clu.first m):=by
   obtain⟨gs,cap,b,Fn,vr,va,vm,vb,vt,h2⟩:=HX.out.1;exact⟨gs,cap,b,Fn,vr,va,vm,vb,vt,h2.keep fun k e=>hb2.block k (h2.lt k e)⟩
  obtain⟨aC,cCc,hvC⟩:=osh HL.out.row
  subst hvC;obtain⟨g',cap',W3,hrun,r1,r2,hfin⟩:=HL.out.pair hb12 hX2 hY (fun k e=>by have:=HX.out.2 k e;omega) (fun k e=>by have:=hFY k e;omega) (fun k e1 e2=>by have:=HX.out.1.lt' e1;have:=hFY k e2;omega) hn
  have cB:W2.cell? ⟨B,0,none⟩=some (.slice aC ps.length cCc):=coh (HL.out.below hb12).book.blk 0
  have cB1:∀ o,(W2.alloc o).cell? ⟨B,0,none⟩=some (.slice aC ps.length cCc):=fun o=>cell_later ((Below.refl _ W2).alloc (Nat.le_refl _) o) cB
  have HRun:=hideA hrun;have HF:=hideA hfin;clear hY hFY hX2 hrun hfin c1;go_wp2_with (at_builtin;refine wpList_append_run rfl (.tmp 38) (.tmp 43) 59 rfl _ _ _ _ (by simp[Act.eval]) (by simp[Act.eval]) HRun.out ?_)
  go_wp2_with fail;go_ret;exact⟨rfl,_,HF.out,.inl ⟨hin.1,hin.2,_,by simp,rfl⟩⟩
 ·have HN:=hideA (cluNew_no n C hin)
  go_enter Tryz.func41,Tryz.ntmps41
  go_wp2_with fail;refine HN.out.mono ?_
  rintro e W1 ⟨rfl,hb1⟩;have c1:=cell_later hb1 cC
  have HR:=hideA (refNew_no n W1 hin)
  clear cC;go_wp2_with fail;refine HR.out.mono ?_
  rintro e W2 ⟨rfl,hb2⟩;have hb12:=(hbC.trans (hb1.mono hbC.size)).trans (hb2.mono (Nat.le_trans hbC.size hb1.size))
  clear c1;go_wp2_with fail;go_ret;exact⟨rfl,ps,⟨b,vC,vI,vL,vT,vA,HL.out.below hb12⟩,.inr ⟨hin,rfl⟩⟩
end Go.Proofs.YtgieeeeeiggoeaaGreat
