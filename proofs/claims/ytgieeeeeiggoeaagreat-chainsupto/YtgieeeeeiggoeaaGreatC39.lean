import Derived.Test.YtgieeeeeiggoeaaGreatC38
import Derived.Test.YtgieeeeeiggoeaaGreatC08
set_option maxRecDepth 100000
set_option maxHeartbeats 4000000
namespace Go.Proofs.YtgieeeeeiggoeaaGreat
open Go.RowKit Go.Shelf
theorem refNew_any (n:Nat)(w:World)(h1:1≤n)(h5:n≤5) :
  Calls Tryz.prog 81 #[.agg #[.int .i64 (n:Int)]] w fun e w'=>∃ y F,e=.returned (.tuple #[.pointer (some ⟨y,0,none⟩),.int .i64 0])∧RefAt w' F y (Clu.first n)∧(∀ k,F k→w.heap.size≤k)∧Below w.heap.size w w':=by
 have hn1:¬ (n:Int)<1:=by omega
 have hn5:¬ (5:Int)<(n:Int):=by omega
 have mixed:Tryz.prog.follows Departure.mixedOrders=true:=by kernel_rfl
 obtain⟨C,hC,hbC,hMC⟩:=bm1 w #[.int .i64 (n:Int)] 75
 obtain⟨Y,hY,hbY,hMY⟩:=bm1 C #[.slice none 0 0,.slice none 0 0,.slice none 0 0,.slice none 0 0,.slice none 0 0] 120
 have hCl:C.heap.size=w.heap.size+1:=by rw[← hC];simp
 have hYl:Y.heap.size=C.heap.size+1:=by rw[← hY];simp
 have hbwY:Below w.heap.size w Y:=hbC.trans (hbY.mono hbC.size)
 have HMY:=hideA hMY;have HMC:=hideA hMC;have cC:C.cell? ⟨w.heap.size,0,none⟩=some (.int .i64 (n:Int)):=coh hMC 0
 have cY:=cell_later hbY cC
 have HSz:=hideA (And.intro hCl hYl)
 clear hMY hMC hCl hYl;generalize hyy:C.heap.size=y at *
 go_enter Tryz.func81,Tryz.ntmps81
 go_wp2_with fail;go_loopw [5,6] (fun v i wr=>∃ k:Nat,k≤n∧i=.int .i64 k∧wr.ownsRow Y.heap.size 3 1 v k (ints (firstInts k))∧Below Y.heap.size Y wr) (fun _ i _=>n-(intOf i).toNat)
 case atStart=>exact⟨0,Nat.zero_le _,rfl,World.ownsRow_nil _ _ _ _,Below.refl _ _⟩
 case round =>
  obtain⟨k,hk,rfl,hown,hb⟩:=hrel;obtain⟨av,cv,hv⟩:=osh hown
  subst hv;have r3:=cell_later hb cY
  by_cases hlt:k<n
  ·have hk1:(k:Int)<(n:Int):=by omega
   obtain⟨g',cap',W1,hrun,ho1,hg1,hwh⟩:=append_row (t:=29) infoInt3 Tryz.underlying29 rfl (by decide) (wr.alloc (.cells #[.int .i64 (k:Int)] 3)) Y.heap.size (.slice av k cv) k (ints (firstInts k)) [.int .i64 (k:Int)] wr.heap.size (hown.alloc _) (hnw _ _) rfl (by intro u hu;simp at hu;subst hu;rfl) (by omega) (by decide) (by simp;have:=hb.size;omega)
   have HR:=hideA hrun;have hbW:Below Y.heap.size Y W1:=hb.trans ((((Moved.refl wr (fun j=>(Value.slice av k cv).ownBlock=some j)).alloc _).grown hg1 (fun j _ e=>e)).to_below (fun j e=>(hown.lt j e).1) hb.size)
   have HO:=hideA (And.intro ho1 hbW)
   clear hrun ho1 hg1 hbW hown;go_wp2_with (at_builtin;refine wpList_append_run rfl (.tmp 25) (.tmp 27) 29 rfl _ _ _ _ (by simp[Act.eval]) (by simp[Act.eval]) HR.out ?_)
   go_wp2_with fail;exact⟨⟨k+1,by omega,by go_num,by rw[firstInts_snoc,ints_append];exact HO.out.1,HO.out.2⟩,by simp[intOf];omega⟩
  ·obtain rfl:k=n:=by omega
   have hfl:(firstInts k).length=k:=by simp[firstInts]
   have hall:IntOwn wr (.slice av k cv) (firstInts k):=by
    unfold IntOwn
    rw[hfl];exact obs hown (Nat.zero_le _)
   have hne:firstInts k≠[]:=fun e=>by rw[e] at hfl;simp at hfl;omega
   have hwY:=hbwY.size
   obtain⟨hCl,hYl⟩:=HSz.out;have HN0:Hid (NewR w wr y k 0 0 (.slice av k cv) (fun _=>0) (fun _=>0) (.slice none 0 0) (.slice none 0 0)):=hideA
    {blk:=(hb.block _ (by omega)).trans HMY.out
     rr:=World.ownsRow_nil _ _ _ _
     ra:=World.ownsRow_nil _ _ _ _
     reps:=fun j hj=>absurd hj (Nat.not_lt_zero _)
     accs:=fun j hj=>absurd hj (Nat.not_lt_zero _)
     all:=hall
     new:=⟨by omega,fun z e=>absurd e no_row,fun z e=>absurd e no_row,fun z e=>by have:=(hown.lt z e).1;omega⟩
     be:=hbwY.trans (hb.mono hwY)
     cfg:=(hb.block _ (by omega)).trans ((hbY.block _ (by omega)).trans HMC.out)
     ijr:=fun i _ hi _ _=>absurd hi (Nat.not_lt_zero _)
     ija:=fun i _ hi _ _=>absurd hi (Nat.not_lt_zero _) }
   clear hown hall hCl hYl;go_wp2_with fail;go_loopw [7] (fun i wr2=>∃ j:Nat,j≤k∧i=.int .i64 j∧∃ br vr,NewR w wr2 y k j 0 (.slice av k cv) br (fun _=>0) vr (.slice none 0 0)) (fun i _=>k-(intOf i).toNat)
   case atStart=>exact⟨0,Nat.zero_le _,rfl,_,_,HN0.out⟩
   case round =>
    clear r3 hb;obtain⟨j,hj,rfl,br,vr,hN⟩:=hrel;have r3:=coh hN.cfg 0
    obtain⟨ar,cr,hvr⟩:=osh hN.rr
    subst hvr;have y0:wr.cell? ⟨y,0,none⟩=some (.slice ar j cr):=coh hN.blk 0
    have HN:=hideA hN;by_cases hlt2:j<k
    ·have hj1:(j:Int)<(k:Int):=by omega
     have HI:Hid (∀ W,W=wr.drew→Calls Tryz.prog 132 #[.slice av k cv] W fun e w'=>∃ a' c',e=.returned (.slice a' k c')∧∃ g' cap' W1 br',(∀ ty,(Builtin.append_ #[115,115] ty #[.slice ar j cr,.slice (some ⟨w'.heap.size+1,0,none⟩) 1 1]).run Tryz.prog ((w'.alloc (.cells #[.bool true,.int .i64 0,.int .i64 0,.slice a' k c',.slice none 0 0,.int .i64 0,.int .i64 0] 199)).alloc (.cells #[.pointer (some ⟨w'.heap.size,0,none⟩)] 197))=.ok (.slice (some ⟨g',0,none⟩) (j+1) cap') W1)∧W1.cell? ⟨y,0,none⟩=some (.slice ar j cr)∧W1.frozen? ⟨y,0,none⟩=false∧w'.cell? ⟨y,0,none⟩=some (.slice ar j cr)∧(∀ o,(w'.alloc o).cell? ⟨y,0,none⟩=some (.slice ar j cr))∧(∀ o o2,((w'.alloc o).alloc o2).cell? ⟨y,0,none⟩=some (.slice ar j cr)) ∧
       NewR w (W1.setCell ⟨y,0,none⟩ (.slice (some ⟨g',0,none⟩) (j+1) cap')) y k (j+1) 0 (.slice av k cv) br' (fun _=>0) (.slice (some ⟨g',0,none⟩) (j+1) cap') (.slice none 0 0)):=hideA fun W hW=>by
      subst hW;have hNd:=HN.out.below (Below.refl _ _).drew
      have hla:(firstInts k).length=k:=hfl
      have hcall:=refInts_any (.slice av k cv) (firstInts k) wr.drew hNd.all hne (by omega)
      rw[hla] at hcall
      refine hcall.mono ?_
      rintro e V ⟨a',c',rfl,hm,hbV⟩;have hNV:=hNd.below hbV
      have hm0:IntOwn V (.slice a' k c') (firstInts k):=by
       unfold IntOwn
       rw[hla];exact obs hm (Nat.zero_le _)
      have hbe:=HN.out.be.size
      obtain⟨g',cap',W1,br',q1,q2,q3,q4⟩:=hNV.rep hm0 (fun z e=>by have:wr.heap.size≤z:=(hm.lt z e).1;omega) (by omega)
      have cV:V.cell? ⟨y,0,none⟩=some (.slice ar j cr):=coh hNV.blk 0
      exact⟨a',c',rfl,g',cap',W1,br',q1,q2,q3,cV,fun o=>cell_later ((Below.refl _ V).alloc (Nat.le_refl _) o) cV,fun o o2=>cell_later ((Below.refl _ _).alloc (Nat.le_refl _) o2) (cell_later ((Below.refl _ V).alloc (Nat.le_refl _) o) cV),q4⟩
     clear hN;go_wp2_with fail;go_region_law (first
       | (rw[if_pos (by simp[Region.wanted])];go_simp;go_at_call 132;refine (HI.out _ rfl).mono ?_;rintro e V ⟨a',c',rfl,g',cap',W1,br',hrun,q2,q3,q5,q6,q7,q4⟩;have HQ4:=hideA q4;clear q4)
       | (refine op_append rfl (.tmp 39) (.tmp 44) 115 rfl _ _ _ _ (by simp[Act.eval]) (by simp[Act.eval]) hrun ?_))
     all_goals (
      go_wp2_with fail;go_roundw
      case rel=>exact⟨j+1,by omega,by go_num,_,_,HQ4.out⟩
      case measure=>simp[intOf];omega)
    ·obtain rfl:j=k:=by omega
     clear hlt2;go_wp2_with fail;go_loopw [8] (fun i wr2=>∃ m:Nat,m≤3∧i=.int .i64 m∧∃ ba va,NewR w wr2 y j j m (.slice av j cv) br ba (.slice ar j cr) va) (fun i _=>3-(intOf i).toNat)
     case atStart=>exact⟨0,Nat.zero_le _,rfl,_,_,HN.out⟩
     case round =>
      clear r3 y0 HN hN;obtain⟨m,hm3,rfl,ba,va,hN⟩:=hrel;obtain⟨aa,ca,hva⟩:=osh hN.ra
      subst hva;have y0:wr.cell? ⟨y,1,none⟩=some (.slice aa m ca):=coh hN.blk 1
      have HN:=hideA hN;by_cases hlt3:m<3
      ·have hj1:(m:Int)<3:=by omega
       have HI:Hid (∀ W,W=wr.drew→Calls Tryz.prog 132 #[.slice av j cv] W fun e w'=>∃ a' c',e=.returned (.slice a' j c')∧∃ g' cap' W1 ba',(∀ ty,(Builtin.append_ #[116,116] ty #[.slice aa m ca,.slice (some ⟨w'.heap.size+1,0,none⟩) 1 1]).run Tryz.prog ((w'.alloc (.cells #[.bool true,.int .i64 0,.slice a' j c',.slice none 0 0] 203)).alloc (.cells #[.pointer (some ⟨w'.heap.size,0,none⟩)] 200))=.ok (.slice (some ⟨g',0,none⟩) (m+1) cap') W1)∧W1.cell? ⟨y,1,none⟩=some (.slice aa m ca)∧W1.frozen? ⟨y,1,none⟩=false∧w'.cell? ⟨y,1,none⟩=some (.slice aa m ca)∧(∀ o,(w'.alloc o).cell? ⟨y,1,none⟩=some (.slice aa m ca))∧(∀ o o2,((w'.alloc o).alloc o2).cell? ⟨y,1,none⟩=some (.slice aa m ca)) ∧
         NewR w (W1.setCell ⟨y,1,none⟩ (.slice (some ⟨g',0,none⟩) (m+1) cap')) y j j (m+1) (.slice av j cv) br ba' (.slice ar j cr) (.slice (some ⟨g',0,none⟩) (m+1) cap')):=hideA fun W hW=>by
        subst hW;have hNd:=HN.out.below (Below.refl _ _).drew
        have hla:(firstInts j).length=j:=hfl
        have hcall:=refInts_any (.slice av j cv) (firstInts j) wr.drew hNd.all hne (by omega)
        rw[hla] at hcall
        refine hcall.mono ?_
        rintro e V ⟨a',c',rfl,hm,hbV⟩;have hNV:=hNd.below hbV
        have hm0:IntOwn V (.slice a' j c') (firstInts j):=by
         unfold IntOwn
         rw[hla];exact obs hm (Nat.zero_le _)
        have hbe:=HN.out.be.size
        obtain⟨g',cap',W1,ba',q1,q2,q3,q4⟩:=hNV.acc hm0 (fun z e=>by have:wr.heap.size≤z:=(hm.lt z e).1;omega) (by omega)
        have cV:V.cell? ⟨y,1,none⟩=some (.slice aa m ca):=coh hNV.blk 1
        exact⟨a',c',rfl,g',cap',W1,ba',q1,q2,q3,cV,fun o=>cell_later ((Below.refl _ V).alloc (Nat.le_refl _) o) cV,fun o o2=>cell_later ((Below.refl _ _).alloc (Nat.le_refl _) o2) (cell_later ((Below.refl _ V).alloc (Nat.le_refl _) o) cV),q4⟩
       clear hN;go_wp2_with fail;go_region_law (first
         | (rw[if_pos (by simp[Region.wanted])];go_simp;go_at_call 132;refine (HI.out _ rfl).mono ?_;rintro e V ⟨a',c',rfl,g',cap',W1,ba',hrun,q2,q3,q5,q6,q7,q4⟩;have HQ4:=hideA q4;clear q4)
         | (refine op_append rfl (.tmp 56) (.tmp 61) 116 rfl _ _ _ _ (by simp[Act.eval]) (by simp[Act.eval]) hrun ?_))
       all_goals (
        go_wp2_with fail;go_roundw
        case rel=>exact⟨m+1,by omega,by go_num,_,_,HQ4.out⟩
        case measure=>simp[intOf];omega)
      ·obtain rfl:m=3:=by omega
       obtain⟨i0,hi,hz0,hz1,hz2⟩:=info_parts infoPMas
       have y2:wr.cell? ⟨y,2,none⟩=some (.slice none 0 0):=coh hN.blk 2
       have hyl:y<wr.heap.size:=(Array.getElem?_eq_some_iff.1 hN.blk).1
       have hyn1:¬ y=wr.heap.size:=by omega
       have hyn2:¬ wr.heap.size=y:=by omega
       clear hN y0;go_wp2_with (at_builtin;refine wpList_append_own _ rfl _ _ 117 rfl wr.heap.size 204 i0 _ 1 8 Tryz.underlying117 hi hz0 hz1 hz2 rfl (by decide) (.slice none 0 0) 0 [] rfl (World.ownsRow_nil _ _ _ _) ⟨wr.heap.size+1+1,0,none⟩ 2 2 [.pointer (some ⟨wr.heap.size,0,none⟩),.pointer (some ⟨wr.heap.size+1,0,none⟩)] rfl rfl ?_ (by intro u hu;simp at hu;rcases hu with rfl|rfl<;>rfl) (by unfold maxLen;omega) (by omega) (by simp;omega) ?_)
       ·intro i u hu
        have:=hnw ((wr.alloc (.cells #[.bool true,.int .i64 0,.int .i64 0,.int .i64 0,.int .i64 0,.slice none 0 0,.slice none 0 0,.slice none 0 0,.slice none 0 0,.slice none 0 0] 206)).alloc (.cells #[.bool true,.int .i64 0,.int .i64 0,.int .i64 0,.int .i64 0,.slice none 0 0,.slice none 0 0,.slice none 0 0,.slice none 0 0,.slice none 0 0] 206)) (.cells #[.pointer (some ⟨wr.heap.size,0,none⟩),.pointer (some ⟨wr.heap.size+1,0,none⟩)] 204)
        rw[World.size_alloc,World.size_alloc] at this
        exact World.news_of_block this i u hu
       ·intro v' w' ho hg _
        obtain⟨am,cm,hvm⟩:=osh ho
        subst hvm;have hbW:Below wr.heap.size wr w':=((((Moved.refl wr (fun _=>False)).alloc _).alloc _).alloc _ |>.grown hg (fun z _ e=>by simp[Value.ownBlock] at e)).to_below (fun _ e=>e.elim) (Nat.le_refl _)
        have HMs:Hid (w'.heap[wr.heap.size]?=some (.cells (masCells true 0) 206)∧w'.heap[wr.heap.size+1]?=some (.cells (masCells true 0) 206)):=hideA (by
         have key:∀ (A R:Obj) (U:World),(((wr.alloc A).alloc A).alloc R).grownBy U none→U.heap[wr.heap.size]?=some A∧U.heap[wr.heap.size+1]?=some A:=fun A R U hU=>by
          have b1:(wr.alloc A).heap[wr.heap.size]?=some A:=hnw _ _
          have b2:((wr.alloc A).alloc A).heap[wr.heap.size]?=some A:=(((Below.refl _ (wr.alloc A)).alloc (Nat.le_refl _) A).block _ (by simp)).trans b1
          have b3:((wr.alloc A).alloc A).heap[wr.heap.size+1]?=some A:=by
           have:=hnw (wr.alloc A) A
           rw[World.size_alloc] at this
           exact this
          have hb:=(Below.refl _ ((wr.alloc A).alloc A)).alloc (Nat.le_refl _) R
          exact⟨(hU.block _ (by simp;omega) (by simp)).trans ((hb.block _ (by simp;omega)).trans b2),(hU.block _ (by simp) (by simp)).trans ((hb.block _ (by simp)).trans b3)⟩
         exact key _ _ w' hg)
        have hNW:=HN.out.below hbW
        have e2:w'.cell? ⟨y,2,none⟩=some (.slice none 0 0):=coh hNW.blk 2
        have f2:=foh hNW.blk 2
        have hbl:(w'.setCell ⟨y,2,none⟩ (.slice am 2 cm)).heap[y]?=some (.cells #[.slice ar j cr,.slice aa 3 ca,.slice am 2 cm,.slice none 0 0,.slice none 0 0] 120):=heap_setCell_same _ _ _ _ _ _ hNW.blk
        have hfin:RefAt (w'.setCell ⟨y,2,none⟩ (.slice am 2 cm)) (Fr w (w'.setCell ⟨y,2,none⟩ (.slice am 2 cm))) y (Clu.first j):=by
         have hMv:Moved w' (w'.setCell ⟨y,2,none⟩ (.slice am 2 cm)) (fun z=>z=y):=(Moved.refl w' (fun z=>z=y)).setCell ⟨y,2,none⟩ rfl _
         have hkeep:∀ {base size n:Nat} {e:TypeId} {v:Value} {xs:List Value},w'.ownsRow base e size v n xs→e≠120→(w'.setCell ⟨y,2,none⟩ (.slice am 2 cm)).ownsRow base e size v n xs:=fun ho h1=>hMv.owns ho fun z hz e=>bty hNW.blk ho h1 (e ▸ hz)
         have hblk2:∀ {b:Nat} {cs:Array Value} {t:TypeId},w'.heap[b]?=some (.cells cs t)→t≠120→(w'.setCell ⟨y,2,none⟩ (.slice am 2 cm)).heap[b]?=some (.cells cs t):=fun {b cs t} e h1=>by
          refine (hMv.block b (Array.getElem?_eq_some_iff.1 e).1 fun q => ?_).trans e
          rw[q,hNW.blk] at e
          injection e with e
          injection e with e1 e2
          exact h1 e2.symm
         have own:∀ {base size n:Nat} {e:TypeId} {v:Value} {xs:List Value},w'.ownsRow base e size v n xs→(∀ z,v.ownBlock=some z→w.heap.size≤z)→∀ z,v.ownBlock=some z→Fr w (w'.setCell ⟨y,2,none⟩ (.slice am 2 cm)) z:=fun ho h1 z hz=>⟨h1 z hz,by
          have:=(Array.getElem?_eq_some_iff.1 (obc ho hz).choose_spec.1).1
          exact Nat.lt_of_lt_of_le this hMv.size⟩
         have hrl:(Clu.first j).reps.length=j:=by simp[Clu.first]
         have hm0:w'.heap[wr.heap.size]?=some (.cells (masCells true 0) 206):=HMs.out.1
         have hm1:w'.heap[wr.heap.size+1]?=some (.cells (masCells true 0) 206):=HMs.out.2
         have hwr:w.heap.size≤wr.heap.size:=HN.out.be.size
         have hwr2:wr.heap.size+1<w'.heap.size:=(Array.getElem?_eq_some_iff.1 hm1).1
         have hmo:w'.ownsRow 0 204 1 (.slice am 2 cm) 2 (ptrs (fun i=>wr.heap.size+i) 0 2):=obs ho (Nat.zero_le _)
         refine⟨br,ba,fun i=>wr.heap.size+i,.slice ar j cr,.slice aa 3 ca,.slice am 2 cm,.slice none 0 0,.slice none 0 0,fun _=>.slice none 0 0,fun _=>.slice none 0 0,⟨hbl, ?_,hkeep hNW.ra (by decide),hkeep hmo (by decide),fun i hi => ?_,fun i hi => ?_,fun i hi => ?_,World.ownsRow_nil _ _ _ _,World.ownsRow_nil _ _ _ _, ?_,fun z hz=>hz.2,⟨by simp[Clu.first],by simp[Clu.first]⟩, ?_,hNW.ija,fun i j _ _ e=>by omega,fun _ _ k _ _ e=>absurd e no_row,fun _ _ k _ _ e=>absurd e no_row⟩⟩
         ·rw[hrl]
          exact hkeep hNW.rr (by decide)
         ·rw[hrl] at hi
          rw[first_rep (by omega) (by omega)]
          exact (hNW.reps i hi).later hMv.size (fun ho e=>hkeep ho (by rcases e with e|e<;>(rw[e];decide))) (fun _ e=>hblk2 e (by decide))
         ·rw[first_acc (by unfold isAcc;omega)]
          exact (hNW.accs i hi).later hMv.size (fun ho e=>hkeep ho (by rcases e with e|e<;>(rw[e];decide))) (fun _ e=>hblk2 e (by decide))
         ·rw[first_mas (by unfold isMas;omega)]
          refine RMasAt.still (hblk2 (?_:w'.heap[wr.heap.size+i]?=some (.cells (masCells true 0) 206)) (by decide)) ⟨by omega,by have:=hMv.size;omega⟩
          have:i=0∨i=1:=by omega
          rcases this with rfl|rfl
          ·exact hm0
          ·exact hm1
         ·intro z hz
          rcases hz with e|e|e|e|e|e
          ·rw[e]
           exact⟨hNW.new.1,Nat.lt_of_lt_of_le (Array.getElem?_eq_some_iff.1 hNW.blk).1 hMv.size⟩
          ·exact own hNW.rr hNW.new.2.1 z e
          ·exact own hNW.ra hNW.new.2.2.1 z e
          ·exact absurd e no_row
          ·exact absurd e no_row
          ·exact own hmo (fun z e=>by have:=(ho.lt z e).1;omega) z e
         ·intro i j hi hj e
          rw[hrl] at hi hj
          exact hNW.ijr i j hi hj e
        have hbe:Below w.heap.size w (w'.setCell ⟨y,2,none⟩ (.slice am 2 cm)):=hNW.be.trans (((Moved.refl w' (fun z=>z=y)).setCell ⟨y,2,none⟩ rfl _).to_below (fun z e=>by rw[e];exact hNW.new.1) hNW.be.size)
        have HF:=hideA (And.intro hfin hbe)
        clear hfin hbe hbl hNW hbW ho hg;go_wp2_with fail;go_ret2
        exact⟨y,_,rfl,HF.out.1,fun z hz=>hz.1,HF.out.2⟩
theorem run_first (n:Nat):runOf 0 n=firstInts n:=by
 unfold runOf firstInts
 refine List.map_congr_left fun i _ => ?_
 simp
theorem run_len (a:Int)(n:Nat):(runOf a n).length=n:=by unfold runOf;simp
theorem newRep_nod (n k:Nat)(v:Value)(w:World)(hk:k<n)(hv:IntOwn w v (firstInts n))(hn:n≤5) :
  Calls Tryz.prog 107 #[.int .i64 (numOf n k),v] w fun e w'=>∃ b F,e=.returned (.pointer (some ⟨b,0,none⟩))∧NodAt w' F b (numOf n k) (firstNod n k)∧(∀ z,F z→w.heap.size≤z)∧Below w.heap.size w w':=by
 refine (repNew_any (numOf n k) (firstInts n) v w hv (by simp[firstInts];omega)).mono ?_
 rintro e w' ⟨b,vm,rfl,h1,h2,h3,h4⟩;refine⟨b,fun z=>RepS b vm (.slice none 0 0) z,rfl, ?_, ?_,h4⟩
 ·unfold firstNod
  rw[if_pos hk];refine⟨⟨vm,_,h1,fun _ e=>e, ?_⟩,fun e=>by simp[Rep.first] at e⟩
  rintro z (e|e|e)
  ·rw[e];exact (Array.getElem?_eq_some_iff.1 h1.blk).1
  ·exact (Array.getElem?_eq_some_iff.1 (obc h1.hm e).choose_spec.1).1
  ·exact absurd e no_row
 ·rintro z (e|e|e)
  ·omega
  ·exact h3 z e
  ·exact absurd e no_row
theorem newAcc_nod (n k:Nat)(v:Value)(w:World)(hk:¬ k<n)(hk2:k<n+3)(hv:IntOwn w v (firstInts n))(hn:n≤5) :
  Calls Tryz.prog 109 #[.int .i64 (numOf n k),v] w fun e w'=>∃ b F,e=.returned (.pointer (some ⟨b,0,none⟩))∧NodAt w' F b (numOf n k) (firstNod n k)∧(∀ z,F z→w.heap.size≤z)∧Below w.heap.size w w':=by
 refine (accNew_any (numOf n k) (firstInts n) v w hv (by simp[firstInts];omega)).mono ?_
 rintro e w' ⟨b,F,rfl,h1,h2,h3⟩;refine⟨b,F,rfl, ?_,h2,h3⟩
 unfold firstNod
 rw[if_neg hk,if_pos hk2];exact h1
theorem newMas_nod (n k:Nat)(w:World)(hk:¬ k<n+3) :
  Calls Tryz.prog 110 #[.int .i64 (numOf n k)] w fun e w'=>∃ b F,e=.returned (.pointer (some ⟨b,0,none⟩))∧NodAt w' F b (numOf n k) (firstNod n k)∧(∀ z,F z→w.heap.size≤z)∧Below w.heap.size w w':=by
 refine (masNew_any (numOf n k) w).mono ?_
 rintro e w' ⟨b,F,rfl,h1,h2,h3⟩;refine⟨b,F,rfl, ?_,h2,h3⟩
 unfold firstNod
 rw[if_neg (by omega),if_neg hk]
 refine⟨⟨_,⟨rfl,rfl,fun e=>absurd rfl e,rfl,rfl,fun e=>by simp[Mas.still] at e,fun e=>by simp[Mas.still] at e,fun e=>by simp[Mas.still] at e,fun e=>by simp[Mas.still] at e,fun e=>by simp[Mas.still] at e,by simp,by simp,by simp⟩,h1⟩,fun e=>by simp[Mas.still] at e⟩
theorem Built.keepInts {w0 w w1 w3:World}{x n k:Nat}{b:Nat→Nat}{Fn:Nat→Nat→Prop}{vs vr va vm v:Value}{l:List Int}(h:Built w0 w x n k b Fn vs vr va vm)(h1:Below w.heap.size w w1)(hM:Moved w1 w3 (OwnB x vs vr va vm))(hv:IntOwn w v l):IntOwn w3 v l:=by
 refine hM.owns (okp hv fun z _ hz=>h1.block z hz) fun z hz hO => ?_
 rcases hO with e|e|e|e|e
 ·exact bty h.blk hv (by decide) (e ▸ hz)
 ·exact otw hv h.rs (by decide) z hz e
 ·exact otw hv h.rr (by decide) z hz e
 ·exact otw hv h.ra (by decide) z hz e
 ·exact otw hv h.rm (by decide) z hz e
theorem ptr_app {t e:TypeId}(hinfo:(Tryz.prog.info? e).map (fun i=>(i.zero,i.size,i.bytes))=some (some (.pointer none),1,8))(hu:Tryz.prog.underlying t=some (.slice e))(he:e≠93)(W:World)(x m:Nat)(v:Value)(xs:List Value)(p:Option Addr)(cs:Array Value)
  (hrow:W.ownsRow 0 e 1 v m xs) (hblk:W.heap[x]?=some (.cells cs 93)) (hm:m≤100) :
  ∃ g' cap W2,(∀ ty,(Builtin.append_ #[t,t] ty #[v,.slice (some ⟨W.heap.size,0,none⟩) 1 1]).run Tryz.prog (W.alloc (.cells #[.pointer p] e))=.ok (.slice (some ⟨g',0,none⟩) (m+1) cap) W2)∧W2.heap[x]?=some (.cells cs 93)∧W2.ownsRow 0 e 1 (.slice (some ⟨g',0,none⟩) (m+1) cap) (m+1) (xs++[.pointer p])∧Moved W W2 (fun z=>v.ownBlock=some z)∧Grows W v (.slice (some ⟨g',0,none⟩) (m+1) cap):=by
 have hbX:Below W.heap.size W (W.alloc (.cells #[.pointer p] e)):=(Below.refl _ W).alloc (Nat.le_refl _) _
 have hxl:x<W.heap.size:=(Array.getElem?_eq_some_iff.1 hblk).1
 obtain⟨g',cap',W1,hrun,ho1,hg1,hwh⟩:=append_row (t:=t) hinfo hu rfl (by decide) (W.alloc (.cells #[.pointer p] e)) 0 v m xs [.pointer p] W.heap.size (okp hrow fun k _ hk=>hbX.block k hk) (hnw _ _) rfl (by intro u hu;rw[List.mem_singleton] at hu;subst hu;rfl) (by omega) (by decide) (Nat.zero_le _)
 have nb:v.ownBlock≠some x:=bty hblk hrow he
 refine⟨g',cap',W1,hrun,(hg1.block x (by simp;omega) (fun e=>nb e.symm)).trans ((hbX.block x hxl).trans hblk),ho1,((Moved.refl W _).below hbX).grown hg1 (fun k _ e=>e), ?_⟩
 intro z hz;have:g'=z:=by simpa [Value.ownBlock] using hz
 subst this;rcases hwh with h5|h5
 ·exact .inl h5
 ·exact .inr (by rw[h5];simp)
theorem Built.stepR {w0 w w1 W2 w3:World}{x n k:Nat}{b:Nat→Nat}{Fn:Nat→Nat→Prop}{vs vr va vm vs' v':Value}(h:Built w0 w x n k b Fn vs vr va vm)(b':Nat)(F':Nat→Prop)(hk:k<n)
  (h1:Below w.heap.size w w1) (hN:NodAt w1 F' b' (numOf n k) (firstNod n k)) (hF:∀ z,F' z→w.heap.size≤z)
  (hrow2:W2.ownsRow 0 129 1 v' (min k n+1) (ptrs b 0 (min k n)++[.pointer (some ⟨b',0,none⟩)])) (hM2:Moved w1 W2 (fun z=>vr.ownBlock=some z)) (hG2:Grows w1 vr v') (hx2:W2.heap[x]?=some (.cells #[vs,vr,va,vm,.slice none 0 0,.slice none 0 0] 93))
  (hblk:w3.heap[x]?=some (.cells #[vs',v',va,vm,.slice none 0 0,.slice none 0 0] 93)) (hrs:w3.ownsRow 0 183 3 vs' (k+1) ((List.range k).flatMap (staOf n b)++[.int .i64 (numOf n k),.int .i64 0,.iface (nodTy (firstNod n k)) (.pointer (some ⟨b',0,none⟩))]))
  (hM3:Moved (W2.setCell ⟨x,1,none⟩ v') w3 (fun z=>z=x∨vs.ownBlock=some z)) (hG3:Grows (W2.setCell ⟨x,1,none⟩ v') vs vs') :
  Built w0 w3 x n (k+1) (putB b k b') (putF Fn k F') vs' v' va vm∧Moved w1 w3 (OwnB x vs vr va vm):=by
 have hs2:=hM2.size
 have hsc:(W2.setCell ⟨x,1,none⟩ v').heap.size=W2.heap.size:=by simp
 have hs3:=hM3.size
 have hrsW:(W2.setCell ⟨x,1,none⟩ v').ownsRow 0 183 3 vs k ((List.range k).flatMap (staOf n b)):=ownsRow_setCell_other (hM2.owns (okp h.rs fun z _ hz=>h1.block z hz) (fun z e e2=>otw h.rs h.rr (by decide) z e e2)) (bty h.blk h.rs (by decide)) _
 have hrowS:∀ {base size m:Nat} {e:TypeId} {v:Value} {xs:List Value},W2.ownsRow base e size v m xs→e≠183→e≠93→w3.ownsRow base e size v m xs:=by
  intro base size m e v xs hv e1 e2;have hv2:(W2.setCell ⟨x,1,none⟩ v').ownsRow base e size v m xs:=ownsRow_setCell_other hv (bty hx2 hv e2) _
  refine hM3.owns hv2 fun z hz hS => ?_
  rcases hS with e3|e3
  ·exact bty hx2 hv e2 (e3 ▸ hz)
  ·exact otw hv2 hrsW e1 z hz e3
 have hrow3:∀ {base size m:Nat} {e:TypeId} {v:Value} {xs:List Value},w.ownsRow base e size v m xs→e≠183→e≠93→e≠129→w3.ownsRow base e size v m xs:=by
  intro base size m e v xs hv e1 e2 e3;exact hrowS (hM2.owns (okp hv fun z _ hz=>h1.block z hz) (fun z e4 e5=>otw hv h.rr e3 z e4 e5)) e1 e2
 have hMM:Moved w1 w3 (OwnB x vs vr va vm):=by
  refine ((hM2.wider (fun z (e:vr.ownBlock=some z)=>.inr (.inr (.inl e)))).setCell ⟨x,1,none⟩ (.inl rfl) v').trans hM3 (fun z _ hS => ?_)
  rcases hS with e|e
  ·exact .inl e
  ·exact .inr (.inl e)
 refine⟨h.step b' F' h1 hN hF hMM ?_ hblk hrs (by
   have e1:min (k+1) n=min k n+1:=by omega
   have e2:0+(min k n)=k:=by omega
   rw[e1,ptrs_snoc,ptrs_same (putB b k b') b 0 (min k n) (fun i hi=>by unfold putB;rw[if_neg (by omega)])]
   have e3:putB b k b' (0+(min k n))=b':=by unfold putB;rw[if_pos e2]
   rw[e3];exact hrowS hrow2 (by decide) (by decide)) (by
   have e1:min (k+1-n) 3=min (k-n) 3:=by omega
   rw[e1,ptrs_same (putB b k b') b n (min (k-n) 3) (fun i hi=>by unfold putB;rw[if_neg (by omega)])]
   exact hrow3 h.ra (by decide) (by decide) (by decide)) (by
   have e1:k+1-n-3=k-n-3:=by omega
   rw[e1,ptrs_same (putB b k b') b (n+3) (k-n-3) (fun i hi=>by unfold putB;rw[if_neg (by omega)])]
   exact hrow3 h.rm (by decide) (by decide) (by decide)),hMM⟩
 ·intro z hz
  have kv:v'.ownBlock=some z→OwnB x vs vr va vm z∨w1.heap.size≤z:=fun e=>(hG2 z e).imp (fun e=>.inr (.inr (.inl e))) id
  have ks:vs'.ownBlock=some z→OwnB x vs vr va vm z∨w1.heap.size≤z:=fun e=>(hG3 z e).imp (fun e=>.inr (.inl e)) (fun e=>by omega)
  rcases hz with e|e|e|e|e
  ·exact .inl (.inl e)
  ·exact ks e
  ·exact kv e
  ·exact .inl (.inr (.inr (.inr (.inl e))))
  ·exact .inl (.inr (.inr (.inr (.inr e))))
theorem Built.stepA {w0 w w1 W2 w3:World}{x n k:Nat}{b:Nat→Nat}{Fn:Nat→Nat→Prop}{vs vr va vm vs' v':Value}(h:Built w0 w x n k b Fn vs vr va vm)(b':Nat)(F':Nat→Prop)(hk:¬ k<n)(hk2:k<n+3)
  (h1:Below w.heap.size w w1) (hN:NodAt w1 F' b' (numOf n k) (firstNod n k)) (hF:∀ z,F' z→w.heap.size≤z)
  (hrow2:W2.ownsRow 0 99 1 v' (min (k-n) 3+1) (ptrs b n (min (k-n) 3)++[.pointer (some ⟨b',0,none⟩)])) (hM2:Moved w1 W2 (fun z=>va.ownBlock=some z)) (hG2:Grows w1 va v') (hx2:W2.heap[x]?=some (.cells #[vs,vr,va,vm,.slice none 0 0,.slice none 0 0] 93))
  (hblk:w3.heap[x]?=some (.cells #[vs',vr,v',vm,.slice none 0 0,.slice none 0 0] 93)) (hrs:w3.ownsRow 0 183 3 vs' (k+1) ((List.range k).flatMap (staOf n b)++[.int .i64 (numOf n k),.int .i64 0,.iface (nodTy (firstNod n k)) (.pointer (some ⟨b',0,none⟩))]))
  (hM3:Moved (W2.setCell ⟨x,2,none⟩ v') w3 (fun z=>z=x∨vs.ownBlock=some z)) (hG3:Grows (W2.setCell ⟨x,2,none⟩ v') vs vs') :
  Built w0 w3 x n (k+1) (putB b k b') (putF Fn k F') vs' vr v' vm∧Moved w1 w3 (OwnB x vs vr va vm):=by
 have hs2:=hM2.size
 have hsc:(W2.setCell ⟨x,2,none⟩ v').heap.size=W2.heap.size:=by simp
 have hs3:=hM3.size
 have hrsW:(W2.setCell ⟨x,2,none⟩ v').ownsRow 0 183 3 vs k ((List.range k).flatMap (staOf n b)):=ownsRow_setCell_other (hM2.owns (okp h.rs fun z _ hz=>h1.block z hz) (fun z e e2=>otw h.rs h.ra (by decide) z e e2)) (bty h.blk h.rs (by decide)) _
 have hrowS:∀ {base size m:Nat} {e:TypeId} {v:Value} {xs:List Value},W2.ownsRow base e size v m xs→e≠183→e≠93→w3.ownsRow base e size v m xs:=by
  intro base size m e v xs hv e1 e2;have hv2:(W2.setCell ⟨x,2,none⟩ v').ownsRow base e size v m xs:=ownsRow_setCell_other hv (bty hx2 hv e2) _
  refine hM3.owns hv2 fun z hz hS => ?_
  rcases hS with e3|e3
  ·exact bty hx2 hv e2 (e3 ▸ hz)
  ·exact otw hv2 hrsW e1 z hz e3
 have hrow3:∀ {base size m:Nat} {e:TypeId} {v:Value} {xs:List Value},w.ownsRow base e size v m xs→e≠183→e≠93→e≠99→w3.ownsRow base e size v m xs:=by
  intro base size m e v xs hv e1 e2 e3;exact hrowS (hM2.owns (okp hv fun z _ hz=>h1.block z hz) (fun z e4 e5=>otw hv h.ra e3 z e4 e5)) e1 e2
 have hMM:Moved w1 w3 (OwnB x vs vr va vm):=by
  refine ((hM2.wider (fun z (e:va.ownBlock=some z)=>.inr (.inr (.inr (.inl e))))).setCell ⟨x,2,none⟩ (.inl rfl) v').trans hM3 (fun z _ hS => ?_)
  rcases hS with e|e
  ·exact .inl e
  ·exact .inr (.inl e)
 refine⟨h.step b' F' h1 hN hF hMM ?_ hblk hrs (by
   have e1:min (k+1) n=min k n:=by omega
   rw[e1,ptrs_same (putB b k b') b 0 (min k n) (fun i hi=>by unfold putB;rw[if_neg (by omega)])]
   exact hrow3 h.rr (by decide) (by decide) (by decide)) (by
   have e1:min (k+1-n) 3=min (k-n) 3+1:=by omega
   have e2:n+(min (k-n) 3)=k:=by omega
   rw[e1,ptrs_snoc,ptrs_same (putB b k b') b n (min (k-n) 3) (fun i hi=>by unfold putB;rw[if_neg (by omega)])]
   have e3:putB b k b' (n+(min (k-n) 3))=b':=by unfold putB;rw[if_pos e2]
   rw[e3];exact hrowS hrow2 (by decide) (by decide)) (by
   have e1:k+1-n-3=k-n-3:=by omega
   rw[e1,ptrs_same (putB b k b') b (n+3) (k-n-3) (fun i hi=>by unfold putB;rw[if_neg (by omega)])]
   exact hrow3 h.rm (by decide) (by decide) (by decide)),hMM⟩
 ·intro z hz
  have kv:v'.ownBlock=some z→OwnB x vs vr va vm z∨w1.heap.size≤z:=fun e=>(hG2 z e).imp (fun e=>.inr (.inr (.inr (.inl e)))) id
  have ks:vs'.ownBlock=some z→OwnB x vs vr va vm z∨w1.heap.size≤z:=fun e=>(hG3 z e).imp (fun e=>.inr (.inl e)) (fun e=>by omega)
  rcases hz with e|e|e|e|e
  ·exact .inl (.inl e)
  ·exact ks e
  ·exact .inl (.inr (.inr (.inl e)))
  ·exact kv e
  ·exact .inl (.inr (.inr (.inr (.inr e))))
theorem Built.stepM {w0 w w1 W2 w3:World}{x n k:Nat}{b:Nat→Nat}{Fn:Nat→Nat→Prop}{vs vr va vm vs' v':Value}(h:Built w0 w x n k b Fn vs vr va vm)(b':Nat)(F':Nat→Prop)(hk:¬ k<n+3)
  (h1:Below w.heap.size w w1) (hN:NodAt w1 F' b' (numOf n k) (firstNod n k)) (hF:∀ z,F' z→w.heap.size≤z)
  (hrow2:W2.ownsRow 0 81 1 v' (k-n-3+1) (ptrs b (n+3) (k-n-3)++[.pointer (some ⟨b',0,none⟩)])) (hM2:Moved w1 W2 (fun z=>vm.ownBlock=some z)) (hG2:Grows w1 vm v') (hx2:W2.heap[x]?=some (.cells #[vs,vr,va,vm,.slice none 0 0,.slice none 0 0] 93))
  (hblk:w3.heap[x]?=some (.cells #[vs',vr,va,v',.slice none 0 0,.slice none 0 0] 93)) (hrs:w3.ownsRow 0 183 3 vs' (k+1) ((List.range k).flatMap (staOf n b)++[.int .i64 (numOf n k),.int .i64 0,.iface (nodTy (firstNod n k)) (.pointer (some ⟨b',0,none⟩))]))
  (hM3:Moved (W2.setCell ⟨x,3,none⟩ v') w3 (fun z=>z=x∨vs.ownBlock=some z)) (hG3:Grows (W2.setCell ⟨x,3,none⟩ v') vs vs') :
  Built w0 w3 x n (k+1) (putB b k b') (putF Fn k F') vs' vr va v'∧Moved w1 w3 (OwnB x vs vr va vm):=by
 have hs2:=hM2.size
 have hsc:(W2.setCell ⟨x,3,none⟩ v').heap.size=W2.heap.size:=by simp
 have hs3:=hM3.size
 have hrsW:(W2.setCell ⟨x,3,none⟩ v').ownsRow 0 183 3 vs k ((List.range k).flatMap (staOf n b)):=ownsRow_setCell_other (hM2.owns (okp h.rs fun z _ hz=>h1.block z hz) (fun z e e2=>otw h.rs h.rm (by decide) z e e2)) (bty h.blk h.rs (by decide)) _
 have hrowS:∀ {base size m:Nat} {e:TypeId} {v:Value} {xs:List Value},W2.ownsRow base e size v m xs→e≠183→e≠93→w3.ownsRow base e size v m xs:=by
  intro base size m e v xs hv e1 e2;have hv2:(W2.setCell ⟨x,3,none⟩ v').ownsRow base e size v m xs:=ownsRow_setCell_other hv (bty hx2 hv e2) _
  refine hM3.owns hv2 fun z hz hS => ?_
  rcases hS with e3|e3
  ·exact bty hx2 hv e2 (e3 ▸ hz)
  ·exact otw hv2 hrsW e1 z hz e3
 have hrow3:∀ {base size m:Nat} {e:TypeId} {v:Value} {xs:List Value},w.ownsRow base e size v m xs→e≠183→e≠93→e≠81→w3.ownsRow base e size v m xs:=by
  intro base size m e v xs hv e1 e2 e3;exact hrowS (hM2.owns (okp hv fun z _ hz=>h1.block z hz) (fun z e4 e5=>otw hv h.rm e3 z e4 e5)) e1 e2
 have hMM:Moved w1 w3 (OwnB x vs vr va vm):=by
  refine ((hM2.wider (fun z (e:vm.ownBlock=some z)=>.inr (.inr (.inr (.inr e))))).setCell ⟨x,3,none⟩ (.inl rfl) v').trans hM3 (fun z _ hS => ?_)
  rcases hS with e|e
  ·exact .inl e
  ·exact .inr (.inl e)
 refine⟨h.step b' F' h1 hN hF hMM ?_ hblk hrs (by
   have e1:min (k+1) n=min k n:=by omega
   rw[e1,ptrs_same (putB b k b') b 0 (min k n) (fun i hi=>by unfold putB;rw[if_neg (by omega)])]
   exact hrow3 h.rr (by decide) (by decide) (by decide)) (by
   have e1:min (k+1-n) 3=min (k-n) 3:=by omega
   rw[e1,ptrs_same (putB b k b') b n (min (k-n) 3) (fun i hi=>by unfold putB;rw[if_neg (by omega)])]
   exact hrow3 h.ra (by decide) (by decide) (by decide)) (by
   have e1:k+1-n-3=k-n-3+1:=by omega
   have e2:(n+3)+(k-n-3)=k:=by omega
   rw[e1,ptrs_snoc,ptrs_same (putB b k b') b (n+3) (k-n-3) (fun i hi=>by unfold putB;rw[if_neg (by omega)])]
   have e3:putB b k b' ((n+3)+(k-n-3))=b':=by unfold putB;rw[if_pos e2]
   rw[e3];exact hrowS hrow2 (by decide) (by decide)),hMM⟩
 ·intro z hz
  have kv:v'.ownBlock=some z→OwnB x vs vr va vm z∨w1.heap.size≤z:=fun e=>(hG2 z e).imp (fun e=>.inr (.inr (.inr (.inr e)))) id
  have ks:vs'.ownBlock=some z→OwnB x vs vr va vm z∨w1.heap.size≤z:=fun e=>(hG3 z e).imp (fun e=>.inr (.inl e)) (fun e=>by omega)
  rcases hz with e|e|e|e|e
  ·exact .inl (.inl e)
  ·exact ks e
  ·exact .inl (.inr (.inr (.inl e)))
  ·exact .inl (.inr (.inr (.inr (.inl e))))
  ·exact kv e
end Go.Proofs.YtgieeeeeiggoeaaGreat
