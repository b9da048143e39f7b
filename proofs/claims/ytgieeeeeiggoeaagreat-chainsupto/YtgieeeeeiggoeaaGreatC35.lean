import Derived.Test.YtgieeeeeiggoeaaGreatC33
import Derived.Test.YtgieeeeeiggoeaaGreatC28
import Derived.Test.YtgieeeeeiggoeaaGreatC10
set_option maxRecDepth 100000
set_option maxHeartbeats 2000000
namespace Go.Proofs.YtgieeeeeiggoeaaGreat
open Go.RowKit
def BkdL (w w':World)(B base bv N n:Nat)(x0 x5 v vB c0 c2 c3:Value)(xs:List Value)(mk:Int):Prop :=
 ∃ v1 v2 v3 vB',w'.heap[B]?=some (.cells #[x0,c0,vB',c2,c3,x5] 67)∧w'.ownsRow base 44 1 vB' (N+4) (xs++[v,v1,v2,v3]) ∧
  w'.ownsRow bv 42 5 v n (ints (entsNums (List.replicate n (markE mk))))∧w'.ownsRow bv 42 5 v1 (n+1) (ints (entsNums (List.replicate (n+1) (markE mk)))) ∧
  w'.ownsRow bv 42 5 v2 (n+2) (ints (entsNums (List.replicate (n+2) (markE mk))))∧w'.ownsRow bv 42 5 v3 (n+3) (ints (entsNums (List.replicate (n+3) (markE mk)))) ∧
  Moved w w' (fun k=>k=B∨v.ownBlock=some k∨vB.ownBlock=some k)∧∀ k,vB'.ownBlock=some k→vB.ownBlock=some k∨w.heap.size≤k
theorem bkLog_any (B base bv N:Nat)(x0 x5 v vB c0 c2 c3:Value)(xs:List Value)(l:List Ent)(w:World)(hB:w.heap[B]?=some (.cells #[x0,c0,vB,c2,c3,x5] 67))(hBb:B<base)(hBv:B<bv)(hbs:base≤w.heap.size)(hbv:bv≤w.heap.size)
  (hv:w.ownsRow bv 42 5 v l.length (ints (entsNums l))) (hbk:w.ownsRow base 44 1 vB N xs) (hN:N≤1000000000) (hl:l.length≤1000000000) :
  Calls Tryz.prog 101 #[.pointer (some ⟨B,1,none⟩),v] w fun e w'=>e=.returned (.tuple #[])∧BkdL w w' B base bv N l.length x0 x5 v vB c0 c2 c3 xs (-1000-(N:Int) / 4):=by
 obtain⟨aB,cB,rfl⟩:=osh hbk
 obtain⟨av,cv,rfl⟩:=osh hv
 have q0:w.cell? ⟨B,2,none⟩=some (.slice aB N cB):=Joins.cell_of_block hB 2
 have HB:=hideA hB;clear hB;go_enter Tryz.func101,Tryz.ntmps101
 go_wp2_with fail;refine (markEntry_any _ _ (by omega) (by omega)).mono ?_
 rintro e W0 ⟨rfl,hbW⟩;generalize hmk:(-1000-(N:Int) / 4)=mk
 have HMK:=hideA hmk;clear hmk q0;go_wp2_with fail;obtain⟨W,hW,hb0,hsz,qm,fm⟩:=boxed W0 #[.int .i64 mk,.int .i64 0,.int .i64 0,.int .i64 0,.int .i64 0] 42
 rw[hW];clear hW;have M0:Moved w W (fun _=>False):=⟨hb0.os.trans hbW.os,hb0.tape.trans hbW.tape,hb0.output.trans hbW.output,by have:=hbW.size;have:=hb0.size;omega,fun k hk _=>(hb0.block k (by have:=hbW.size;omega)).trans (hbW.block k hk)⟩
 have hvW:=M0.owns hv (fun _ _ h=>h)
 have hbkW:=M0.owns hbk (fun _ _ h=>h)
 have hBW:W.heap[B]?=_:=(M0.block B (by omega) (fun h=>h)).trans HB.out
 have HBW:=hideA hBW;clear hBW;have hbsW:base≤W.heap.size:=Nat.le_trans hbs M0.size
 have hbvW:bv≤W.heap.size:=Nat.le_trans hbv M0.size
 have hMW:W0.heap.size<W.heap.size:=by omega
 have hMv:∀ k,(Value.slice av l.length cv).ownBlock=some k→k<W0.heap.size:=fun k hk=>by have:=(hv.lt k hk).2;have:=hbW.size;omega
 have hM0:base≤W0.heap.size:=Nat.le_trans hbs hbW.size
 have hMv0:bv≤W0.heap.size:=Nat.le_trans hbv hbW.size
 go_loopw [5] (fun i wr=>∃ (n:Nat),n≤l.length∧i=.int .i64 (n:Int)∧wr.ownsRow bv 42 5 (.slice av l.length cv) l.length (ints (entsNums (List.replicate n (markE mk)++l.drop n)))∧Moved W wr (fun k=>(Value.slice av l.length cv).ownBlock=some k))
  (fun i _=>l.length-(intOf i).toNat)
 case atStart=>exact⟨0,Nat.zero_le _,rfl,by simpa using hvW,Moved.refl _ _⟩
 case round =>
  obtain⟨n,hn,rfl,hown,hmv⟩:=hrel;have hwm:wr.heap[W0.heap.size]?=W.heap[W0.heap.size]?:=hmv.block _ hMW (fun h=>by have:=hMv _ h;omega)
  have qm':∀ j,wr.cell? ⟨W0.heap.size,j,none⟩=#[.int .i64 mk,.int .i64 0,.int .i64 0,.int .i64 0,.int .i64 0][j]?:=fun j=>(World.cell?_of_block (a:=⟨W0.heap.size,j,none⟩) hwm).trans (qm j)
  have m0:wr.cell? ⟨W0.heap.size,0,none⟩=some (.int .i64 mk):=qm' 0
  have m1:wr.cell? ⟨W0.heap.size,1,none⟩=some (.int .i64 0):=qm' 1
  have m2:wr.cell? ⟨W0.heap.size,2,none⟩=some (.int .i64 0):=qm' 2
  have m3:wr.cell? ⟨W0.heap.size,3,none⟩=some (.int .i64 0):=qm' 3
  have m4:wr.cell? ⟨W0.heap.size,4,none⟩=some (.int .i64 0):=qm' 4
  by_cases hlt:n<l.length
  ·obtain⟨g,cap,hvv,hg1,hg2⟩:=hown.form (by omega)
   cases hvv
   have hlen:(ints (entsNums (List.replicate n (markE mk)++l.drop n))).length=l.length*5:=hown.1
   have cc:∀ j,j<l.length*5→∃ u,wr.cell? ⟨g,j,none⟩=some u:=fun j hj=>by
    rw[hown.cellAt j hj];exact⟨_,List.getElem?_eq_getElem (by rw[hlen];exact hj)⟩
   obtain⟨u0,c0'⟩:=cc (n*5) (by omega)
   obtain⟨u1,c1'⟩:=cc (n*5+1) (by omega)
   obtain⟨u2,c2'⟩:=cc (n*5+2) (by omega)
   obtain⟨u3,c3'⟩:=cc (n*5+3) (by omega)
   obtain⟨u4,c4'⟩:=cc (n*5+4) (by omega)
   have f0:=hown.frozenAt (n*5)
   have f1:=hown.frozenAt (n*5+1)
   have f2:=hown.frozenAt (n*5+2)
   have f3:=hown.frozenAt (n*5+3)
   have f4:=hown.frozenAt (n*5+4)
   have HC:=hideA cc;clear cc qm' hlen;have st0:=hown.stored (n*5) (.int .i64 mk)
   have st1:=st0.1.stored (n*5+1) (.int .i64 0)
   have st2:=st1.1.stored (n*5+2) (.int .i64 0)
   have st3:=st2.1.stored (n*5+3) (.int .i64 0)
   have st4:=st3.1.stored (n*5+4) (.int .i64 0)
   have hfin:=st4.1
   have hd:l.drop n=l[n] :: l.drop (n+1):=List.drop_eq_getElem_cons hlt
   have hw:=ents_write (List.replicate n (markE mk)) l[n] (markE mk) (l.drop (n+1)) n (by simp)
   change (((((ints (entsNums (List.replicate n (markE mk)++l[n] :: l.drop (n+1)))).set (n*5) (.int .i64 mk)).set (n*5+1) (.int .i64 0)).set (n*5+2) (.int .i64 0)).set (n*5+3) (.int .i64 0)).set (n*5+4) (.int .i64 0)=_ at hw
   rw[hd,hw,show List.replicate n (markE mk)++markE mk :: l.drop (n+1)=List.replicate (n+1) (markE mk)++l.drop (n+1) by rw[List.replicate_succ',List.append_assoc];rfl] at hfin
   have hmv':=((((hmv.grown st0.2 (fun k _ h=>h)).grown st1.2 (fun k _ h=>h)).grown st2.2 (fun k _ h=>h)).grown st3.2 (fun k _ h=>h)).grown st4.2 (fun k _ h=>h)
   have HF:=hideA hfin;have HM:=hideA hmv';clear hfin hmv' st0 st1 st2 st3 st4 hd hw;go_wp2_with fail;exact⟨⟨n+1,by omega,by go_num,HF.out,HM.out⟩,by simp[intOf];omega⟩
  ·obtain rfl:n=l.length:=by omega
   rw[List.drop_length,List.append_nil] at hown
   have hbs':bv≤wr.heap.size:=Nat.le_trans hbvW hmv.size
   have hbs'':base≤wr.heap.size:=Nat.le_trans hbsW hmv.size
   have hMr:W0.heap.size<wr.heap.size:=Nat.lt_of_lt_of_le hMW hmv.size
   clear qm';go_wp2_with (at_builtin;refine wpList_keeps_ent rfl _ _ rfl bv _ l.length mk rfl (hown.alloc _) wr.heap.size 1 rfl (by exact hnw _ _) (by omega) (by simp;omega) ?_)
   intro g1 k1 w1 o1 gr1 ov1 li1;have hs1:=(grown_allocK gr1).size
   have hs1':=gr1.size
   rw[World.size_alloc] at hs1'
   have hw1:w1.heap[W0.heap.size]?=wr.heap[W0.heap.size]?:=(grown_allocK gr1).block _ hMr (fun h=>by have:=hMv _ h.symm;omega)
   have x0:=(World.cell?_of_block (a:=⟨W0.heap.size,0,none⟩) hw1).trans m0
   have x1:=(World.cell?_of_block (a:=⟨W0.heap.size,1,none⟩) hw1).trans m1
   have x2:=(World.cell?_of_block (a:=⟨W0.heap.size,2,none⟩) hw1).trans m2
   have x3:=(World.cell?_of_block (a:=⟨W0.heap.size,3,none⟩) hw1).trans m3
   have x4:=(World.cell?_of_block (a:=⟨W0.heap.size,4,none⟩) hw1).trans m4
   have g1M:g1≠W0.heap.size:=by
    rcases li1 with h1|h1
    ·have:=hMv g1 h1;omega
    ·omega
   clear m0 m1 m2 m3 m4;go_wp2_with (at_builtin;refine wpList_keeps_ent rfl _ _ rfl bv _ (l.length+1) mk rfl (o1.alloc _) w1.heap.size 1 rfl (by exact hnw _ _) (by omega) (by simp;omega) ?_)
   intro g2 k2 w2 o2 gr2 o12 li2;have hs2:=gr2.size
   rw[World.size_alloc] at hs2
   have ov2:=owns_beside (ov1.alloc _) (o1.alloc _) gr2 o12 (by omega) (by omega)
   have hw2:w2.heap[W0.heap.size]?=w1.heap[W0.heap.size]?:=(grown_allocK gr2).block _ (by omega) (fun h=>g1M (by simpa [Value.ownBlock] using h.symm))
   have y0:=(World.cell?_of_block (a:=⟨W0.heap.size,0,none⟩) hw2).trans x0
   have y1:=(World.cell?_of_block (a:=⟨W0.heap.size,1,none⟩) hw2).trans x1
   have y2:=(World.cell?_of_block (a:=⟨W0.heap.size,2,none⟩) hw2).trans x2
   have y3:=(World.cell?_of_block (a:=⟨W0.heap.size,3,none⟩) hw2).trans x3
   have y4:=(World.cell?_of_block (a:=⟨W0.heap.size,4,none⟩) hw2).trans x4
   have g12:g2=g1∨wr.heap.size<g2:=by
    rcases li2 with h2|h2
    ·exact .inl (by simpa [Value.ownBlock] using h2.symm)
    ·right;omega
   clear x0 x1 x2 x3 x4;go_wp2_with (at_builtin;refine wpList_keeps_ent rfl _ _ rfl bv _ (l.length+1+1) mk rfl (o2.alloc _) w2.heap.size 1 rfl (by exact hnw _ _) (by omega) (by simp;omega) ?_)
   intro g3 k3 w3 o3 gr3 o23 li3;have hs3:=gr3.size
   rw[World.size_alloc] at hs3
   have ov3:=owns_beside (ov2.alloc _) (o2.alloc _) gr3 o23 (by omega) (by omega)
   have o13:=owns_beside (o12.alloc _) (o2.alloc _) gr3 o23 (by omega) (by omega)
   clear ov1 ov2 o1 o12 o2 y0 y1 y2 y3 y4;have M3:Moved W w3 (fun k=>(Value.slice av l.length cv).ownBlock=some k):=by
    refine (((hmv.alloc _).grown gr1 (fun k _ h=>h)).alloc _).grown gr2 (fun k hk h => ?_) |>.alloc _ |>.grown gr3 (fun k hk h => ?_)
    ·have hg:g1=k:=by simpa [Value.ownBlock] using h
     have:=hmv.size
     rcases li1 with h1|h1
     ·rw[h1,hg]
     ·omega
    ·have hg:g2=k:=by simpa [Value.ownBlock] using h
     have:=hmv.size
     rcases g12 with h2|h2
     ·rcases li1 with h1|h1
      ·rw[h1, ← h2,hg]
      ·omega
     ·omega
   have hbk3:w3.ownsRow base 44 1 (.slice aB N cB) N xs:=M3.owns hbkW (fun k hk h=>otw hbkW hvW (by decide) k hk h)
   have hB3:w3.heap[B]?=some (.cells #[x0,c0,.slice aB N cB,c2,c3,x5] 67):=(M3.block B (by omega) (fun h=>by have:=(hvW.lt B h).1;omega)).trans HBW.out
   have q0:w3.cell? ⟨B,2,none⟩=some (.slice aB N cB):=Joins.cell_of_block hB3 2
   have hB3':=hideA hB3;clear hB3;have hs4:base≤w3.heap.size:=by omega
   go_wp2_with (at_builtin;refine wpList_keeps_row rfl _ _ 61 44 Tryz.underlying61 infoLog rfl base _ N xs rfl (hbk3.alloc _) w3.heap.size 4 4 [.slice av l.length cv,.slice (some ⟨g1,0,none⟩) (l.length+1) k1,.slice (some ⟨g2,0,none⟩) (l.length+1+1) k2,.slice (some ⟨g3,0,none⟩) (l.length+1+1+1) k3] rfl (by omega) (by omega) rfl (by exact hnw _ _) (by simp[Value.oneCell']) (by omega) (by simp;omega) ?_)
   intro g4 k4 w4 o4 gr4 li4;have hB4:w4.heap[B]?=some (.cells #[x0,c0,.slice aB N cB,c2,c3,x5] 67) :=
    ((grown_allocK gr4).block B (by omega) (fun h=>by have:=(hbk3.lt B h.symm).1;omega)).trans hB3'.out
   have q4:w4.cell? ⟨B,2,none⟩=some (.slice aB N cB):=Joins.cell_of_block hB4 2
   have f4:w4.frozen? ⟨B,2,none⟩=false:=Joins.unfrozen_of_block hB4 2
   have hB5:=Joins.block_setCell (i:=2) hB4 (.slice (some ⟨g4,0,none⟩) (N+4) k4)
   have ne1:=fun {v:Value} {n:Nat} {ys:List Value} (h:w3.ownsRow bv 42 5 v n ys)=>fun k hk h'=>otw h hbk3 (by decide) k hk h'
   have M4:Moved w3 w4 (fun k=>(Value.slice aB N cB).ownBlock=some k):=((Moved.refl w3 _).alloc _).grown gr4 (fun k _ h=>h)
   have M5:Moved w (w4.setCell ⟨B,2,none⟩ (.slice (some ⟨g4,0,none⟩) (N+4) k4)) (fun k=>k=B∨(Value.slice av l.length cv).ownBlock=some k∨(Value.slice aB N cB).ownBlock=some k) :=
    ((((Moved.refl w _).trans M0 (fun k _ h=>h.elim)).trans M3 (fun k _ h=>.inr (.inl h))).trans M4 (fun k _ h=>.inr (.inr h))).setCell _ (.inl rfl) _
   have HF:Hid (BkdL w (w4.setCell ⟨B,2,none⟩ (.slice (some ⟨g4,0,none⟩) (N+4) k4)) B base bv N l.length x0 x5 (.slice av l.length cv) (.slice aB N cB) c0 c2 c3 xs mk):=by
    refine hideA ⟨.slice (some ⟨g1,0,none⟩) (l.length+1) k1,.slice (some ⟨g2,0,none⟩) (l.length+1+1) k2,.slice (some ⟨g3,0,none⟩) (l.length+1+1+1) k3,.slice (some ⟨g4,0,none⟩) (N+4) k4,hB5, ?_, ?_, ?_, ?_, ?_,M5,fun k hk=>by
     have hg:g4=k:=by simpa [Value.ownBlock] using hk
     subst hg;rcases li4 with h|h
     ·exact .inl h
     ·right
      have:=M3.size
      (try have:=M0.size)
      rw[h];omega⟩
    ·exact ownsRow_setCell_below o4 hBb _
    ·exact ownsRow_setCell_below (M4.owns ov3 (ne1 ov3)) hBv _
    ·exact ownsRow_setCell_below (M4.owns o13 (ne1 o13)) hBv _
    ·exact ownsRow_setCell_below (M4.owns o23 (ne1 o23)) hBv _
    ·exact ownsRow_setCell_below (M4.owns o3 (ne1 o3)) hBv _
   clear hB4 hB5 ne1 M4 M5 o4 ov3 o13 o23 o3 hbk3;go_wp2_with fail;go_end0
   exact⟨rfl,by rw[HMK.out];exact HF.out⟩
def BkdT (w w':World)(B base bv N n:Nat)(x0 x5 v vB c0 c1 c3:Value)(xs:List Value)(mk:List UInt8):Prop :=
 ∃ v1 v2 v3 vB',w'.heap[B]?=some (.cells #[x0,c0,c1,vB',c3,x5] 67)∧w'.ownsRow base 111 1 vB' (N+4) (xs++[v,v1,v2,v3]) ∧
  w'.ownsRow bv 9 1 v n (strs (List.replicate n mk))∧w'.ownsRow bv 9 1 v1 (n+1) (strs (List.replicate (n+1) mk)) ∧
  w'.ownsRow bv 9 1 v2 (n+2) (strs (List.replicate (n+2) mk))∧w'.ownsRow bv 9 1 v3 (n+3) (strs (List.replicate (n+3) mk)) ∧
  Moved w w' (fun k=>k=B∨v.ownBlock=some k∨vB.ownBlock=some k)∧∀ k,vB'.ownBlock=some k→vB.ownBlock=some k∨w.heap.size≤k
theorem bkTexts_any (B base bv N:Nat)(x0 x5 v vB c0 c1 c3:Value)(xs:List Value)(l:List (List UInt8))(w:World)(hB:w.heap[B]?=some (.cells #[x0,c0,c1,vB,c3,x5] 67))(hBb:B<base)(hBv:B<bv)(hbs:base≤w.heap.size)(hbv:bv≤w.heap.size)
  (hv:w.ownsRow bv 9 1 v l.length (strs l)) (hbk:w.ownsRow base 111 1 vB N xs) (hN:N≤1000000000) (hl:l.length≤1000000000) :
  Calls Tryz.prog 92 #[.pointer (some ⟨B,1,none⟩),v] w fun e w'=>e=.returned (.tuple #[])∧BkdT w w' B base bv N l.length x0 x5 v vB c0 c1 c3 xs (markT (N / 4)):=by
 obtain⟨aB,cB,rfl⟩:=osh hbk
 obtain⟨av,cv,rfl⟩:=osh hv
 have q0:w.cell? ⟨B,3,none⟩=some (.slice aB N cB):=Joins.cell_of_block hB 3
 have HB:=hideA hB;clear hB;go_enter Tryz.func92,Tryz.ntmps92
 go_wp2_with fail;refine (markText_int _ _ (N / 4) (by omega) (by omega)).mono ?_
 rintro e W ⟨rfl,hbW⟩;generalize hmk:markT (N / 4)=mk
 have HMK:=hideA hmk;clear hmk;clear q0;have M0:Moved w W (fun _=>False):=⟨hbW.os,hbW.tape,hbW.output,hbW.size,fun k hk _=>hbW.block k hk⟩
 have hv0:=hv
 replace hv:=M0.owns hv (fun _ _ h=>h)
 replace hbk:=M0.owns hbk (fun _ _ h=>h)
 have hBW:W.heap[B]?=_:=(M0.block B (by omega) (fun h=>h)).trans HB.out
 have HBW:=hideA hBW;clear hBW;replace hbs:base≤W.heap.size:=Nat.le_trans hbs M0.size
 replace hbv:bv≤W.heap.size:=Nat.le_trans hbv M0.size
 go_wp2_with fail;go_loopw [5] (fun i wr=>∃ (n:Nat),n≤l.length∧i=.int .i64 (n:Int)∧wr.ownsRow bv 9 1 (.slice av l.length cv) l.length (strs (List.replicate n mk++l.drop n))∧Moved W wr (fun k=>(Value.slice av l.length cv).ownBlock=some k))
  (fun i _=>l.length-(intOf i).toNat)
 case atStart=>exact⟨0,Nat.zero_le _,rfl,by simpa using hv,Moved.refl _ _⟩
 case round =>
  obtain⟨n,hn,rfl,hown,hmv⟩:=hrel;by_cases hlt:n<l.length
  ·obtain⟨g,cap,hvv,hg1,hg2⟩:=hown.form (by omega)
   cases hvv
   have c1:=hown.cellAt n (by omega)
   have f1:=hown.frozenAt n
   have c1':∃ u,wr.cell? ⟨g,n,none⟩=some u:=by
    rw[c1];exact⟨_,List.getElem?_eq_getElem (by rw[strs_length,txts_length _ _ _ hn];exact hlt)⟩
   obtain⟨u,c1'⟩:=c1';clear c1;have hst:=hown.stored n (.string (bs mk))
   rw[strs_step l n mk hlt] at hst
   have HS:=hideA hst;clear hst;go_wp2_with fail;exact⟨⟨n+1,by omega,by go_num,HS.out.1,hmv.grown HS.out.2 (fun k _ h=>h)⟩,by simp[intOf];omega⟩
  ·obtain rfl:n=l.length:=by omega
   rw[List.drop_length,List.append_nil] at hown
   have hbs':bv≤wr.heap.size:=Nat.le_trans hbv hmv.size
   have hbs'':base≤wr.heap.size:=Nat.le_trans hbs hmv.size
   go_wp2_with (at_builtin;refine wpList_keeps_txt rfl _ _ rfl bv _ l.length mk rfl (hown.alloc _) wr.heap.size 1 rfl (by simp) (by omega) (by simp;omega) ?_)
   intro g1 k1 w1 o1 gr1 ov1 li1;have hs1:=(grown_allocK gr1).size
   have hs1':=gr1.size
   rw[World.size_alloc] at hs1'
   go_wp2_with (at_builtin;refine wpList_keeps_txt rfl _ _ rfl bv _ (l.length+1) mk rfl (o1.alloc _) w1.heap.size 1 rfl (by simp) (by omega) (by simp;omega) ?_)
   intro g2 k2 w2 o2 gr2 o12 li2;have hs2:=gr2.size
   rw[World.size_alloc] at hs2
   have ov2:=owns_beside (ov1.alloc _) (o1.alloc _) gr2 o12 (by omega) (by omega)
   go_wp2_with (at_builtin;refine wpList_keeps_txt rfl _ _ rfl bv _ (l.length+1+1) mk rfl (o2.alloc _) w2.heap.size 1 rfl (by simp) (by omega) (by simp;omega) ?_)
   intro g3 k3 w3 o3 gr3 o23 li3;have hs3:=gr3.size
   rw[World.size_alloc] at hs3
   have ov3:=owns_beside (ov2.alloc _) (o2.alloc _) gr3 o23 (by omega) (by omega)
   have o13:=owns_beside (o12.alloc _) (o2.alloc _) gr3 o23 (by omega) (by omega)
   clear ov1 ov2 o1 o12 o2;have M3:Moved W w3 (fun k=>(Value.slice av l.length cv).ownBlock=some k):=by
    refine (((hmv.alloc _).grown gr1 (fun k _ h=>h)).alloc _).grown gr2 (fun k hk h => ?_) |>.alloc _ |>.grown gr3 (fun k hk h => ?_)
    ·have hg:g1=k:=by simpa [Value.ownBlock] using h
     have:=hmv.size
     rcases li1 with h1|h1
     ·rw[h1,hg]
     ·omega
    ·have hg:g2=k:=by simpa [Value.ownBlock] using h
     have:=hmv.size
     rcases li2 with h2|h2
     ·have hg2:g1=g2:=by simpa [Value.ownBlock] using h2
      rcases li1 with h1|h1
      ·rw[h1,hg2,hg]
      ·omega
     ·omega
   have hbk3:w3.ownsRow base 111 1 (.slice aB N cB) N xs:=M3.owns hbk (fun k hk h=>otw hbk hv (by decide) k hk h)
   have hB3:w3.heap[B]?=some (.cells #[x0,c0,c1,.slice aB N cB,c3,x5] 67):=(M3.block B (by omega) (fun h=>by have:=(hv.lt B h).1;omega)).trans HBW.out
   have q0:w3.cell? ⟨B,3,none⟩=some (.slice aB N cB):=Joins.cell_of_block hB3 3
   have hB3':=hideA hB3;clear hB3;have hs4:base≤w3.heap.size:=by omega
   go_wp2_with (at_builtin;refine wpList_keeps_row rfl _ _ 62 111 Tryz.underlying62 infoTxt rfl base _ N xs rfl (hbk3.alloc _) w3.heap.size 4 4 [.slice av l.length cv,.slice (some ⟨g1,0,none⟩) (l.length+1) k1,.slice (some ⟨g2,0,none⟩) (l.length+1+1) k2,.slice (some ⟨g3,0,none⟩) (l.length+1+1+1) k3] rfl (by omega) (by omega) rfl (by exact hnw _ _) (by simp[Value.oneCell']) (by omega) (by simp;omega) ?_)
   intro g4 k4 w4 o4 gr4 li4;have hB4:w4.heap[B]?=some (.cells #[x0,c0,c1,.slice aB N cB,c3,x5] 67) :=
    ((grown_allocK gr4).block B (by omega) (fun h=>by have:=(hbk3.lt B h.symm).1;omega)).trans hB3'.out
   have q4:w4.cell? ⟨B,3,none⟩=some (.slice aB N cB):=Joins.cell_of_block hB4 3
   have f4:w4.frozen? ⟨B,3,none⟩=false:=Joins.unfrozen_of_block hB4 3
   have hB5:=Joins.block_setCell (i:=3) hB4 (.slice (some ⟨g4,0,none⟩) (N+4) k4)
   have ne1:=fun {v:Value} {n:Nat} {ys:List Value} (h:w3.ownsRow bv 9 1 v n ys)=>fun k hk h'=>otw h hbk3 (by decide) k hk h'
   have M4:Moved w3 w4 (fun k=>(Value.slice aB N cB).ownBlock=some k):=((Moved.refl w3 _).alloc _).grown gr4 (fun k _ h=>h)
   have M5:Moved w (w4.setCell ⟨B,3,none⟩ (.slice (some ⟨g4,0,none⟩) (N+4) k4)) (fun k=>k=B∨(Value.slice av l.length cv).ownBlock=some k∨(Value.slice aB N cB).ownBlock=some k) :=
    ((((Moved.refl w _).trans M0 (fun _ _ h=>h.elim)).trans M3 (fun k _ h=>.inr (.inl h))).trans M4 (fun k _ h=>.inr (.inr h))).setCell _ (.inl rfl) _
   have HF:Hid (BkdT w (w4.setCell ⟨B,3,none⟩ (.slice (some ⟨g4,0,none⟩) (N+4) k4)) B base bv N l.length x0 x5 (.slice av l.length cv) (.slice aB N cB) c0 c1 c3 xs mk):=by
    refine hideA ⟨.slice (some ⟨g1,0,none⟩) (l.length+1) k1,.slice (some ⟨g2,0,none⟩) (l.length+1+1) k2,.slice (some ⟨g3,0,none⟩) (l.length+1+1+1) k3,.slice (some ⟨g4,0,none⟩) (N+4) k4,hB5, ?_, ?_, ?_, ?_, ?_,M5,fun k hk=>by
     have hg:g4=k:=by simpa [Value.ownBlock] using hk
     subst hg;rcases li4 with h|h
     ·exact .inl h
     ·right
      have:=M3.size
      (try have:=M0.size)
      rw[h];omega⟩
    ·exact ownsRow_setCell_below o4 hBb _
    ·exact ownsRow_setCell_below (M4.owns ov3 (ne1 ov3)) hBv _
    ·exact ownsRow_setCell_below (M4.owns o13 (ne1 o13)) hBv _
    ·exact ownsRow_setCell_below (M4.owns o23 (ne1 o23)) hBv _
    ·exact ownsRow_setCell_below (M4.owns o3 (ne1 o3)) hBv _
   clear hB4 hB5 ne1 M4 M5 o4 ov3 o13 o23 o3 hbk3;go_wp2_with fail;go_end0
   exact⟨rfl,by rw[HMK.out];exact HF.out⟩
def markAn (mk:Int):Ans:=⟨mk,0,0⟩
theorem ansNums_append (l m:List Ans):ansNums (l++m)=ansNums l++ansNums m:=by simp[ansNums]
theorem ansNums_one (e:Ans):ansNums [e]=e.nums:=by simp[ansNums]
theorem ans_write (A:List Ans)(x y:Ans)(C:List Ans)(n:Nat)(hn:n=A.length) :
  (((ints (ansNums (A++x :: C))).set (n*3) (.int .i64 y.client)).set (n*3+1) (.int .i64 y.seq)).set (n*3+2) (.int .i64 y.value)=ints (ansNums (A++y :: C)):=by
 subst hn;rw[ints_set,ints_set,ints_set];congr 1
 rw[ansNums_append,ansNums_append];have hl:(ansNums A).length=A.length*3:=ansNums_length A
 rw[← hl];have e1:ansNums (x :: C)=x.client :: x.seq :: x.value :: ansNums C:=rfl
 have e2:ansNums (y :: C)=y.client :: y.seq :: y.value :: ansNums C:=rfl
 rw[e1,e2];rw[List.set_append_right _ _ (Nat.le_refl _),List.set_append_right _ _ (by omega),List.set_append_right _ _ (by omega)]
 rw[Nat.sub_self,Nat.add_sub_cancel_left,Nat.add_sub_cancel_left];rfl
theorem markAnswer_any (k:Int)(w:World)(h0:0≤k)(h1:k≤2000000000):Calls Tryz.prog 52 #[.int .i64 k] w fun e w'=>e=.returned (.agg #[.int .i64 (-1000-k),.int .i64 0,.int .i64 0])∧Below w.heap.size w w':=by
 obtain⟨W,hW,hb0,hsz,q,fz⟩:=boxed w #[.int .i64 0,.int .i64 0,.int .i64 0] 113
 go_enter Tryz.func52,Tryz.ntmps52
 go_wp2_with fail;clear hW;refine (markInt_any _ _ h0 h1).mono ?_
 rintro e W1 ⟨rfl,rfl⟩;go_wp2_with fail;refine bodyPost_ret (v:=.agg #[.int .i64 (-1000-k),.int .i64 0,.int .i64 0]) (by simp[results,Tryz.results52,go_sem,q]) rfl ⟨rfl, ?_⟩
 iterate 3 refine Below.setCell ?_ (by exact Nat.le_refl _) _
 exact hb0
theorem wpList_keeps_ans {w:World}{ops:Array Oper}{rest:List Oper}{o:Oper}{a:Act}{Q:Exit→Act→World→Prop}(hgd:o.guard=none)(s x:Operand)
  (ho:o.op=.call { callee:=.builtin .append,args:=#[s,x],argTypes:=#[91,91] })
  (base:Nat) (v:Value) (n:Nat) (mk:Int) (hs:a.eval s=v) (hown:w.ownsRow base 113 3 v n (ints (ansNums (List.replicate n (markAn mk)))))
  (g c:Nat) (hx:a.eval x=.slice (some ⟨g,0,none⟩) 1 c) (hnew:w.heap[g]?=some (.cells #[.int .i64 mk,.int .i64 0,.int .i64 0] 113))
  (h63:n≤2000000000) (hbase:base≤w.heap.size)
  (h:∀ g' cap w',w'.ownsRow base 113 3 (.slice (some ⟨g',0,none⟩) (n+1) cap) (n+1) (ints (ansNums (List.replicate (n+1) (markAn mk))))→w.grownBy w' v.ownBlock→w'.ownsRow base 113 3 v n (ints (ansNums (List.replicate n (markAn mk))))→(v.ownBlock=some g'∨g'=w.heap.size)→wpList Tryz.prog ops Q rest (a.put o.dst (.slice (some ⟨g',0,none⟩) (n+1) cap)) w') :
  wpList Tryz.prog ops Q (o :: rest) a w:=by
 obtain⟨i0,hi,hz0,hz1,hz2⟩:=info_parts infoAns
 refine wpList_append_keeps w hgd s x 91 ho base 113 i0 _ 3 24 Tryz.underlying91 hi hz0 hz1 hz2 rfl (by decide) v n _ hs hown ⟨g,0,none⟩ 1 c (ints (markAn mk).nums) hx rfl ?_ (ints_one _) (by omega) (by unfold maxLen;omega) (by omega) hbase ?_
 ·exact World.news_of_block hnew
 ·intro g' cap w' h1 h2 h3 h4
  rw[← ints_append, ← ansNums_one, ← ansNums_append, ← List.replicate_succ'] at h1
  exact h g' cap w' h1 h2 h3 h4
def BkdA (w w':World)(B base bv N n:Nat)(x0 x5 v vB c0 c1 c2:Value)(xs:List Value)(mk:Int):Prop :=
 ∃ v1 v2 v3 vB',w'.heap[B]?=some (.cells #[x0,c0,c1,c2,vB',x5] 67)∧w'.ownsRow base 91 1 vB' (N+4) (xs++[v,v1,v2,v3]) ∧
  w'.ownsRow bv 113 3 v n (ints (ansNums (List.replicate n (markAn mk))))∧w'.ownsRow bv 113 3 v1 (n+1) (ints (ansNums (List.replicate (n+1) (markAn mk)))) ∧
  w'.ownsRow bv 113 3 v2 (n+2) (ints (ansNums (List.replicate (n+2) (markAn mk))))∧w'.ownsRow bv 113 3 v3 (n+3) (ints (ansNums (List.replicate (n+3) (markAn mk)))) ∧
  Moved w w' (fun k=>k=B∨v.ownBlock=some k∨vB.ownBlock=some k)∧∀ k,vB'.ownBlock=some k→vB.ownBlock=some k∨w.heap.size≤k
theorem bkAns_any (B base bv N:Nat)(x0 x5 v vB c0 c1 c2:Value)(xs:List Value)(l:List Ans)(w:World)(hB:w.heap[B]?=some (.cells #[x0,c0,c1,c2,vB,x5] 67))(hBb:B<base)(hBv:B<bv)(hbs:base≤w.heap.size)(hbv:bv≤w.heap.size)
  (hv:w.ownsRow bv 113 3 v l.length (ints (ansNums l))) (hbk:w.ownsRow base 91 1 vB N xs) (hN:N≤1000000000) (hl:l.length≤1000000000) :
  Calls Tryz.prog 105 #[.pointer (some ⟨B,1,none⟩),v] w fun e w'=>e=.returned (.tuple #[])∧BkdA w w' B base bv N l.length x0 x5 v vB c0 c1 c2 xs (-1000-(N:Int) / 4):=by
 obtain⟨aB,cB,rfl⟩:=osh hbk
 obtain⟨av,cv,rfl⟩:=osh hv
 have q0:w.cell? ⟨B,4,none⟩=some (.slice aB N cB):=Joins.cell_of_block hB 4
 have HB:=hideA hB;clear hB;go_enter Tryz.func105,Tryz.ntmps105
 go_wp2_with fail;refine (markAnswer_any _ _ (by omega) (by omega)).mono ?_
 rintro e W0 ⟨rfl,hbW⟩;generalize hmk:(-1000-(N:Int) / 4)=mk
 have HMK:=hideA hmk;clear hmk q0;go_wp2_with fail;obtain⟨W,hW,hb0,hsz,qm,fm⟩:=boxed W0 #[.int .i64 mk,.int .i64 0,.int .i64 0] 113
 rw[hW];clear hW;have M0:Moved w W (fun _=>False):=⟨hb0.os.trans hbW.os,hb0.tape.trans hbW.tape,hb0.output.trans hbW.output,by have:=hbW.size;have:=hb0.size;omega,fun k hk _=>(hb0.block k (by have:=hbW.size;omega)).trans (hbW.block k hk)⟩
 have hvW:=M0.owns hv (fun _ _ h=>h)
 have hbkW:=M0.owns hbk (fun _ _ h=>h)
 have hBW:W.heap[B]?=_:=(M0.block B (by omega) (fun h=>h)).trans HB.out
 have HBW:=hideA hBW;clear hBW;have hbsW:base≤W.heap.size:=Nat.le_trans hbs M0.size
 have hbvW:bv≤W.heap.size:=Nat.le_trans hbv M0.size
 have hMW:W0.heap.size<W.heap.size:=by omega
 have hMv:∀ k,(Value.slice av l.length cv).ownBlock=some k→k<W0.heap.size:=fun k hk=>by have:=(hv.lt k hk).2;have:=hbW.size;omega
 have hM0:base≤W0.heap.size:=Nat.le_trans hbs hbW.size
 have hMv0:bv≤W0.heap.size:=Nat.le_trans hbv hbW.size
 go_loopw [5] (fun i wr=>∃ (n:Nat),n≤l.length∧i=.int .i64 (n:Int)∧wr.ownsRow bv 113 3 (.slice av l.length cv) l.length (ints (ansNums (List.replicate n (markAn mk)++l.drop n)))∧Moved W wr (fun k=>(Value.slice av l.length cv).ownBlock=some k))
  (fun i _=>l.length-(intOf i).toNat)
 case atStart=>exact⟨0,Nat.zero_le _,rfl,by simpa using hvW,Moved.refl _ _⟩
 case round =>
  obtain⟨n,hn,rfl,hown,hmv⟩:=hrel;have hwm:wr.heap[W0.heap.size]?=W.heap[W0.heap.size]?:=hmv.block _ hMW (fun h=>by have:=hMv _ h;omega)
  have qm':∀ j,wr.cell? ⟨W0.heap.size,j,none⟩=#[.int .i64 mk,.int .i64 0,.int .i64 0][j]?:=fun j=>(World.cell?_of_block (a:=⟨W0.heap.size,j,none⟩) hwm).trans (qm j)
  have m0:wr.cell? ⟨W0.heap.size,0,none⟩=some (.int .i64 mk):=qm' 0
  have m1:wr.cell? ⟨W0.heap.size,1,none⟩=some (.int .i64 0):=qm' 1
  have m2:wr.cell? ⟨W0.heap.size,2,none⟩=some (.int .i64 0):=qm' 2
  by_cases hlt:n<l.length
  ·obtain⟨g,cap,hvv,hg1,hg2⟩:=hown.form (by omega)
   cases hvv
   have hlen:(ints (ansNums (List.replicate n (markAn mk)++l.drop n))).length=l.length*3:=hown.1
   have cc:∀ j,j<l.length*3→∃ u,wr.cell? ⟨g,j,none⟩=some u:=fun j hj=>by
    rw[hown.cellAt j hj];exact⟨_,List.getElem?_eq_getElem (by rw[hlen];exact hj)⟩
   obtain⟨u0,c0'⟩:=cc (n*3) (by omega)
   obtain⟨u1,c1'⟩:=cc (n*3+1) (by omega)
   obtain⟨u2,c2'⟩:=cc (n*3+2) (by omega)
   have f0:=hown.frozenAt (n*3)
   have f1:=hown.frozenAt (n*3+1)
   have f2:=hown.frozenAt (n*3+2)
   have HC:=hideA cc;clear cc qm' hlen;have st0:=hown.stored (n*3) (.int .i64 mk)
   have st1:=st0.1.stored (n*3+1) (.int .i64 0)
   have st2:=st1.1.stored (n*3+2) (.int .i64 0)
   have hfin:=st2.1
   have hd:l.drop n=l[n] :: l.drop (n+1):=List.drop_eq_getElem_cons hlt
   have hw:=ans_write (List.replicate n (markAn mk)) l[n] (markAn mk) (l.drop (n+1)) n (by simp)
   change (((ints (ansNums (List.replicate n (markAn mk)++l[n] :: l.drop (n+1)))).set (n*3) (.int .i64 mk)).set (n*3+1) (.int .i64 0)).set (n*3+2) (.int .i64 0)=_ at hw
   rw[hd,hw,show List.replicate n (markAn mk)++markAn mk :: l.drop (n+1)=List.replicate (n+1) (markAn mk)++l.drop (n+1) by rw[List.replicate_succ',List.append_assoc];rfl] at hfin
   have hmv':=((hmv.grown st0.2 (fun k _ h=>h)).grown st1.2 (fun k _ h=>h)).grown st2.2 (fun k _ h=>h)
   have HF:=hideA hfin;have HM:=hideA hmv';clear hfin hmv' st0 st1 st2 hd hw;go_wp2_with fail;exact⟨⟨n+1,by omega,by go_num,HF.out,HM.out⟩,by simp[intOf];omega⟩
  ·obtain rfl:n=l.length:=by omega
   rw[List.drop_length,List.append_nil] at hown
   have hbs':bv≤wr.heap.size:=Nat.le_trans hbvW hmv.size
   have hbs'':base≤wr.heap.size:=Nat.le_trans hbsW hmv.size
   have hMr:W0.heap.size<wr.heap.size:=Nat.lt_of_lt_of_le hMW hmv.size
   clear qm';go_wp2_with (at_builtin;refine wpList_keeps_ans rfl _ _ rfl bv _ l.length mk rfl (hown.alloc _) wr.heap.size 1 rfl (by exact hnw _ _) (by omega) (by simp;omega) ?_)
   intro g1 k1 w1 o1 gr1 ov1 li1;have hs1:=(grown_allocK gr1).size
   have hs1':=gr1.size
   rw[World.size_alloc] at hs1'
   have hw1:w1.heap[W0.heap.size]?=wr.heap[W0.heap.size]?:=(grown_allocK gr1).block _ hMr (fun h=>by have:=hMv _ h.symm;omega)
   have x0:=(World.cell?_of_block (a:=⟨W0.heap.size,0,none⟩) hw1).trans m0
   have x1:=(World.cell?_of_block (a:=⟨W0.heap.size,1,none⟩) hw1).trans m1
   have x2:=(World.cell?_of_block (a:=⟨W0.heap.size,2,none⟩) hw1).trans m2
   have g1M:g1≠W0.heap.size:=by
    rcases li1 with h1|h1
    ·have:=hMv g1 h1;omega
    ·omega
   clear m0 m1 m2;go_wp2_with (at_builtin;refine wpList_keeps_ans rfl _ _ rfl bv _ (l.length+1) mk rfl (o1.alloc _) w1.heap.size 1 rfl (by exact hnw _ _) (by omega) (by simp;omega) ?_)
   intro g2 k2 w2 o2 gr2 o12 li2;have hs2:=gr2.size
   rw[World.size_alloc] at hs2
   have ov2:=owns_beside (ov1.alloc _) (o1.alloc _) gr2 o12 (by omega) (by omega)
   have hw2:w2.heap[W0.heap.size]?=w1.heap[W0.heap.size]?:=(grown_allocK gr2).block _ (by omega) (fun h=>g1M (by simpa [Value.ownBlock] using h.symm))
   have y0:=(World.cell?_of_block (a:=⟨W0.heap.size,0,none⟩) hw2).trans x0
   have y1:=(World.cell?_of_block (a:=⟨W0.heap.size,1,none⟩) hw2).trans x1
   have y2:=(World.cell?_of_block (a:=⟨W0.heap.size,2,none⟩) hw2).trans x2
   have g12:g2=g1∨wr.heap.size<g2:=by
    rcases li2 with h2|h2
    ·exact .inl (by simpa [Value.ownBlock] using h2.symm)
    ·right;omega
   clear x0 x1 x2;go_wp2_with (at_builtin;refine wpList_keeps_ans rfl _ _ rfl bv _ (l.length+1+1) mk rfl (o2.alloc _) w2.heap.size 1 rfl (by exact hnw _ _) (by omega) (by simp;omega) ?_)
   intro g3 k3 w3 o3 gr3 o23 li3;have hs3:=gr3.size
   rw[World.size_alloc] at hs3
   have ov3:=owns_beside (ov2.alloc _) (o2.alloc _) gr3 o23 (by omega) (by omega)
   have o13:=owns_beside (o12.alloc _) (o2.alloc _) gr3 o23 (by omega) (by omega)
   clear ov1 ov2 o1 o12 o2 y0 y1 y2;have M3:Moved W w3 (fun k=>(Value.slice av l.length cv).ownBlock=some k):=by
    refine (((hmv.alloc _).grown gr1 (fun k _ h=>h)).alloc _).grown gr2 (fun k hk h => ?_) |>.alloc _ |>.grown gr3 (fun k hk h => ?_)
    ·have hg:g1=k:=by simpa [Value.ownBlock] using h
     have:=hmv.size
     rcases li1 with h1|h1
     ·rw[h1,hg]
     ·omega
    ·have hg:g2=k:=by simpa [Value.ownBlock] using h
     have:=hmv.size
     rcases g12 with h2|h2
     ·rcases li1 with h1|h1
      ·rw[h1, ← h2,hg]
      ·omega
     ·omega
   have hbk3:w3.ownsRow base 91 1 (.slice aB N cB) N xs:=M3.owns hbkW (fun k hk h=>otw hbkW hvW (by decide) k hk h)
   have hB3:w3.heap[B]?=some (.cells #[x0,c0,c1,c2,.slice aB N cB,x5] 67):=(M3.block B (by omega) (fun h=>by have:=(hvW.lt B h).1;omega)).trans HBW.out
   have q0:w3.cell? ⟨B,4,none⟩=some (.slice aB N cB):=Joins.cell_of_block hB3 4
   have hB3':=hideA hB3;clear hB3;have hs4:base≤w3.heap.size:=by omega
   go_wp2_with (at_builtin;refine wpList_keeps_row rfl _ _ 63 91 Tryz.underlying63 infoAnsRow rfl base _ N xs rfl (hbk3.alloc _) w3.heap.size 4 4 [.slice av l.length cv,.slice (some ⟨g1,0,none⟩) (l.length+1) k1,.slice (some ⟨g2,0,none⟩) (l.length+1+1) k2,.slice (some ⟨g3,0,none⟩) (l.length+1+1+1) k3] rfl (by omega) (by omega) rfl (by exact hnw _ _) (by simp[Value.oneCell']) (by omega) (by simp;omega) ?_)
   intro g4 k4 w4 o4 gr4 li4;have hB4:w4.heap[B]?=some (.cells #[x0,c0,c1,c2,.slice aB N cB,x5] 67) :=
    ((grown_allocK gr4).block B (by omega) (fun h=>by have:=(hbk3.lt B h.symm).1;omega)).trans hB3'.out
   have q4:w4.cell? ⟨B,4,none⟩=some (.slice aB N cB):=Joins.cell_of_block hB4 4
   have f4:w4.frozen? ⟨B,4,none⟩=false:=Joins.unfrozen_of_block hB4 4
   have hB5:=Joins.block_setCell (i:=4) hB4 (.slice (some ⟨g4,0,none⟩) (N+4) k4)
   have ne1:=fun {v:Value} {n:Nat} {ys:List Value} (h:w3.ownsRow bv 113 3 v n ys)=>fun k hk h'=>otw h hbk3 (by decide) k hk h'
   have M4:Moved w3 w4 (fun k=>(Value.slice aB N cB).ownBlock=some k):=((Moved.refl w3 _).alloc _).grown gr4 (fun k _ h=>h)
   have M5:Moved w (w4.setCell ⟨B,4,none⟩ (.slice (some ⟨g4,0,none⟩) (N+4) k4)) (fun k=>k=B∨(Value.slice av l.length cv).ownBlock=some k∨(Value.slice aB N cB).ownBlock=some k) :=
    ((((Moved.refl w _).trans M0 (fun k _ h=>h.elim)).trans M3 (fun k _ h=>.inr (.inl h))).trans M4 (fun k _ h=>.inr (.inr h))).setCell _ (.inl rfl) _
   have HF:Hid (BkdA w (w4.setCell ⟨B,4,none⟩ (.slice (some ⟨g4,0,none⟩) (N+4) k4)) B base bv N l.length x0 x5 (.slice av l.length cv) (.slice aB N cB) c0 c1 c2 xs mk):=by
    refine hideA ⟨.slice (some ⟨g1,0,none⟩) (l.length+1) k1,.slice (some ⟨g2,0,none⟩) (l.length+1+1) k2,.slice (some ⟨g3,0,none⟩) (l.length+1+1+1) k3,.slice (some ⟨g4,0,none⟩) (N+4) k4,hB5, ?_, ?_, ?_, ?_, ?_,M5,fun k hk=>by
     have hg:g4=k:=by simpa [Value.ownBlock] using hk
     subst hg;rcases li4 with h|h
     ·exact .inl h
     ·right
      have:=M3.size
      (try have:=M0.size)
      rw[h];omega⟩
    ·exact ownsRow_setCell_below o4 hBb _
    ·exact ownsRow_setCell_below (M4.owns ov3 (ne1 ov3)) hBv _
    ·exact ownsRow_setCell_below (M4.owns o13 (ne1 o13)) hBv _
    ·exact ownsRow_setCell_below (M4.owns o23 (ne1 o23)) hBv _
    ·exact ownsRow_setCell_below (M4.owns o3 (ne1 o3)) hBv _
   clear hB4 hB5 ne1 M4 M5 o4 ov3 o13 o23 o3 hbk3;go_wp2_with fail;go_end0
   exact⟨rfl,by rw[HMK.out];exact HF.out⟩
end Go.Proofs.YtgieeeeeiggoeaaGreat
