import Derived.Test.YtgieeeeeiggoeaaGreatD22
import Derived.Test.YtgieeeeeiggoeaaGreatD19
set_option maxRecDepth 100000
set_option maxHeartbeats 1000000
namespace Go.Proofs.YtgieeeeeiggoeaaGreat
open Go.RowKit Go.Shelf
open Tryz
theorem Ua (b:Nat)(own:Int)(r:aR)(vm vl:Value)(m:aK)(mm ml:Value)(w:World)(h:dh w b own r vm vl)(ok:gH r)(h2:bw w ml m.log)(kB:∀ y∈r.log++m.log,0<=y.client/\y.client<=3) :
  Calls prog 266 #[.pointer (some ⟨b,0,none⟩),bL m mm ml] w fun e w'=>cX w w' b own vm vl e (r.gL own m):=by
 have HT:Hid (r.gL own m=if r.live own/\dY r.af own=some m.src/\m.log.length=1/\m.ah=r.ah then
  (if m.pos=r.log.length/\r.log.length<24 then r.put own (m.log.headD aH.zero)
  else if m.pos<r.log.length/\(bS r.af own=none\/m.pos<r.aU) then (r,r.c_ own)
  else (r,[])) else (r,[])):=ae rfl
 have mixed:prog.follows Departure.mixedOrders=true:=by kernel_rfl
 have hbl:b<w.heap.size:=(aQ h.blk);have ja:=ok.l;obtain⟨am,cm,rfl⟩:=aM h2;obtain⟨al,cl,rfl⟩:=aM h.hl;have HR:=ae h;have HO:=ae ok;have HC:=ae kB;have H2:=ae h2;have HB1:Hid (∀ W,ai w W->Calls prog 275 #[.pointer (some ⟨b,0,none⟩)] W fun e w'=>e=.returned (.tuple #[.int .i64 ((dY r.af own).getD 0),.bool (dY r.af own).isSome])/\ai W w'):=ae fun W hb=>CU b own r vm _ W (h.below hb) ok;have oS:Hid (∀ W,ai w W->Calls prog 277 #[.pointer (some ⟨b,0,none⟩)] W fun e w'=>e=.returned (.bool (decide ((24:Int)<=(r.log.length:Int))))/\w'=W):=ae fun W hb=>Fq b own r vm _ W (HR.out.below hb);have km:Hid (∀ Y,ai w Y->Y.cell? ⟨w.heap.size,6,none⟩=some (.int .i64 m.pos)->∀ W,W=Y.drew->Calls prog 264 #[.pointer (some ⟨b,0,none⟩)] W fun e w'=>e=.returned (.bool (!(bS r.af own).isSome))/\ai w w'/\w'.cell? ⟨w.heap.size,6,none⟩=some (.int .i64 m.pos)/\w'.cell? ⟨b,4,none⟩=some (.slice al r.log.length cl)/\w'.cell? ⟨b,6,none⟩=some (.int .i64 (r.aU:Int))):=ae (by
  rintro Y bt h6 W rfl;have nF:ai w Y.drew:=bt.drew;refine (Ft b own r vm _ Y.drew (HR.out.below nF) HO.out).mono ?_
  rintro e w' ⟨rfl,hb'⟩;have hb:ai w w':=nF.trans (hb'.mono nF.size);exact⟨rfl,hb,aF hb' h6,aj (HR.out.below hb).blk 4,aj (HR.out.below hb).blk 6⟩)
 have tp:Hid (∀ W,ai w W->Calls prog 276 #[.pointer (some ⟨b,0,none⟩),.agg #[.int .i64 m.kind,.int .i64 m.src,.int .i64 m.dst,.int .i64 m.ah,.int .i64 m.ak,.int .i64 m.aO,.int .i64 m.pos,.int .i64 m.value,mm,.slice am m.log.length cm]] W fun e w'=>e=.returned (.bool (r.live own && decide (m.ah=r.ah)))/\ai W w'):=ae fun W hb=>Fs b own r vm _ m mm _ W (h.below hb) ok;clear h ok kB h2;unfold bL;go_enter func266,ntmps266;go_wp2_with fail;obtain⟨X,hX,hbX,cS⟩:=dk w m mm (.slice am m.log.length cm);rw[hX];clear hX;refine (HB1.out _ hbX).mono ?_
 rintro e W2 ⟨rfl,hb2⟩;have hb2':=hbX.trans (hb2.mono hbX.size);have hB2:=ae ((hb2.block _ (aQ cS)).trans cS);clear cS hb2 hbX;cases hnx:dY r.af own with
 | none =>
  have HN:Hid (r.gL own m=(r,[])):=ae (by rw[HT.out,if_neg];rintro⟨-,h2, -⟩;rw[hnx] at h2;cases h2)
  go_wp2_with fail;go_ret;rw[HN.out];exact cX.still HR.out hb2'
 | some nx =>
  have tt:=ae hnx;clear hnx;have g1:=aj hB2.out 1;cases hsd:(m.src != nx) with
  | true =>
   have HN:Hid (r.gL own m=(r,[])):=ae (by rw[HT.out,if_neg];rintro⟨-,h2, -⟩;rw[tt.out] at h2;injection h2 with h2;rw[h2] at hsd;simp at hsd)
   go_wp2_with fail;go_ret;rw[HN.out];exact cX.still HR.out hb2'
  | false =>
   have yI:Hid (m.src=nx):=ae (by simpa using hsd)
   have g9:=aj hB2.out 9;by_cases hone:m.log.length=1
   ·obtain⟨x,hx⟩:∃ x,m.log=[x]:=List.length_eq_one_iff.1 hone
    have Hx:=ae hx;have Jt:=ae hone;rw[hone] at hB2 tp;clear hone hx g9;have g0:=aj hB2.out 0;have g2:=aj hB2.out 2;have g3:=aj hB2.out 3;have g4:=aj hB2.out 4;have g5:=aj hB2.out 5;have g6:=aj hB2.out 6;have g7:=aj hB2.out 7;have g8:=aj hB2.out 8;have g9:=aj hB2.out 9;go_wp2_with fail;refine (tp.out _ hb2').mono ?_
    rintro e W3 ⟨rfl,hb3⟩;have kz:=hb2'.trans (hb3.mono hb2'.size);have hB3:=ae ((hb3.block _ (aQ hB2.out)).trans hB2.out);clear g0 g1 g2 g3 g4 g5 g6 g7 g8 g9 hb3 hb2' hB2 hsd;cases nK:(r.live own && decide (m.ah=r.ah)) with
    | false =>
     have HN:Hid (r.gL own m=(r,[])):=ae (by rw[HT.out,if_neg];rintro⟨h1, -, -,h2⟩;rw[h1,h2] at nK;simp at nK)
     clear nK;go_wp2_with fail;go_ret;rw[HN.out];exact cX.still HR.out kz
    | true =>
     have Hno:Hid (r.live own=true/\m.ah=r.ah):=ae (by simpa using nK)
     clear nK;have HQ:Hid (r.gL own m=if m.pos=r.log.length/\r.log.length<24 then r.put own x
      else if m.pos<r.log.length/\(bS r.af own=none\/m.pos<r.aU) then (r,r.c_ own)
      else (r,[])):=ae (by rw[HT.out,if_pos ⟨Hno.out.1,by rw[tt.out,yI.out],Jt.out,Hno.out.2⟩,Hx.out];rfl)
     have R3:=ae (HR.out.below kz);have z6:=aj hB3.out 6;have z4:=au R3.out.blk 4;clear HT HB1 tp;cases heq:(m.pos == (r.log.length:Int)) with
     | true =>
      have ts:Hid (m.pos=(r.log.length:Int)):=ae (by simpa using heq)
      by_cases hfu:(24:Int)<=(r.log.length:Int)
      ·have HN:Hid (r.gL own m=(r,[])):=ae (by rw[HQ.out,if_neg (by omega),if_neg (by have:=ts.out;omega)])
       have rp:decide ((24:Int)<=(r.log.length:Int))=true:=eR hfu;have hnl:decide (m.pos<(r.log.length:Int))=false:=ee (by have:=ts.out;omega)
       rw[rp] at oS;go_wp2_with fail;go_quiet ((go_at_call 277;refine (oS.out _ (aV kz _)).mono ?_;rintro e w9 ⟨rfl,rfl⟩;exact⟨rfl,_,rfl⟩))
       have hb4:=aV kz nq;have oO:Hid ((W3.drewN nq).heap[w.heap.size]?=some (.cells #[.int .i64 m.kind,.int .i64 m.src,.int .i64 m.dst,.int .i64 m.ah,.int .i64 m.ak,.int .i64 m.aO,.int .i64 m.pos,.int .i64 m.value,mm,.slice am 1 cm] 134)):=hB3;generalize W3.drewN nq=W4 at *;clear z6 z4 heq;have z6:=aj oO.out 6;have z4:W4.cell? ⟨b,4,none⟩=some (.slice al r.log.length cl):=aj (HR.out.below hb4).blk 4;go_wp2_with fail;go_quiet (fail);go_wp2_with fail;go_ret;rw[HN.out];exact cX.still HR.out (aV hb4 _)
      ·have HN:Hid (r.gL own m=r.put own x):=ae (by rw[HQ.out,if_pos ⟨ts.out,by omega⟩])
       have rp:decide ((24:Int)<=(r.log.length:Int))=false:=ee hfu;rw[rp] at oS;go_wp2_with fail;go_quiet ((go_at_call 277;refine (oS.out _ (aV kz _)).mono ?_;rintro e w9 ⟨rfl,rfl⟩;exact⟨rfl,_,rfl⟩))
       have hb4:=aV kz nq;have oO:Hid ((W3.drewN nq).heap[w.heap.size]?=some (.cells #[.int .i64 m.kind,.int .i64 m.src,.int .i64 m.dst,.int .i64 m.ah,.int .i64 m.ak,.int .i64 m.aO,.int .i64 m.pos,.int .i64 m.value,mm,.slice am 1 cm] 134)):=hB3;generalize W3.drewN nq=W4 at *;clear z6 z4 heq;have g9:=aj oO.out 9;have r_:Hid (bw W4 (.slice am 1 cm) [x]):=ae (by
        have:=aS (w':=W4) H2.out fun k _ hk=>hb4.block k hk;rw[Hx.out] at this;exact this)
       obtain⟨gl,cl',hvl, -, -⟩:=r_.out.form (by simp)
       cases hvl;obtain⟨cur,fz, -,hcc⟩:=gR.cM r_.out;obtain⟨e0,e1,e2,e3,e4⟩:=hcc 0 (by simp)
       have k0:W4.cell? ⟨gl,0,none⟩=some (.int .i64 x.client):=by simpa using e0
       have k1:W4.cell? ⟨gl,1,none⟩=some (.int .i64 x.seq):=by simpa using e1
       have k2:W4.cell? ⟨gl,2,none⟩=some (.int .i64 x.kind):=by simpa using e2
       have k3:W4.cell? ⟨gl,3,none⟩=some (.int .i64 x.key):=by simpa using e3
       have k4:W4.cell? ⟨gl,4,none⟩=some (.int .i64 x.value):=by simpa using e4
       clear hcc e0 e1 e2 e3 e4;have hput:=Gp b own r vm _ x W4 (HR.out.below hb4) HO.out (by omega) (by have:=HC.out;rw[Hx.out] at this;exact this)
       unfold eP at hput;go_wp2_with fail;refine hput.mono ?_
       rintro e Z2 ⟨v,rfl,hto,hmo⟩;obtain⟨av,cv,hsh⟩:=hmo.shape;subst hsh;generalize hpl:(r.put own x).2.length=pl at *;go_wp2_with fail;go_ret;rw[HN.out];exact cX.before hb4 ⟨_,rfl,hto,hmo⟩
     | false =>
      have vQ:Hid (¬ m.pos=(r.log.length:Int)):=ae (by simpa using heq)
      go_wp2_with fail;go_quiet (fail);have hb4:=aV kz nq;have oO:Hid ((W3.drewN nq).heap[w.heap.size]?=some (.cells #[.int .i64 m.kind,.int .i64 m.src,.int .i64 m.dst,.int .i64 m.ah,.int .i64 m.ak,.int .i64 m.aO,.int .i64 m.pos,.int .i64 m.value,mm,.slice am 1 cm] 134)):=hB3;generalize W3.drewN nq=W4 at *;clear z6 z4 heq;have z6:=aj oO.out 6;have R4:=ae (HR.out.below hb4);have z4:=au R4.out.blk 4;have z5:=au R4.out.blk 6;by_cases hlt:m.pos<(r.log.length:Int)
      ·have hlt':decide (m.pos<(r.log.length:Int))=true:=eR hlt
       cases htl:(bS r.af own).isSome with
       | false =>
        have HN:Hid (r.gL own m=(r,r.c_ own)):=ae (by rw[HQ.out,if_neg (fun h=>vQ.out h.1),if_pos ⟨hlt,.inl (by simpa using htl)⟩])
        have tr:Hid (∀ W,W=W4.drew->Calls prog 264 #[.pointer (some ⟨b,0,none⟩)] W fun e w'=>e=.returned (.bool true)/\ai w w'/\w'.cell? ⟨w.heap.size,6,none⟩=some (.int .i64 m.pos)/\w'.cell? ⟨b,4,none⟩=some (.slice al r.log.length cl)):=ae fun W hW=>(km.out W4 hb4 z6 W hW).mono (by
         rintro e w' ⟨rfl,h1,h2,h3, -⟩;exact⟨by rw[htl];rfl,h1,h2,h3⟩)
        clear htl;go_wp2_with fail;refine wp_region_held_drew (S:=fun w'=>w'.cell? ⟨w.heap.size,6,none⟩=some (.int .i64 m.pos)/\w'.cell? ⟨b,4,none⟩=some (.slice al r.log.length cl)) mixed ⟨z6,z4⟩ (fun hS => ?_)
        refine wpAnyH_take (i:=0) (oi:={ dst:=some 53,op:=_,type:=_,pos:=_,after:=_,guard:=_ }) (v:=.pointer (some ⟨w.heap.size,6,none⟩)) rfl (by kernel_rfl) (by kernel_rfl) (by kernel_rfl) (fun _ _ _ h=>h) (Or.inl ⟨by rfl,by rintro w9 ⟨s6,s4⟩;go_simp⟩) hS ?_
        simp only [Act.put,iO,fT,ir];refine wpAnyH_take (i:=1) (oi:={ dst:=some 54,op:=_,type:=_,pos:=_,after:=_,guard:=_ }) (v:=.int .i64 m.pos) rfl (by kernel_rfl) (by kernel_rfl) (by kernel_rfl) (fun _ _ _ h=>h) (Or.inl ⟨by rfl,by rintro w9 ⟨s6,s4⟩;go_simp⟩) hS ?_
        simp only [Act.put,iO,fT,ir];refine wpAnyH_take (i:=2) (oi:={ dst:=some 55,op:=_,type:=_,pos:=_,after:=_,guard:=_ }) (v:=.pointer (some ⟨b,0,none⟩)) rfl (by kernel_rfl) (by kernel_rfl) (by kernel_rfl) (fun _ _ _ h=>h) (Or.inl ⟨by rfl,by rintro w9 ⟨s6,s4⟩;go_simp⟩) hS ?_
        simp only [Act.put,iO,fT,ir];refine wpAnyH_take (i:=3) (oi:={ dst:=some 56,op:=_,type:=_,pos:=_,after:=_,guard:=_ }) (v:=.pointer (some ⟨b,0,none⟩)) rfl (by kernel_rfl) (by kernel_rfl) (by kernel_rfl) (fun _ _ _ h=>h) (Or.inl ⟨by rfl,by rintro w9 ⟨s6,s4⟩;go_simp⟩) hS ?_
        simp only [Act.put,iO,fT,ir];refine wpAnyH_take (i:=4) (oi:={ dst:=some 57,op:=_,type:=_,pos:=_,after:=_,guard:=_ }) (v:=.pointer (some ⟨b,4,none⟩)) rfl (by kernel_rfl) (by kernel_rfl) (by kernel_rfl) (fun _ _ _ h=>h) (Or.inl ⟨by rfl,by rintro w9 ⟨s6,s4⟩;go_simp⟩) hS ?_
        simp only [Act.put,iO,fT,ir];refine wpAnyH_take (i:=5) (oi:={ dst:=some 58,op:=_,type:=_,pos:=_,after:=_,guard:=_ }) (v:=.slice al r.log.length cl) rfl (by kernel_rfl) (by kernel_rfl) (by kernel_rfl) (fun _ _ _ h=>h) (Or.inl ⟨by rfl,by rintro w9 ⟨s6,s4⟩;go_simp⟩) hS ?_
        simp only [Act.put,iO,fT,ir];refine wpAnyH_take (i:=6) (oi:={ dst:=some 59,op:=_,type:=_,pos:=_,after:=_,guard:=_ }) (v:=.int .i64 (r.log.length:Int)) rfl (by kernel_rfl) (by kernel_rfl) (by kernel_rfl) (fun _ _ _ h=>h) (Or.inl ⟨by rfl,by rintro w9 ⟨s6,s4⟩;go_simp⟩) hS ?_
        simp only [Act.put,iO,fT,ir];refine wpAnyH_take (i:=7) (oi:={ dst:=some 60,op:=_,type:=_,pos:=_,after:=_,guard:=_ }) (v:=.bool true) rfl (by kernel_rfl) (by kernel_rfl) (by kernel_rfl) (fun _ _ _ h=>h) (Or.inl ⟨by rfl,by rintro w9 ⟨s6,s4⟩;go_simp⟩) hS ?_
        simp only [Act.put,iO,fT,ir];refine wpAnyH_take (i:=8) (oi:={ dst:=some 61,op:=_,type:=_,pos:=_,after:=_,guard:=_ }) (v:=.bool true) rfl (by kernel_rfl) (by kernel_rfl) (by kernel_rfl) (fun _ _ _ h=>h) (Or.inl ⟨by rfl,by rintro w9 ⟨s6,s4⟩;go_simp⟩) hS ?_
        simp only [Act.put,iO,fT,ir];refine wpAnyH_take (i:=9) (oi:={ dst:=some 62,op:=_,type:=_,pos:=_,after:=_,guard:=_ }) (v:=.pointer (some ⟨b,0,none⟩)) rfl (by kernel_rfl) (by kernel_rfl) (by kernel_rfl) (fun _ _ _ h=>h) (Or.inl ⟨by rfl,by rintro w9 ⟨s6,s4⟩;go_simp⟩) hS ?_
        simp only [Act.put,iO,fT,ir];refine wpAnyH_ready (rs:=[10]) (by kernel_rfl) (by simp) ?_
        refine AllReadyH.cons (i:=10) rfl (fun K hK => ?_) AllReadyH.nil
        go_simp;refine (tr.out _ rfl).mono ?_
        rintro e Z2 ⟨rfl,pX,t6,t4⟩;refine hK.out _ _ ⟨t6,t4⟩ (fun hS => ?_)
        clear hK;refine wpAnyH_take (i:=11) (oi:={ dst:=some 64,op:=_,type:=_,pos:=_,after:=_,guard:=_ }) (v:=.bool true) rfl (by kernel_rfl) (by kernel_rfl) (by kernel_rfl) (fun _ _ _ h=>h) (Or.inl ⟨by rfl,by rintro w9 ⟨s6,s4⟩;go_simp⟩) hS ?_
        simp only [Act.put,iO,fT,ir];refine wpAnyH_take (i:=12) (oi:={ dst:=some 65,op:=_,type:=_,pos:=_,after:=_,guard:=_ }) (v:=undef) rfl (by kernel_rfl) (by kernel_rfl) (by kernel_rfl) (fun _ _ _ h=>h) (Or.inr ⟨by rfl,rfl⟩) hS ?_
        simp only [Act.put,iO,fT,ir];refine wpAnyH_take (i:=13) (oi:={ dst:=some 66,op:=_,type:=_,pos:=_,after:=_,guard:=_ }) (v:=undef) rfl (by kernel_rfl) (by kernel_rfl) (by kernel_rfl) (fun _ _ _ h=>h) (Or.inr ⟨by rfl,rfl⟩) hS ?_
        simp only [Act.put,iO,fT,ir];refine wpAnyH_take (i:=14) (oi:={ dst:=some 67,op:=_,type:=_,pos:=_,after:=_,guard:=_ }) (v:=undef) rfl (by kernel_rfl) (by kernel_rfl) (by kernel_rfl) (fun _ _ _ h=>h) (Or.inr ⟨by rfl,rfl⟩) hS ?_
        simp only [Act.put,iO,fT,ir];refine wpAnyH_take (i:=15) (oi:={ dst:=some 68,op:=_,type:=_,pos:=_,after:=_,guard:=_ }) (v:=undef) rfl (by kernel_rfl) (by kernel_rfl) (by kernel_rfl) (fun _ _ _ h=>h) (Or.inr ⟨by rfl,rfl⟩) hS ?_
        simp only [Act.put,iO,fT,ir];refine wpAnyH_take (i:=16) (oi:={ dst:=some 69,op:=_,type:=_,pos:=_,after:=_,guard:=_ }) (v:=undef) rfl (by kernel_rfl) (by kernel_rfl) (by kernel_rfl) (fun _ _ _ h=>h) (Or.inr ⟨by rfl,rfl⟩) hS ?_
        simp only [Act.put,iO,fT,ir];refine wpAnyH_take (i:=17) (oi:={ dst:=some 70,op:=_,type:=_,pos:=_,after:=_,guard:=_ }) (v:=undef) rfl (by kernel_rfl) (by kernel_rfl) (by kernel_rfl) (fun _ _ _ h=>h) (Or.inr ⟨by rfl,rfl⟩) hS ?_
        simp only [Act.put,iO,fT,ir];refine wpAnyH_take (i:=18) (oi:={ dst:=some 71,op:=_,type:=_,pos:=_,after:=_,guard:=_ }) (v:=undef) rfl (by kernel_rfl) (by kernel_rfl) (by kernel_rfl) (fun _ _ _ h=>h) (Or.inr ⟨by rfl,rfl⟩) hS ?_
        simp only [Act.put,iO,fT,ir];refine wpAnyH_take (i:=19) (oi:={ dst:=some 72,op:=_,type:=_,pos:=_,after:=_,guard:=_ }) (v:=.bool true) rfl (by kernel_rfl) (by kernel_rfl) (by kernel_rfl) (fun _ _ _ h=>h) (Or.inl ⟨by rfl,by rintro w9 ⟨s6,s4⟩;go_simp⟩) hS ?_
        simp only [Act.put,iO,fT,ir];refine wpAnyH_take (i:=20) (oi:={ dst:=some 73,op:=_,type:=_,pos:=_,after:=_,guard:=_ }) (v:=.bool true) rfl (by kernel_rfl) (by kernel_rfl) (by kernel_rfl) (fun _ _ _ h=>h) (Or.inl ⟨by rfl,by rintro w9 ⟨s6,s4⟩;go_simp⟩) hS ?_
        simp only [Act.put,iO,fT,ir];refine wpAnyH_take (i:=21) (oi:={ dst:=some 52,op:=_,type:=_,pos:=_,after:=_,guard:=_ }) (v:=.bool true) rfl (by kernel_rfl) (by kernel_rfl) (by kernel_rfl) (fun _ _ _ h=>h) (Or.inl ⟨by rfl,by rintro w9 ⟨s6,s4⟩;go_simp⟩) hS ?_
        simp only [Act.put,iO,fT,ir];refine (wpAnyH_done (by kernel_rfl) ?_) _
        go_wp2_with fail;refine (tB b own r vm _ Z2 (HR.out.below pX) HO.out).mono ?_
        rintro e Z3 ⟨v,rfl,hmo,zZ⟩;obtain⟨av,cv,hsh⟩:=hmo.shape;subst hsh;go_wp2_with fail;go_ret;rw[HN.out];exact cX.before pX ⟨_,rfl,eB.still (HR.out.below pX) zZ,hmo⟩
       | true =>
        have hns:¬ bS r.af own=none:=by intro e;rw[e] at htl;cases htl
        have tr:Hid (∀ W,W=W4.drew->Calls prog 264 #[.pointer (some ⟨b,0,none⟩)] W fun e w'=>e=.returned (.bool false)/\ai w w'/\w'.cell? ⟨w.heap.size,6,none⟩=some (.int .i64 m.pos)/\w'.cell? ⟨b,4,none⟩=some (.slice al r.log.length cl)/\w'.cell? ⟨b,6,none⟩=some (.int .i64 (r.aU:Int))):=ae fun W hW=>(km.out W4 hb4 z6 W hW).mono (by
         rintro e w' ⟨rfl,h1,h2,h3,h4⟩;exact⟨by rw[htl];rfl,h1,h2,h3,h4⟩)
        have Jr:=ae hns;clear htl hns;go_wp2_with fail;go_region_held3 (fun w'=>w'.cell? ⟨w.heap.size,6,none⟩=some (.int .i64 m.pos)/\w'.cell? ⟨b,4,none⟩=some (.slice al r.log.length cl)/\w'.cell? ⟨b,6,none⟩=some (.int .i64 (r.aU:Int))) (first|(simp[go_sem];done)|(simp[go_sem, *];done)|go_keep) (first|(go_at_call 264;refine (tr.out _ rfl).mono ?_;rintro e Z2 ⟨rfl,pX,t6,t4,t5⟩))
        by_cases hcm:m.pos<(r.aU:Int)
        ·have HN:Hid (r.gL own m=(r,r.c_ own)):=ae (by rw[HQ.out,if_neg (fun h=>vQ.out h.1),if_pos ⟨hlt,.inr hcm⟩])
         go_wp2_with fail;refine (tB b own r vm _ Z2 (HR.out.below pX) HO.out).mono ?_
         rintro e Z3 ⟨v,rfl,hmo,zZ⟩;obtain⟨av,cv,hsh⟩:=hmo.shape;subst hsh;go_wp2_with fail;go_ret;rw[HN.out];exact cX.before pX ⟨_,rfl,eB.still (HR.out.below pX) zZ,hmo⟩
        ·have HN:Hid (r.gL own m=(r,[])):=ae (by rw[HQ.out,if_neg (fun h=>vQ.out h.1),if_neg (by rintro⟨-,h1|h1⟩;exact Jr.out h1;exact hcm h1)])
         have hcd:decide (m.pos<(r.aU:Int))=false:=ee hcm;go_wp2_with fail;go_ret;rw[HN.out];exact cX.still HR.out pX
      ·have HN:Hid (r.gL own m=(r,[])):=ae (by rw[HQ.out,if_neg (fun h=>vQ.out h.1),if_neg (fun h=>hlt h.1)])
       have hld:decide (m.pos<(r.log.length:Int))=false:=ee hlt;go_wp2_with fail;go_quiet (fail);go_wp2_with fail;go_ret;rw[HN.out];exact cX.still HR.out (aV hb4 _)
   ·have HN:Hid (r.gL own m=(r,[])):=ae (by rw[HT.out,if_neg (fun h=>hone h.2.2.1)])
    have hbn:((m.log.length:Int) != 1)=true:=by simp;omega
    go_wp2_with fail;go_ret;rw[HN.out];exact cX.still HR.out hb2'
theorem Um (r:aR)(own:Int)(m:aK):r.take own m=if m.kind=1 then r.nX own m else if m.kind=2 then r.gL own m else if m.kind=3 then r.jf own m else if m.kind=7 then r.lp own m else if m.kind=13 then r.mC own m else (r,[]):=rfl
theorem Ul (b:Nat)(own:Int)(r:aR)(vm vl:Value)(m:aK)(mm ml:Value)(w:World)(h:dh w b own r vm vl)(ok:gH r)(h1:bd w mm m.af)(h2:bw w ml m.log)(hm1:m.af.length<=5)(hm2:m.log.length<=24)
  (kB:∀ y∈r.log++m.log,0<=y.client/\y.client<=3) (ph : -1000000<=r.ah/\r.ah<=1000000) :
  Calls prog 261 #[b,bL m mm ml] w fun e w'=>cX w w' b own vm vl e (r.take own m):=by
 have HT:=ae (Um r own m);have HK:∀ W,ai w W->dh W b own r vm vl/\bd W mm m.af/\bw W ml m.log:=fun W hb=>⟨h.below hb,aS h1 fun k _ hk=>hb.block k hk,aS h2 fun k _ hk=>hb.block k hk⟩;have HR:=ae h;have K1:Hid (∀ W,ai w W->Calls prog 265 #[b,.agg #[m.kind,m.src,m.dst,m.ah,m.ak,m.aO,m.pos,m.value,mm,ml]] W fun e w'=>cX W w' b own vm vl e (r.nX own m)):=ae fun W hb=>Ue b own r vm vl m mm ml W (HK W hb).1 ok (HK W hb).2.2 kB;have K2:Hid (∀ W,ai w W->Calls prog 266 #[b,.agg #[m.kind,m.src,m.dst,m.ah,m.ak,m.aO,m.pos,m.value,mm,ml]] W fun e w'=>cX W w' b own vm vl e (r.gL own m)):=ae fun W hb=>Ua b own r vm vl m mm ml W (HK W hb).1 ok (HK W hb).2.2 kB;have K3:Hid (∀ W,ai w W->Calls prog 267 #[b,.agg #[m.kind,m.src,m.dst,m.ah,m.ak,m.aO,m.pos,m.value,mm,ml]] W fun e w'=>cX W w' b own vm vl e (r.jf own m)):=ae fun W hb=>T9 b own r vm vl m mm ml W (HK W hb).1 ok;have K7:Hid (∀ W,ai w W->Calls prog 268 #[b,.agg #[m.kind,m.src,m.dst,m.ah,m.ak,m.aO,m.pos,m.value,mm,ml]] W fun e w'=>cX W w' b own vm vl e (r.lp own m)):=ae fun W hb=>Uf b own r vm vl m mm ml W (HK W hb).1 ok ph;have Jy:Hid (∀ W,ai w W->Calls prog 269 #[b,.agg #[m.kind,m.src,m.dst,m.ah,m.ak,m.aO,m.pos,m.value,mm,ml]] W fun e w'=>cX W w' b own vm vl e (r.mC own m)):=ae fun W hb=>Ub b own r vm vl m mm ml W (HK W hb).1 (HK W hb).2.1 (HK W hb).2.2 hm1 hm2;clear h ok h1 h2 kB HK;unfold bL;go_enter func261,ntmps261;go_upto_region 1 with fail
 obtain⟨X,hX,hbX,cS⟩:=dk w m mm ml;rw[hX];clear hX;have g0:=aj cS 0;have g1:=aj cS 1;have g2:=aj cS 2;have g3:=aj cS 3;have g4:=aj cS 4;have g5:=aj cS 5;have g6:=aj cS 6;have g7:=aj cS 7;have g8:=aj cS 8;have g9:=aj cS 9;cases t1:(m.kind == 1) with
 | true =>
  have P1:Hid (m.kind=1):=ae (by simpa using t1)
  have HN:Hid (r.take own m=r.nX own m):=ae (by rw[HT.out,if_pos P1.out])
  go_wp2_with fail;refine (K1.out _ hbX).mono ?_
  rintro e Z ⟨v,rfl,hto,hmo⟩;obtain⟨av,cv,hsh⟩:=hmo.shape;subst hsh;generalize hpl:(r.nX own m).2.length=pl at *;go_wp2_with fail;go_ret;rw[HN.out];exact cX.before hbX ⟨_,rfl,hto,hmo⟩
 | false =>
  have N1:Hid (¬ m.kind=1):=ae (by simpa using t1)
  cases t2:(m.kind == 2) with
  | true =>
   have P2:Hid (m.kind=2):=ae (by simpa using t2)
   have HN:Hid (r.take own m=r.gL own m):=ae (by rw[HT.out,if_neg N1.out,if_pos P2.out])
   go_wp2_with fail;refine (K2.out _ hbX).mono ?_
   rintro e Z ⟨v,rfl,hto,hmo⟩;obtain⟨av,cv,hsh⟩:=hmo.shape;subst hsh;generalize hpl:(r.gL own m).2.length=pl at *;go_wp2_with fail;go_ret;rw[HN.out];exact cX.before hbX ⟨_,rfl,hto,hmo⟩
  | false =>
   have N2:Hid (¬ m.kind=2):=ae (by simpa using t2)
   cases t3:(m.kind == 3) with
   | true =>
    have P3:Hid (m.kind=3):=ae (by simpa using t3)
    have HN:Hid (r.take own m=r.jf own m):=ae (by rw[HT.out,if_neg N1.out,if_neg N2.out,if_pos P3.out])
    go_wp2_with fail;refine (K3.out _ hbX).mono ?_
    rintro e Z ⟨v,rfl,hto,hmo⟩;obtain⟨av,cv,hsh⟩:=hmo.shape;subst hsh;generalize hpl:(r.jf own m).2.length=pl at *;go_wp2_with fail;go_ret;rw[HN.out];exact cX.before hbX ⟨_,rfl,hto,hmo⟩
   | false =>
    have N3:Hid (¬ m.kind=3):=ae (by simpa using t3)
    cases t7:(m.kind == 7) with
    | true =>
     have P7:Hid (m.kind=7):=ae (by simpa using t7)
     have HN:Hid (r.take own m=r.lp own m):=ae (by rw[HT.out,if_neg N1.out,if_neg N2.out,if_neg N3.out,if_pos P7.out])
     go_wp2_with fail;refine (K7.out _ hbX).mono ?_
     rintro e Z ⟨v,rfl,hto,hmo⟩;obtain⟨av,cv,hsh⟩:=hmo.shape;subst hsh;generalize hpl:(r.lp own m).2.length=pl at *;go_wp2_with fail;go_ret;rw[HN.out];exact cX.before hbX ⟨_,rfl,hto,hmo⟩
    | false =>
     have N7:Hid (¬ m.kind=7):=ae (by simpa using t7)
     cases t13:(m.kind == 13) with
     | true =>
      have JF:Hid (m.kind=13):=ae (by simpa using t13)
      have HN:Hid (r.take own m=r.mC own m):=ae (by rw[HT.out,if_neg N1.out,if_neg N2.out,if_neg N3.out,if_neg N7.out,if_pos JF.out])
      go_wp2_with fail;refine (Jy.out _ hbX).mono ?_
      rintro e Z ⟨v,rfl,hto,hmo⟩;obtain⟨av,cv,hsh⟩:=hmo.shape;subst hsh;generalize hpl:(r.mC own m).2.length=pl at *;go_wp2_with fail;go_ret;rw[HN.out];exact cX.before hbX ⟨_,rfl,hto,hmo⟩
     | false =>
      have JA:Hid (¬ m.kind=13):=ae (by simpa using t13)
      have HN:Hid (r.take own m=(r,[])):=ae (by rw[HT.out,if_neg N1.out,if_neg N2.out,if_neg N3.out,if_neg N7.out,if_neg JA.out])
      go_wp2_with fail;go_ret;rw[HN.out];exact cX.still HR.out hbX
theorem Ut (b:Nat)(own:Int)(r:aR)(vm vl:Value)(w:World)(h:dh w b own r vm vl)(ok:gH r)(hlv:r.live own=false) :
  Calls prog 262 #[b] w fun e w'=>∃ v,e=.returned v/\a_ w' w.heap.size v []/\ai w w':=by
 have HL:Hid (∀ W,ai w W->Calls prog 263 #[b] W fun e w'=>e=.returned (.bool false)/\∃ q,w'=W.drewN q):=ae fun W hb=>by rw[<- hlv];exact sL b own r vm vl W (h.below hb) ok
 clear h ok hlv;go_enter func262,ntmps262;go_wp2_with fail;have hb:=(ax w.heap.size w).alloc (aG _) (.cells #[b] 129);refine (HL.out _ hb).mono ?_
 rintro e W ⟨rfl,q,rfl⟩;go_wp2_with fail;go_ret;exact⟨_,rfl,a_.nil _ _,aV hb _⟩
theorem Uu (b:Nat)(own:Int)(r:aR)(vm vl:Value)(w:World)(h:dh w b own r vm vl)(ok:gH r)(hlv:r.live own=true)(hnx:bS r.af own=none) :
  Calls prog 262 #[b] w fun e w'=>∃ v,e=.returned v/\a_ w' w.heap.size v (r.c_ own)/\ai w w':=by
 have HL:Hid (∀ W,ai w W->Calls prog 263 #[b] W fun e w'=>e=.returned (.bool true)/\∃ q,w'=W.drewN q):=ae fun W hb=>by rw[<- hlv];exact sL b own r vm vl W (h.below hb) ok
 have HB:Hid (∀ W,ai w W->Calls prog 270 #[b] W fun e w'=>e=.returned (.tuple #[(),.bool false])/\ai W w'):=ae fun W hb=>by
  have:=tI b own r vm vl W (h.below hb) ok;rw[hnx] at this;exact this
 have HA:Hid (∀ W,ai w W->Calls prog 271 #[b] W fun e w'=>∃ v,e=.returned v/\a_ w' W.heap.size v (r.c_ own)/\ai W w'):=ae fun W hb=>tB b own r vm vl W (h.below hb) ok;clear h ok hlv hnx;go_enter func262,ntmps262;go_wp2_with fail;obtain⟨X1,hX1,hb1,hs1,c1, -, -, -, -⟩:=iI (ax _ w) (.pointer (some b)) 129;rw[hX1];clear hX1;refine (HL.out _ hb1).mono ?_
 rintro e W ⟨rfl,q,rfl⟩;have hb2:=aV hb1 q;have c2:(X1.drewN q).cell? (w.heap.size,0)=some (.pointer (some b)):=c1;have hs2:(X1.drewN q).heap.size=w.heap.size+1:=hs1;generalize X1.drewN q=X2 at *;clear c1 hb1 hs1;go_wp2_with fail;refine (HB.out _ hb2).mono ?_
 rintro e X3 ⟨rfl,hb3⟩;have kz:=hb2.trans (hb3.mono hb2.size);have c3:=aF hb3 c2;have hb4:∀ o,ai w (X3.alloc o):=fun o=>kz.alloc kz.size o;have c4:∀ o,(X3.alloc o).cell? (w.heap.size,0)=some (.pointer (some b)):=fun o=>aF ((ax _ X3).alloc (aG _) o) c3;clear c2 hs2;go_wp2_with fail;refine (HA.out _ (hb4 _)).mono ?_
 rintro e X5 ⟨v,rfl,hmo,hb5⟩;obtain⟨av,cv,hsh⟩:=hmo.shape;subst hsh;generalize hpl:(r.c_ own).length=pl at *;have hbf:=(hb4 (.cells #[()] 3)).trans (hb5.mono (hb4 _).size);go_wp2_with fail;go_ret;exact⟨_,rfl,hmo.base (hb4 _).size,hbf⟩
theorem Uv (b:Nat)(own:Int)(r:aR)(vm vl:Value)(w:World)(h:dh w b own r vm vl)(ok:gH r) :
  Calls prog 262 #[b] w fun e w'=>∃ v,e=.returned v/\a_ w' w.heap.size v (r.tick own)/\ai w w':=by
 have HT:r.tick own=if r.live own then (match bS r.af own with|none=>r.c_ own|some nx=>(fc r.aU r.log.length).map (r.forward own nx)) else []:=rfl
 cases hlv:r.live own with
 | true =>
  cases hnx:bS r.af own with
  | some nx =>
   rw[HT,hlv,hnx];exact ei.1 (Uw 6 (ae (by omega)) b own r vm vl w h ok hlv nx hnx)
  | none =>
   rw[HT,hlv,hnx];exact Uu b own r vm vl w h ok hlv hnx
 | false =>
  rw[HT,hlv];exact Ut b own r vm vl w h ok hlv
end Go.Proofs.YtgieeeeeiggoeaaGreat
