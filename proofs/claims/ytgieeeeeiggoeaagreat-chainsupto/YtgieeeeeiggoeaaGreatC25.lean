import Derived.Test.YtgieeeeeiggoeaaGreatC24
set_option maxRecDepth 100000
set_option maxHeartbeats 1000000
namespace Go.Proofs.YtgieeeeeiggoeaaGreat
open Go.RowKit Go.Shelf
def Rep.takeRequest (r:Rep)(own:Int)(m:Msg):Rep × List Msg:=if m.log.length=1∧r.live own then r.asked own (m.log.headD Ent.zero) else (r,[])
theorem asked_headed (r:Rep)(own:Int)(e:Ent):r.asked own e=if r.mems.headD 0≠own then (r,[{ kind:=1,src:=own,dst:=r.mems.headD 0,log:=[e] }]) else r.headed own e:=rfl
theorem takeRequest_any (b:Nat)(own:Int)(r:Rep)(vm vl:Value)(m:Msg)(mm ml:Value)(w:World)(h:RepAt w b own r vm vl)(ok:RepOK r)(h2:LogOwn w ml m.log)(hcli:∀ y∈r.log++m.log,0≤y.client∧y.client≤3) :
  Calls Tryz.prog 265 #[.pointer (some ⟨b,0,none⟩),mval m mm ml] w fun e w'=>RepOut w w' b own vm vl e (r.takeRequest own m):=by
 have HT:Hid (r.takeRequest own m=if m.log.length=1∧r.live own then r.asked own (m.log.headD Ent.zero) else (r,[])):=hideA rfl
 have hbl:b<w.heap.size:=(Array.getElem?_eq_some_iff.1 h.blk).1
 obtain⟨al,cl,rfl⟩:=osh h2
 have HR:=hideA h;have HO:=hideA ok;have HC:=hideA hcli;have H2:=hideA h2;have HLi:Hid (∀ W,Below w.heap.size w W→Calls Tryz.prog 263 #[.pointer (some ⟨b,0,none⟩)] W fun e w'=>e=.returned (.bool (r.live own))∧∃ q,w'=W.drewN q):=hideA fun W hb=>isLive_any b own r vm vl W (h.below hb) ok
 clear h ok hcli h2;unfold mval
 go_enter Tryz.func265,Tryz.ntmps265
 go_upto_region 1 with fail
 obtain⟨X,hX,hbX,hBX⟩:=msg_box w m mm (.slice al m.log.length cl)
 rw[hX];clear hX;have g9:=coh hBX 9
 have HBX:=hideA hBX;clear hBX;by_cases h1:m.log.length=1
 ·obtain⟨x,hx⟩:∃ x,m.log=[x]:=List.length_eq_one_iff.1 h1
  have Hx:=hideA hx;rw[h1] at g9
  have Hl1:=hideA h1;clear h1 hx;go_wp2_with fail;refine (HLi.out _ hbX).mono ?_
  rintro e Y ⟨rfl,q,rfl⟩;have hbY:=below_drewN hbX q
  have HBY:Hid ((X.drewN q).heap[w.heap.size]?=some (.cells #[.int .i64 m.kind,.int .i64 m.src,.int .i64 m.dst,.int .i64 m.epoch,.int .i64 m.ballot,.int .i64 m.vote,.int .i64 m.pos,.int .i64 m.value,mm,.slice al m.log.length cl] 134)):=HBX
  generalize X.drewN q=Y at *
  clear g9 HBX hbX;cases hlv:r.live own with
  | false =>
   have HN:Hid (r.takeRequest own m=(r,[])):=hideA (by rw[HT.out,if_neg];rintro⟨-,h2⟩;rw[hlv] at h2;cases h2)
   clear hlv;go_wp2_with fail;go_ret;rw[HN.out];exact RepOut.still HR.out hbY
  | true =>
   have HA:Hid (r.takeRequest own m=if r.mems.headD 0≠own then (r,[{ kind:=1,src:=own,dst:=r.mems.headD 0,log:=[x] }]) else r.headed own x):=hideA (by
    rw[HT.out,if_pos ⟨Hl1.out,hlv⟩,Hx.out,asked_headed];rfl)
   have hmem:own∈r.mems:=by
    have:=hlv
    unfold Rep.live at this
    simp at this
    exact this.1
   have hpos:0<r.mems.length:=List.length_pos_of_mem hmem
   clear hlv hmem;have RY:=hideA (HR.out.below hbY)
   obtain⟨gm,cm,hvm, -, -⟩:=HR.out.hm.form hpos
   subst hvm;have c3:Y.cell? ⟨b,3,none⟩=some (.slice (some ⟨gm,0,none⟩) r.mems.length cm):=coh RY.out.blk 3
   have c0:Y.cell? ⟨b,0,none⟩=some (.int .i64 own):=coh RY.out.blk 0
   have m0:Y.cell? ⟨gm,0,none⟩=some (.int .i64 (r.mems.headD 0)):=by
    obtain⟨a',c',e',hc'⟩:=IntsAt.of_owns RY.out.hm
    cases e'
    obtain⟨b1,o1,e1,hc1⟩:=hc' 0 hpos
    cases e1
    rw[hc1];cases hmm:r.mems with
    | nil=>rw[hmm] at hpos;simp at hpos
    | cons y t=>rfl
   have g9:Y.cell? ⟨w.heap.size,9,none⟩=some (.slice al 1 cl):=by have:=coh HBY.out 9;rw[Hl1.out] at this;exact this
   have hpos':(0:Int)<(r.mems.length:Int):=by omega
   have HLo:Hid (LogOwn Y (.slice al 1 cl) [x]):=hideA (by
    have:=okp (w':=Y) H2.out fun k _ hk=>hbY.block k hk
    rw[Hx.out] at this
    exact this)
   generalize r.mems.headD 0=hd at *
   cases hne:(hd != own) with
   | true =>
    have HN:Hid (r.takeRequest own m=(r,[{ kind:=1,src:=own,dst:=hd,log:=[x] }])):=hideA (by rw[HA.out,if_pos (by simpa using hne)])
    go_wp2_with fail;go_region_held3 (fun w'=>w'.cell? ⟨b,0,none⟩=some (.int .i64 own)∧w'.cell? ⟨w.heap.size,9,none⟩=some (.slice al 1 cl)) (first|(simp[go_sem];done)|(simp[go_sem, *];done)|go_keep) (fail)
    all_goals
     go_wp2_with fail;go_ret;rw[HN.out];exact⟨_,rfl,RepTo.still HR.out ((hbY.alloc hbY.size _).drew),MsgsOwn.one { kind:=1,src:=own,dst:=hd,log:=[x] } (.slice none 0 0) (.slice al 1 cl) (hnw _ _) hbY.size (IntOwn.nil _) (HLo.out.alloc _)⟩
   | false =>
    have HN:Hid (r.takeRequest own m=r.headed own x):=hideA (by rw[HA.out,if_neg (by simpa using hne)])
    obtain⟨gl,cl',hvl, -, -⟩:=HLo.out.form (by simp)
    cases hvl
    have hrow:=RowIs.of_owns HLo.out
    obtain⟨cur,fz, -,hcc⟩:=hrow;obtain⟨e0,e1,e2,e3,e4⟩:=hcc 0 (by simp)
    have k0:Y.cell? ⟨gl,0,none⟩=some (.int .i64 x.client):=by simpa using e0
    have k1:Y.cell? ⟨gl,1,none⟩=some (.int .i64 x.seq):=by simpa using e1
    have k2:Y.cell? ⟨gl,2,none⟩=some (.int .i64 x.kind):=by simpa using e2
    have k3:Y.cell? ⟨gl,3,none⟩=some (.int .i64 x.key):=by simpa using e3
    have k4:Y.cell? ⟨gl,4,none⟩=some (.int .i64 x.value):=by simpa using e4
    clear hcc e0 e1 e2 e3 e4;have hh:=takeAsHead_any b own r _ vl x Y RY.out HO.out (by have:=HC.out;rw[Hx.out] at this;exact this)
    unfold entV at hh
    go_wp2_with fail;refine hh.mono ?_
    rintro e Z ⟨v,rfl,hto,hmo⟩;obtain⟨av,cv,hsh⟩:=hmo.shape;subst hsh;generalize hpl:(r.headed own x).2.length=pl at *
    go_wp2_with fail;go_ret;rw[HN.out];exact RepOut.before hbY ⟨_,rfl,hto,hmo⟩
 ·have HN:Hid (r.takeRequest own m=(r,[])):=hideA (by rw[HT.out,if_neg (fun h=>h1 h.1)])
  have hbn:((m.log.length:Int) != 1)=true:=by simp;omega
  go_wp2_with fail;go_ret;rw[HN.out];exact RepOut.still HR.out hbX
theorem takeForward_any (b:Nat)(own:Int)(r:Rep)(vm vl:Value)(m:Msg)(mm ml:Value)(w:World)(h:RepAt w b own r vm vl)(ok:RepOK r)(h2:LogOwn w ml m.log)(hcli:∀ y∈r.log++m.log,0≤y.client∧y.client≤3) :
  Calls Tryz.prog 266 #[.pointer (some ⟨b,0,none⟩),mval m mm ml] w fun e w'=>RepOut w w' b own vm vl e (r.takeForward own m):=by
 have HT:Hid (r.takeForward own m=if r.live own∧prevOf r.mems own=some m.src∧m.log.length=1∧m.epoch=r.epoch then
  (if m.pos=r.log.length∧r.log.length<24 then r.put own (m.log.headD Ent.zero)
  else if m.pos<r.log.length∧(nextOf r.mems own=none∨m.pos<r.commit) then (r,r.acks own)
  else (r,[])) else (r,[])):=hideA rfl
 have mixed:Tryz.prog.follows Departure.mixedOrders=true:=by kernel_rfl
 have hbl:b<w.heap.size:=(Array.getElem?_eq_some_iff.1 h.blk).1
 have hl24:=ok.l
 obtain⟨am,cm,rfl⟩:=osh h2
 obtain⟨al,cl,rfl⟩:=osh h.hl
 have HR:=hideA h;have HO:=hideA ok;have HC:=hideA hcli;have H2:=hideA h2;have HB1:Hid (∀ W,Below w.heap.size w W→Calls Tryz.prog 275 #[.pointer (some ⟨b,0,none⟩)] W fun e w'=>e=.returned (.tuple #[.int .i64 ((prevOf r.mems own).getD 0),.bool (prevOf r.mems own).isSome])∧Below W.heap.size W w'):=hideA fun W hb=>ahead_any b own r vm _ W (h.below hb) ok
 have HFu:Hid (∀ W,Below w.heap.size w W→Calls Tryz.prog 277 #[.pointer (some ⟨b,0,none⟩)] W fun e w'=>e=.returned (.bool (decide ((24:Int)≤(r.log.length:Int))))∧w'=W):=hideA fun W hb=>isFull_any b own r vm _ W (HR.out.below hb)
 have HTl:Hid (∀ Y,Below w.heap.size w Y→Y.cell? ⟨w.heap.size,6,none⟩=some (.int .i64 m.pos)→∀ W,W=Y.drew→Calls Tryz.prog 264 #[.pointer (some ⟨b,0,none⟩)] W fun e w'=>e=.returned (.bool (!(nextOf r.mems own).isSome))∧Below w.heap.size w w'∧w'.cell? ⟨w.heap.size,6,none⟩=some (.int .i64 m.pos)∧w'.cell? ⟨b,4,none⟩=some (.slice al r.log.length cl)∧w'.cell? ⟨b,6,none⟩=some (.int .i64 (r.commit:Int))):=hideA (by
  rintro Y hbY h6 W rfl;have hbYd:Below w.heap.size w Y.drew:=hbY.drew
  refine (isTail_any b own r vm _ Y.drew (HR.out.below hbYd) HO.out).mono ?_
  rintro e w' ⟨rfl,hb'⟩;have hb:Below w.heap.size w w':=hbYd.trans (hb'.mono hbYd.size)
  exact⟨rfl,hb,cell_later hb' h6,coh (HR.out.below hb).blk 4,coh (HR.out.below hb).blk 6⟩)
 have HOF:Hid (∀ W,Below w.heap.size w W→Calls Tryz.prog 276 #[.pointer (some ⟨b,0,none⟩),.agg #[.int .i64 m.kind,.int .i64 m.src,.int .i64 m.dst,.int .i64 m.epoch,.int .i64 m.ballot,.int .i64 m.vote,.int .i64 m.pos,.int .i64 m.value,mm,.slice am m.log.length cm]] W fun e w'=>e=.returned (.bool (r.live own && decide (m.epoch=r.epoch)))∧Below W.heap.size W w'):=hideA fun W hb=>isOfNow_any b own r vm _ m mm _ W (h.below hb) ok
 clear h ok hcli h2;unfold mval
 go_enter Tryz.func266,Tryz.ntmps266
 go_wp2_with fail;obtain⟨X,hX,hbX,hBX⟩:=msg_box w m mm (.slice am m.log.length cm)
 rw[hX];clear hX;refine (HB1.out _ hbX).mono ?_
 rintro e W2 ⟨rfl,hb2⟩;have hb2':=hbX.trans (hb2.mono hbX.size)
 have hB2:=hideA ((hb2.block _ (Array.getElem?_eq_some_iff.1 hBX).1).trans hBX)
 clear hBX hb2 hbX;cases hnx:prevOf r.mems own with
 | none =>
  have HN:Hid (r.takeForward own m=(r,[])):=hideA (by rw[HT.out,if_neg];rintro⟨-,h2, -⟩;rw[hnx] at h2;cases h2)
  go_wp2_with fail;go_ret;rw[HN.out];exact RepOut.still HR.out hb2'
 | some nx =>
  have Hnx:=hideA hnx;clear hnx;have g1:=coh hB2.out 1
  cases hsd:(m.src != nx) with
  | true =>
   have HN:Hid (r.takeForward own m=(r,[])):=hideA (by rw[HT.out,if_neg];rintro⟨-,h2, -⟩;rw[Hnx.out] at h2;injection h2 with h2;rw[h2] at hsd;simp at hsd)
   go_wp2_with fail;go_ret;rw[HN.out];exact RepOut.still HR.out hb2'
  | false =>
   have Hsrc:Hid (m.src=nx):=hideA (by simpa using hsd)
   have g9:=coh hB2.out 9
   by_cases hone:m.log.length=1
   ·obtain⟨x,hx⟩:∃ x,m.log=[x]:=List.length_eq_one_iff.1 hone
    have Hx:=hideA hx;have Hone:=hideA hone;rw[hone] at hB2 HOF
    clear hone hx g9;have g0:=coh hB2.out 0
    have g2:=coh hB2.out 2
    have g3:=coh hB2.out 3
    have g4:=coh hB2.out 4
    have g5:=coh hB2.out 5
    have g6:=coh hB2.out 6
    have g7:=coh hB2.out 7
    have g8:=coh hB2.out 8
    have g9:=coh hB2.out 9
    go_wp2_with fail;refine (HOF.out _ hb2').mono ?_
    rintro e W3 ⟨rfl,hb3⟩;have hb3':=hb2'.trans (hb3.mono hb2'.size)
    have hB3:=hideA ((hb3.block _ (Array.getElem?_eq_some_iff.1 hB2.out).1).trans hB2.out)
    clear g0 g1 g2 g3 g4 g5 g6 g7 g8 g9 hb3 hb2' hB2 hsd;cases hnow:(r.live own && decide (m.epoch=r.epoch)) with
    | false =>
     have HN:Hid (r.takeForward own m=(r,[])):=hideA (by rw[HT.out,if_neg];rintro⟨h1, -, -,h2⟩;rw[h1,h2] at hnow;simp at hnow)
     clear hnow;go_wp2_with fail;go_ret;rw[HN.out];exact RepOut.still HR.out hb3'
    | true =>
     have Hno:Hid (r.live own=true∧m.epoch=r.epoch):=hideA (by simpa using hnow)
     clear hnow;have HQ:Hid (r.takeForward own m=if m.pos=r.log.length∧r.log.length<24 then r.put own x
      else if m.pos<r.log.length∧(nextOf r.mems own=none∨m.pos<r.commit) then (r,r.acks own)
      else (r,[])):=hideA (by rw[HT.out,if_pos ⟨Hno.out.1,by rw[Hnx.out,Hsrc.out],Hone.out,Hno.out.2⟩,Hx.out];rfl)
     have R3:=hideA (HR.out.below hb3')
     have z6:=coh hB3.out 6
     have z4:W3.cell? ⟨b,4,none⟩=some (.slice al r.log.length cl):=coh R3.out.blk 4
     clear HT HB1 HOF;cases heq:(m.pos == (r.log.length:Int)) with
     | true =>
      have Heq:Hid (m.pos=(r.log.length:Int)):=hideA (by simpa using heq)
      by_cases hfu:(24:Int)≤(r.log.length:Int)
      ·have HN:Hid (r.takeForward own m=(r,[])):=hideA (by rw[HQ.out,if_neg (by omega),if_neg (by have:=Heq.out;omega)])
       have hfd:decide ((24:Int)≤(r.log.length:Int))=true:=decide_eq_true hfu
       have hnl:decide (m.pos<(r.log.length:Int))=false:=decide_eq_false (by have:=Heq.out;omega)
       rw[hfd] at HFu
       go_wp2_with fail;go_quiet ((go_at_call 277;refine (HFu.out _ (below_drewN hb3' _)).mono ?_;rintro e w9 ⟨rfl,rfl⟩;exact⟨rfl,_,rfl⟩))
       have hb4:=below_drewN hb3' nq
       have HB4:Hid ((W3.drewN nq).heap[w.heap.size]?=some (.cells #[.int .i64 m.kind,.int .i64 m.src,.int .i64 m.dst,.int .i64 m.epoch,.int .i64 m.ballot,.int .i64 m.vote,.int .i64 m.pos,.int .i64 m.value,mm,.slice am 1 cm] 134)):=hB3
       generalize W3.drewN nq=W4 at *
       clear z6 z4 heq;have z6:=coh HB4.out 6
       have z4:W4.cell? ⟨b,4,none⟩=some (.slice al r.log.length cl):=coh (HR.out.below hb4).blk 4
       go_wp2_with fail;go_quiet (fail)
       go_wp2_with fail;go_ret;rw[HN.out];exact RepOut.still HR.out (below_drewN hb4 _)
      ·have HN:Hid (r.takeForward own m=r.put own x):=hideA (by rw[HQ.out,if_pos ⟨Heq.out,by omega⟩])
       have hfd:decide ((24:Int)≤(r.log.length:Int))=false:=decide_eq_false hfu
       rw[hfd] at HFu
       go_wp2_with fail;go_quiet ((go_at_call 277;refine (HFu.out _ (below_drewN hb3' _)).mono ?_;rintro e w9 ⟨rfl,rfl⟩;exact⟨rfl,_,rfl⟩))
       have hb4:=below_drewN hb3' nq
       have HB4:Hid ((W3.drewN nq).heap[w.heap.size]?=some (.cells #[.int .i64 m.kind,.int .i64 m.src,.int .i64 m.dst,.int .i64 m.epoch,.int .i64 m.ballot,.int .i64 m.vote,.int .i64 m.pos,.int .i64 m.value,mm,.slice am 1 cm] 134)):=hB3
       generalize W3.drewN nq=W4 at *
       clear z6 z4 heq;have g9:=coh HB4.out 9
       have HLo:Hid (LogOwn W4 (.slice am 1 cm) [x]):=hideA (by
        have:=okp (w':=W4) H2.out fun k _ hk=>hb4.block k hk
        rw[Hx.out] at this
        exact this)
       obtain⟨gl,cl',hvl, -, -⟩:=HLo.out.form (by simp)
       cases hvl
       obtain⟨cur,fz, -,hcc⟩:=RowIs.of_owns HLo.out
       obtain⟨e0,e1,e2,e3,e4⟩:=hcc 0 (by simp)
       have k0:W4.cell? ⟨gl,0,none⟩=some (.int .i64 x.client):=by simpa using e0
       have k1:W4.cell? ⟨gl,1,none⟩=some (.int .i64 x.seq):=by simpa using e1
       have k2:W4.cell? ⟨gl,2,none⟩=some (.int .i64 x.kind):=by simpa using e2
       have k3:W4.cell? ⟨gl,3,none⟩=some (.int .i64 x.key):=by simpa using e3
       have k4:W4.cell? ⟨gl,4,none⟩=some (.int .i64 x.value):=by simpa using e4
       clear hcc e0 e1 e2 e3 e4;have hput:=put_any b own r vm _ x W4 (HR.out.below hb4) HO.out (by omega) (by have:=HC.out;rw[Hx.out] at this;exact this)
       unfold entV at hput
       go_wp2_with fail;refine hput.mono ?_
       rintro e Z2 ⟨v,rfl,hto,hmo⟩;obtain⟨av,cv,hsh⟩:=hmo.shape;subst hsh;generalize hpl:(r.put own x).2.length=pl at *
       go_wp2_with fail;go_ret;rw[HN.out];exact RepOut.before hb4 ⟨_,rfl,hto,hmo⟩
     | false =>
      have Hneq:Hid (¬ m.pos=(r.log.length:Int)):=hideA (by simpa using heq)
      go_wp2_with fail;go_quiet (fail)
      have hb4:=below_drewN hb3' nq
      have HB4:Hid ((W3.drewN nq).heap[w.heap.size]?=some (.cells #[.int .i64 m.kind,.int .i64 m.src,.int .i64 m.dst,.int .i64 m.epoch,.int .i64 m.ballot,.int .i64 m.vote,.int .i64 m.pos,.int .i64 m.value,mm,.slice am 1 cm] 134)):=hB3
      generalize W3.drewN nq=W4 at *
      clear z6 z4 heq;have z6:=coh HB4.out 6
      have R4:=hideA (HR.out.below hb4)
      have z4:W4.cell? ⟨b,4,none⟩=some (.slice al r.log.length cl):=coh R4.out.blk 4
      have z5:W4.cell? ⟨b,6,none⟩=some (.int .i64 (r.commit:Int)):=coh R4.out.blk 6
      by_cases hlt:m.pos<(r.log.length:Int)
      ·have hlt':decide (m.pos<(r.log.length:Int))=true:=decide_eq_true hlt
       cases htl:(nextOf r.mems own).isSome with
       | false =>
        have HN:Hid (r.takeForward own m=(r,r.acks own)):=hideA (by rw[HQ.out,if_neg (fun h=>Hneq.out h.1),if_pos ⟨hlt,.inl (by simpa using htl)⟩])
        have HTa:Hid (∀ W,W=W4.drew→Calls Tryz.prog 264 #[.pointer (some ⟨b,0,none⟩)] W fun e w'=>e=.returned (.bool true)∧Below w.heap.size w w'∧w'.cell? ⟨w.heap.size,6,none⟩=some (.int .i64 m.pos)∧w'.cell? ⟨b,4,none⟩=some (.slice al r.log.length cl)):=hideA fun W hW=>(HTl.out W4 hb4 z6 W hW).mono (by
         rintro e w' ⟨rfl,h1,h2,h3, -⟩;exact⟨by rw[htl];rfl,h1,h2,h3⟩)
        clear htl;go_wp2_with fail;refine wp_region_held_drew (S:=fun w'=>w'.cell? ⟨w.heap.size,6,none⟩=some (.int .i64 m.pos)∧w'.cell? ⟨b,4,none⟩=some (.slice al r.log.length cl)) mixed ⟨z6,z4⟩ (fun hS => ?_)
        refine wpAnyH_take (i:=0) (oi:={ dst:=some 53,op:=_,type:=_,pos:=_,after:=_,guard:=_ }) (v:=.pointer (some ⟨w.heap.size,6,none⟩)) rfl (by kernel_rfl) (by kernel_rfl) (by kernel_rfl) (fun _ _ _ h=>h) (Or.inl ⟨by rfl,by rintro w9 ⟨s6,s4⟩;go_simp⟩) hS ?_
        simp only [Act.put,List.setIfInBounds_toArray,List.set_cons_zero,List.set_cons_succ]
        refine wpAnyH_take (i:=1) (oi:={ dst:=some 54,op:=_,type:=_,pos:=_,after:=_,guard:=_ }) (v:=.int .i64 m.pos) rfl (by kernel_rfl) (by kernel_rfl) (by kernel_rfl) (fun _ _ _ h=>h) (Or.inl ⟨by rfl,by rintro w9 ⟨s6,s4⟩;go_simp⟩) hS ?_
        simp only [Act.put,List.setIfInBounds_toArray,List.set_cons_zero,List.set_cons_succ]
        refine wpAnyH_take (i:=2) (oi:={ dst:=some 55,op:=_,type:=_,pos:=_,after:=_,guard:=_ }) (v:=.pointer (some ⟨b,0,none⟩)) rfl (by kernel_rfl) (by kernel_rfl) (by kernel_rfl) (fun _ _ _ h=>h) (Or.inl ⟨by rfl,by rintro w9 ⟨s6,s4⟩;go_simp⟩) hS ?_
        simp only [Act.put,List.setIfInBounds_toArray,List.set_cons_zero,List.set_cons_succ]
        refine wpAnyH_take (i:=3) (oi:={ dst:=some 56,op:=_,type:=_,pos:=_,after:=_,guard:=_ }) (v:=.pointer (some ⟨b,0,none⟩)) rfl (by kernel_rfl) (by kernel_rfl) (by kernel_rfl) (fun _ _ _ h=>h) (Or.inl ⟨by rfl,by rintro w9 ⟨s6,s4⟩;go_simp⟩) hS ?_
        simp only [Act.put,List.setIfInBounds_toArray,List.set_cons_zero,List.set_cons_succ]
        refine wpAnyH_take (i:=4) (oi:={ dst:=some 57,op:=_,type:=_,pos:=_,after:=_,guard:=_ }) (v:=.pointer (some ⟨b,4,none⟩)) rfl (by kernel_rfl) (by kernel_rfl) (by kernel_rfl) (fun _ _ _ h=>h) (Or.inl ⟨by rfl,by rintro w9 ⟨s6,s4⟩;go_simp⟩) hS ?_
        simp only [Act.put,List.setIfInBounds_toArray,List.set_cons_zero,List.set_cons_succ]
        refine wpAnyH_take (i:=5) (oi:={ dst:=some 58,op:=_,type:=_,pos:=_,after:=_,guard:=_ }) (v:=.slice al r.log.length cl) rfl (by kernel_rfl) (by kernel_rfl) (by kernel_rfl) (fun _ _ _ h=>h) (Or.inl ⟨by rfl,by rintro w9 ⟨s6,s4⟩;go_simp⟩) hS ?_
        simp only [Act.put,List.setIfInBounds_toArray,List.set_cons_zero,List.set_cons_succ]
        refine wpAnyH_take (i:=6) (oi:={ dst:=some 59,op:=_,type:=_,pos:=_,after:=_,guard:=_ }) (v:=.int .i64 (r.log.length:Int)) rfl (by kernel_rfl) (by kernel_rfl) (by kernel_rfl) (fun _ _ _ h=>h) (Or.inl ⟨by rfl,by rintro w9 ⟨s6,s4⟩;go_simp⟩) hS ?_
        simp only [Act.put,List.setIfInBounds_toArray,List.set_cons_zero,List.set_cons_succ]
        refine wpAnyH_take (i:=7) (oi:={ dst:=some 60,op:=_,type:=_,pos:=_,after:=_,guard:=_ }) (v:=.bool true) rfl (by kernel_rfl) (by kernel_rfl) (by kernel_rfl) (fun _ _ _ h=>h) (Or.inl ⟨by rfl,by rintro w9 ⟨s6,s4⟩;go_simp⟩) hS ?_
        simp only [Act.put,List.setIfInBounds_toArray,List.set_cons_zero,List.set_cons_succ]
        refine wpAnyH_take (i:=8) (oi:={ dst:=some 61,op:=_,type:=_,pos:=_,after:=_,guard:=_ }) (v:=.bool true) rfl (by kernel_rfl) (by kernel_rfl) (by kernel_rfl) (fun _ _ _ h=>h) (Or.inl ⟨by rfl,by rintro w9 ⟨s6,s4⟩;go_simp⟩) hS ?_
        simp only [Act.put,List.setIfInBounds_toArray,List.set_cons_zero,List.set_cons_succ]
        refine wpAnyH_take (i:=9) (oi:={ dst:=some 62,op:=_,type:=_,pos:=_,after:=_,guard:=_ }) (v:=.pointer (some ⟨b,0,none⟩)) rfl (by kernel_rfl) (by kernel_rfl) (by kernel_rfl) (fun _ _ _ h=>h) (Or.inl ⟨by rfl,by rintro w9 ⟨s6,s4⟩;go_simp⟩) hS ?_
        simp only [Act.put,List.setIfInBounds_toArray,List.set_cons_zero,List.set_cons_succ]
        refine wpAnyH_ready (rs:=[10]) (by kernel_rfl) (by simp) ?_
        refine AllReadyH.cons (i:=10) rfl (fun K hK => ?_) AllReadyH.nil
        go_simp;refine (HTa.out _ rfl).mono ?_
        rintro e Z2 ⟨rfl,hbZ2,t6,t4⟩;refine hK.out _ _ ⟨t6,t4⟩ (fun hS => ?_)
        clear hK;refine wpAnyH_take (i:=11) (oi:={ dst:=some 64,op:=_,type:=_,pos:=_,after:=_,guard:=_ }) (v:=.bool true) rfl (by kernel_rfl) (by kernel_rfl) (by kernel_rfl) (fun _ _ _ h=>h) (Or.inl ⟨by rfl,by rintro w9 ⟨s6,s4⟩;go_simp⟩) hS ?_
        simp only [Act.put,List.setIfInBounds_toArray,List.set_cons_zero,List.set_cons_succ]
        refine wpAnyH_take (i:=12) (oi:={ dst:=some 65,op:=_,type:=_,pos:=_,after:=_,guard:=_ }) (v:=undef) rfl (by kernel_rfl) (by kernel_rfl) (by kernel_rfl) (fun _ _ _ h=>h) (Or.inr ⟨by rfl,rfl⟩) hS ?_
        simp only [Act.put,List.setIfInBounds_toArray,List.set_cons_zero,List.set_cons_succ]
        refine wpAnyH_take (i:=13) (oi:={ dst:=some 66,op:=_,type:=_,pos:=_,after:=_,guard:=_ }) (v:=undef) rfl (by kernel_rfl) (by kernel_rfl) (by kernel_rfl) (fun _ _ _ h=>h) (Or.inr ⟨by rfl,rfl⟩) hS ?_
        simp only [Act.put,List.setIfInBounds_toArray,List.set_cons_zero,List.set_cons_succ]
        refine wpAnyH_take (i:=14) (oi:={ dst:=some 67,op:=_,type:=_,pos:=_,after:=_,guard:=_ }) (v:=undef) rfl (by kernel_rfl) (by kernel_rfl) (by kernel_rfl) (fun _ _ _ h=>h) (Or.inr ⟨by rfl,rfl⟩) hS ?_
        simp only [Act.put,List.setIfInBounds_toArray,List.set_cons_zero,List.set_cons_succ]
        refine wpAnyH_take (i:=15) (oi:={ dst:=some 68,op:=_,type:=_,pos:=_,after:=_,guard:=_ }) (v:=undef) rfl (by kernel_rfl) (by kernel_rfl) (by kernel_rfl) (fun _ _ _ h=>h) (Or.inr ⟨by rfl,rfl⟩) hS ?_
        simp only [Act.put,List.setIfInBounds_toArray,List.set_cons_zero,List.set_cons_succ]
        refine wpAnyH_take (i:=16) (oi:={ dst:=some 69,op:=_,type:=_,pos:=_,after:=_,guard:=_ }) (v:=undef) rfl (by kernel_rfl) (by kernel_rfl) (by kernel_rfl) (fun _ _ _ h=>h) (Or.inr ⟨by rfl,rfl⟩) hS ?_
        simp only [Act.put,List.setIfInBounds_toArray,List.set_cons_zero,List.set_cons_succ]
        refine wpAnyH_take (i:=17) (oi:={ dst:=some 70,op:=_,type:=_,pos:=_,after:=_,guard:=_ }) (v:=undef) rfl (by kernel_rfl) (by kernel_rfl) (by kernel_rfl) (fun _ _ _ h=>h) (Or.inr ⟨by rfl,rfl⟩) hS ?_
        simp only [Act.put,List.setIfInBounds_toArray,List.set_cons_zero,List.set_cons_succ]
        refine wpAnyH_take (i:=18) (oi:={ dst:=some 71,op:=_,type:=_,pos:=_,after:=_,guard:=_ }) (v:=undef) rfl (by kernel_rfl) (by kernel_rfl) (by kernel_rfl) (fun _ _ _ h=>h) (Or.inr ⟨by rfl,rfl⟩) hS ?_
        simp only [Act.put,List.setIfInBounds_toArray,List.set_cons_zero,List.set_cons_succ]
        refine wpAnyH_take (i:=19) (oi:={ dst:=some 72,op:=_,type:=_,pos:=_,after:=_,guard:=_ }) (v:=.bool true) rfl (by kernel_rfl) (by kernel_rfl) (by kernel_rfl) (fun _ _ _ h=>h) (Or.inl ⟨by rfl,by rintro w9 ⟨s6,s4⟩;go_simp⟩) hS ?_
        simp only [Act.put,List.setIfInBounds_toArray,List.set_cons_zero,List.set_cons_succ]
        refine wpAnyH_take (i:=20) (oi:={ dst:=some 73,op:=_,type:=_,pos:=_,after:=_,guard:=_ }) (v:=.bool true) rfl (by kernel_rfl) (by kernel_rfl) (by kernel_rfl) (fun _ _ _ h=>h) (Or.inl ⟨by rfl,by rintro w9 ⟨s6,s4⟩;go_simp⟩) hS ?_
        simp only [Act.put,List.setIfInBounds_toArray,List.set_cons_zero,List.set_cons_succ]
        refine wpAnyH_take (i:=21) (oi:={ dst:=some 52,op:=_,type:=_,pos:=_,after:=_,guard:=_ }) (v:=.bool true) rfl (by kernel_rfl) (by kernel_rfl) (by kernel_rfl) (fun _ _ _ h=>h) (Or.inl ⟨by rfl,by rintro w9 ⟨s6,s4⟩;go_simp⟩) hS ?_
        simp only [Act.put,List.setIfInBounds_toArray,List.set_cons_zero,List.set_cons_succ]
        refine (wpAnyH_done (by kernel_rfl) ?_) _
        go_wp2_with fail;refine (ackAhead_any b own r vm _ Z2 (HR.out.below hbZ2) HO.out).mono ?_
        rintro e Z3 ⟨v,rfl,hmo,hbZ3⟩;obtain⟨av,cv,hsh⟩:=hmo.shape;subst hsh;go_wp2_with fail;go_ret;rw[HN.out];exact RepOut.before hbZ2 ⟨_,rfl,RepTo.still (HR.out.below hbZ2) hbZ3,hmo⟩
       | true =>
        have hns:¬ nextOf r.mems own=none:=by intro e;rw[e] at htl;cases htl
        have HTa:Hid (∀ W,W=W4.drew→Calls Tryz.prog 264 #[.pointer (some ⟨b,0,none⟩)] W fun e w'=>e=.returned (.bool false)∧Below w.heap.size w w'∧w'.cell? ⟨w.heap.size,6,none⟩=some (.int .i64 m.pos)∧w'.cell? ⟨b,4,none⟩=some (.slice al r.log.length cl)∧w'.cell? ⟨b,6,none⟩=some (.int .i64 (r.commit:Int))):=hideA fun W hW=>(HTl.out W4 hb4 z6 W hW).mono (by
         rintro e w' ⟨rfl,h1,h2,h3,h4⟩;exact⟨by rw[htl];rfl,h1,h2,h3,h4⟩)
        have Hns:=hideA hns;clear htl hns;go_wp2_with fail;go_region_held3 (fun w'=>w'.cell? ⟨w.heap.size,6,none⟩=some (.int .i64 m.pos)∧w'.cell? ⟨b,4,none⟩=some (.slice al r.log.length cl)∧w'.cell? ⟨b,6,none⟩=some (.int .i64 (r.commit:Int))) (first|(simp[go_sem];done)|(simp[go_sem, *];done)|go_keep) (first|(go_at_call 264;refine (HTa.out _ rfl).mono ?_;rintro e Z2 ⟨rfl,hbZ2,t6,t4,t5⟩))
        by_cases hcm:m.pos<(r.commit:Int)
        ·have HN:Hid (r.takeForward own m=(r,r.acks own)):=hideA (by rw[HQ.out,if_neg (fun h=>Hneq.out h.1),if_pos ⟨hlt,.inr hcm⟩])
         go_wp2_with fail;refine (ackAhead_any b own r vm _ Z2 (HR.out.below hbZ2) HO.out).mono ?_
         rintro e Z3 ⟨v,rfl,hmo,hbZ3⟩;obtain⟨av,cv,hsh⟩:=hmo.shape;subst hsh;go_wp2_with fail;go_ret;rw[HN.out];exact RepOut.before hbZ2 ⟨_,rfl,RepTo.still (HR.out.below hbZ2) hbZ3,hmo⟩
        ·have HN:Hid (r.takeForward own m=(r,[])):=hideA (by rw[HQ.out,if_neg (fun h=>Hneq.out h.1),if_neg (by rintro⟨-,h1|h1⟩;exact Hns.out h1;exact hcm h1)])
         have hcd:decide (m.pos<(r.commit:Int))=false:=decide_eq_false hcm
         go_wp2_with fail;go_ret;rw[HN.out];exact RepOut.still HR.out hbZ2
      ·have HN:Hid (r.takeForward own m=(r,[])):=hideA (by rw[HQ.out,if_neg (fun h=>Hneq.out h.1),if_neg (fun h=>hlt h.1)])
       have hld:decide (m.pos<(r.log.length:Int))=false:=decide_eq_false hlt
       go_wp2_with fail;go_quiet (fail)
       go_wp2_with fail;go_ret;rw[HN.out];exact RepOut.still HR.out (below_drewN hb4 _)
   ·have HN:Hid (r.takeForward own m=(r,[])):=hideA (by rw[HT.out,if_neg (fun h=>hone h.2.2.1)])
    have hbn:((m.log.length:Int) != 1)=true:=by simp;omega
    go_wp2_with fail;go_ret;rw[HN.out];exact RepOut.still HR.out hb2'
end Go.Proofs.YtgieeeeeiggoeaaGreat
