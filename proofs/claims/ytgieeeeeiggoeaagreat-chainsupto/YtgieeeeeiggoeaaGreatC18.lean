import Derived.Test.YtgieeeeeiggoeaaGreatC17
import Derived.Test.YtgieeeeeiggoeaaGreatC14
import Derived.Maps.Own
set_option maxRecDepth 100000
set_option maxHeartbeats 4000000
namespace Go.Proofs.YtgieeeeeiggoeaaGreat
open Go.RowKit Go.Shelf
def RepOut (w w':World)(b:Nat)(own:Int)(vm vl:Value)(e:Ending)(p:Rep × List Msg):Prop :=
 ∃ v,e=.returned v∧RepTo w w' b own vm vl p.1∧MsgsOwn w' w.heap.size v p.2
theorem append_ent (W:World)(base:Nat)(v:Value)(es:List Ent)(x:Ent)(g:Nat)(hown:W.ownsRow base 42 5 v es.length (ints (entsNums es)))
  (hg:W.heap[g]?=some (.cells #[.int .i64 x.client,.int .i64 x.seq,.int .i64 x.kind,.int .i64 x.key,.int .i64 x.value] 42)) (hl:es.length≤1000) (hb:base≤W.heap.size) :
  ∃ g' cap W',(∀ ty,(Builtin.append_ #[44,44] ty #[v,.slice (some ⟨g,0,none⟩) 1 1]).run Tryz.prog W=.ok (.slice (some ⟨g',0,none⟩) (es.length+1) cap) W') ∧
   W'.ownsRow base 42 5 (.slice (some ⟨g',0,none⟩) (es.length+1) cap) (es++[x]).length (ints (entsNums (es++[x])))∧W.grownBy W' v.ownBlock∧(v.ownBlock=some g'∨g'=W.heap.size):=by
 obtain⟨i0,hi,hz0,hz1,hz2⟩:=info_parts infoEnt
 have hA:∀ ty,∃ g' cap W',(Builtin.append_ #[44,44] ty #[v,.slice (some ⟨g,0,none⟩) 1 1]).run Tryz.prog W=.ok (.slice (some ⟨g',0,none⟩) (es.length+1) cap) W' ∧
   W'.ownsRow base 42 5 (.slice (some ⟨g',0,none⟩) (es.length+1) cap) (es++[x]).length (ints (entsNums (es++[x])))∧W.grownBy W' v.ownBlock∧(v.ownBlock=some g'∨g'=W.heap.size):=fun ty=>by
  obtain⟨g',cap,W',hr,h2,h3,h4, -⟩:=run_append_lies (P:=Tryz.prog) W 44 ty base 42 i0 _ 5 40 Tryz.underlying44 hi hz0 hz1 hz2 rfl (by decide) v es.length (ints (entsNums es)) hown ⟨g,0,none⟩ 1 1 (ints x.nums) rfl
   (World.news_of_block hg) (ints_one _) (by omega) (by unfold maxLen;omega) (by omega) hb _ rfl
  exact⟨g',cap,W',hr,by rw[entsNums_append,entsNums_one,ints_append,List.length_append];exact h2,h3,h4⟩
 obtain⟨g',cap,W',hr,h2,h3,h4⟩:=hA 0
 refine⟨g',cap,W',fun ty => ?_,h2,h3,h4⟩
 rw[← hr];rfl
theorem MsgsOwn.base {w:World}{base base':Nat}{v:Value}{ms:List Msg}(h:MsgsOwn w base v ms)(hb:base'≤base):MsgsOwn w base' v ms:=by
 obtain⟨ws,h1,h2,h3⟩:=h;exact⟨ws,h1,obs h2 hb,h3⟩
theorem put_any (b:Nat)(own:Int)(r:Rep)(vm vl:Value)(x:Ent)(w:World)(h:RepAt w b own r vm vl)(ok:RepOK r)(hlt:r.log.length<24)(hcli:∀ y∈r.log++[x],0≤y.client∧y.client≤3) :
  Calls Tryz.prog 278 #[.pointer (some ⟨b,0,none⟩),entV x] w fun e w'=>RepOut w w' b own vm vl e (r.put own x):=by
 have mixed:Tryz.prog.follows Departure.mixedOrders=true:=by kernel_rfl
 have hbl:b<w.heap.size:=(Array.getElem?_eq_some_iff.1 h.blk).1
 have hm5:=ok.m
 have hcm:=ok.c
 obtain⟨al,cl,rfl⟩:=osh h.hl
 obtain⟨X,hX⟩:∃ X,X=((w.alloc (.cells #[.int .i64 x.client,.int .i64 x.seq,.int .i64 x.kind,.int .i64 x.key,.int .i64 x.value] 42)).alloc (.cells #[.int .i64 x.client,.int .i64 x.seq,.int .i64 x.kind,.int .i64 x.key,.int .i64 x.value] 42)).drew:=⟨_,rfl⟩
 have hbX:Below w.heap.size w X:=by rw[hX];exact (((Below.refl _ w).alloc (Nat.le_refl _) _).alloc (by simp) _).drew
 have hsX:X.heap.size=w.heap.size+2:=by rw[hX];simp
 have hnX:X.heap[w.heap.size+1]?=some (.cells #[.int .i64 x.client,.int .i64 x.seq,.int .i64 x.kind,.int .i64 x.key,.int .i64 x.value] 42):=by rw[hX];exact heap_new2 _ _ _
 have hRX:=h.below hbX
 obtain⟨g',cap',W1,hrun,ho1,hg1,hwh⟩:=append_ent X 0 _ r.log x (w.heap.size+1) hRX.hl hnX (by omega) (Nat.zero_le _)
 have nb:(Value.slice al r.log.length cl).ownBlock≠some b:=bty h.blk h.hl (by decide)
 have hbW1:W1.heap[b]?=some (.cells #[.int .i64 own,.int .i64 r.epoch,.int .i64 r.lock,vm,.slice al r.log.length cl,.int .i64 (r.base:Int),.int .i64 (r.commit:Int)] 219):=(hg1.block b (by omega) (fun e=>nb e.symm)).trans hRX.blk
 have hmW1:IntOwn W1 vm r.mems:=by
  refine⟨hRX.hm.1, ?_⟩
  rcases hRX.hm.2 with h0|⟨g,cap,cur,hv,hb,hgg,rest⟩
  ·exact .inl h0
  ·refine .inr ⟨g,cap,cur,hv,hb, ?_,rest⟩
   rw[hg1.block g (Array.getElem?_eq_some_iff.1 hgg).1 (fun e=>otw hRX.hm hRX.hl (by decide) g (by rw[hv];rfl) e.symm)]
   exact hgg
 have c4:W1.cell? ⟨b,4,none⟩=some (.slice al r.log.length cl):=coh hbW1 4
 have f4:W1.frozen? ⟨b,4,none⟩=false:=foh hbW1 4
 have RW1:RepAt W1 b own r vm (.slice al r.log.length cl)→True:=fun _=>trivial
 obtain⟨W2,hW2⟩:∃ W2,W2=W1.setCell ⟨b,4,none⟩ (.slice (some ⟨g',0,none⟩) (r.log.length+1) cap'):=⟨_,rfl⟩
 have hl2:(r.log++[x]).length=r.log.length+1:=by simp
 have R2:Hid (RepAt W2 b own { r with log:=r.log++[x] } vm (.slice (some ⟨g',0,none⟩) (r.log.length+1) cap')):=hideA (by
  rw[hW2];refine⟨?_, ?_, ?_⟩
  ·rw[heap_setCell_same W1 b 4 _ _ _ hbW1];rfl
  ·exact ownsRow_setCell_other hmW1 (bty hbW1 hmW1 (by decide)) _
  ·exact ownsRow_setCell_other ho1 (bty hbW1 ho1 (by decide)) _)
 have M2:Hid (Moved w W2 (RepS b vm (.slice al r.log.length cl))):=hideA (by
  rw[hW2];refine Moved.setCell ?_ _ (.inl rfl) _
  exact ((Moved.refl w _).below hbX).grown hg1 (fun k _ e=>.inr (.inr e)))
 have G2:Hid (Grows w (.slice al r.log.length cl) (.slice (some ⟨g',0,none⟩) (r.log.length+1) cap')):=hideA (by
  intro k hk;have:g'=k:=by simpa [Value.ownBlock] using hk
  subst this;rcases hwh with h1|h1
  ·exact .inl h1
  ·exact .inr (by omega))
 have Hput:=hideA (show r.put own x=match nextOf r.mems own with
  | some nx=>({ r with log:=r.log++[x] },[Rep.forward { r with log:=r.log++[x] } own nx r.log.length])
  | none=>Rep.commitAll { r with log:=r.log++[x] } own from rfl)
 have d4:∀ o,(w.alloc o).cell? ⟨b,4,none⟩=some (.slice al r.log.length cl):=fun o=>cell_later ((Below.refl _ w).alloc (Nat.le_refl _) o) (coh h.blk 4)
 have hb2:∀ o o2,Below w.heap.size w ((w.alloc o).alloc o2):=fun o o2=>((Below.refl _ w).alloc (Nat.le_refl _) o).alloc (by simp) o2
 have d4':∀ o o2,((w.alloc o).alloc o2).cell? ⟨b,4,none⟩=some (.slice al r.log.length cl):=fun o o2=>cell_later (hb2 o o2) (coh h.blk 4)
 rw[hX] at hrun
 clear hg1 hwh ho1 hbW1 hmW1 hnX hsX hRX hbX hX RW1;unfold entV
 go_enter Tryz.func278,Tryz.ntmps278
 go_upto_region 1 with fail
 go_cut [7] (fun q wx=>q=.pointer (some ⟨b,0,none⟩)∧wx=W2)
 case first =>
  go_region_law (first|(refine op_append rfl (.tmp 11) (.tmp 13) 44 rfl _ _ _ _ (by simp[Act.eval]) (by simp[Act.eval]) hrun ?_))
  all_goals
   go_wp2_with fail;go_meet
  all_goals exact⟨rfl,hW2.symm⟩
 case rest =>
  obtain⟨rfl,hwx⟩:=hcut;rw[hwx];clear hwx;clear hrun c4 f4 hW2 d4 d4' hb2;have ok2:RepOK { r with log:=r.log++[x] }:=⟨hm5,by show (r.log++[x]).length≤24;omega,by show r.commit≤(r.log++[x]).length;omega⟩
  have hbh:=behind_any b own _ vm _ W2 R2.out ok2
  have HM:({ r with log:=r.log++[x] }:Rep).mems=r.mems:=rfl
  cases hnx:nextOf r.mems own with
  | none =>
   have hbh':Calls Tryz.prog 270 #[.pointer (some ⟨b,0,none⟩)] W2 fun e w'=>e=.returned (.tuple #[.int .i64 0,.bool false])∧Below W2.heap.size W2 w':=by
    rw[HM,hnx] at hbh
    exact hbh
   have HP:Hid (r.put own x=Rep.commitAll { r with log:=r.log++[x] } own):=hideA (by rw[Hput.out,hnx])
   clear hbh Hput;go_wp2_with fail;refine hbh'.mono ?_
   rintro e W3 ⟨rfl,hb3⟩;clear hbh';go_wp2_with fail;refine (callsIn_wide.1 (commitAll_in 6 (hideA (by omega)) b own _ vm _ W3 (R2.out.below hb3) ok2 hcli)).mono ?_
   rintro e W4 ⟨v,rfl,hto,hmo⟩;obtain⟨av,cv,hsh⟩:∃ a c,v=.slice a (Rep.commitAll { r with log:=r.log++[x] } own).2.length c:=by
    obtain⟨ws, -,h2, -⟩:=hmo;exact osh h2
   subst hsh;go_wp2_with fail;go_ret;have hm3:Moved w W3 (RepS b vm (.slice al r.log.length cl)):=M2.out.below hb3
   refine⟨_,rfl, ?_, ?_⟩
   ·rw[HP.out]
    exact RepTo.then hm3 (Grows.refl _ _) G2.out hto
   ·rw[HP.out]
    exact hmo.base (by have:=hm3.size;omega)
  | some nx =>
   have hbh':Calls Tryz.prog 270 #[.pointer (some ⟨b,0,none⟩)] W2 fun e w'=>e=.returned (.tuple #[.int .i64 nx,.bool true])∧Below W2.heap.size W2 w':=by
    rw[HM,hnx] at hbh
    exact hbh
   have HP:Hid (r.put own x=({ r with log:=r.log++[x] },[Rep.forward { r with log:=r.log++[x] } own nx r.log.length])):=hideA (by rw[Hput.out,hnx])
   clear hbh Hput;go_wp2_with fail;refine hbh'.mono ?_
   rintro e W3 ⟨rfl,hb3⟩;clear hbh';have R3:=R2.out.below hb3
   have c4:W3.cell? ⟨b,4,none⟩=some (.slice (some ⟨g',0,none⟩) (r.log.length+1) cap'):=coh R3.blk 4
   have hf:=forward_any b own _ vm _ nx r.log.length W3 R3 ok2 (by show r.log.length<(r.log++[x]).length;omega)
   have Hmm:Hid ((Rep.forward { r with log:=r.log++[x] } own nx r.log.length).mems=[]):=hideA rfl
   generalize Rep.forward { r with log:=r.log++[x] } own nx r.log.length=m at *
   unfold mval at hf
   clear R3;go_wp2_with fail;refine hf.mono ?_
   rintro e W4 ⟨vl',rfl,hlo,hb4⟩;obtain⟨a6,c6,rfl⟩:=osh hlo
   go_wp2_with fail;go_ret;have hb34:=hb3.trans (hb4.mono hb3.size)
   have hb5:Below W2.heap.size W2 (W4.alloc (.cells (mcells (m,.slice none 0 0,.slice a6 m.log.length c6)).toArray 134)):=hb34.alloc hb34.size _
   refine⟨_,rfl, ?_, ?_⟩
   ·rw[HP.out]
    exact RepTo.then M2.out (Grows.refl _ _) G2.out (RepTo.still R2.out hb5)
   ·rw[HP.out]
    exact MsgsOwn.one m _ _ (hnw _ _) (by have:=M2.out.size;have:=hb34.size;omega) (by rw[Hmm.out];exact IntOwn.nil _) (hlo.alloc _)
theorem RepOut.still {w w':World}{b:Nat}{own:Int}{r:Rep}{vm vl:Value}(h:RepAt w b own r vm vl)(hb:Below w.heap.size w w'):RepOut w w' b own vm vl (.returned (.slice none 0 0)) (r,[]) :=
 ⟨_,rfl,RepTo.still h hb,MsgsOwn.nil _ _⟩
theorem MsgsOwn.shape {w:World}{base:Nat}{v:Value}{ms:List Msg}(h:MsgsOwn w base v ms):∃ a c,v=.slice a ms.length c:=by
 obtain⟨ws, -,h2, -⟩:=h;exact osh h2
theorem msg_box (w:World)(m:Msg)(mm ml:Value):∃ X,w.alloc (.cells #[.int .i64 m.kind,.int .i64 m.src,.int .i64 m.dst,.int .i64 m.epoch,.int .i64 m.ballot,.int .i64 m.vote,.int .i64 m.pos,.int .i64 m.value,mm,ml] 134)=X∧Below w.heap.size w X∧X.heap[w.heap.size]?=some (.cells #[.int .i64 m.kind,.int .i64 m.src,.int .i64 m.dst,.int .i64 m.epoch,.int .i64 m.ballot,.int .i64 m.vote,.int .i64 m.pos,.int .i64 m.value,mm,ml] 134) :=
 ⟨_,rfl,(Below.refl _ w).alloc (Nat.le_refl _) _,hnw _ _⟩
theorem takeAck_any (b:Nat)(own:Int)(r:Rep)(vm vl:Value)(m:Msg)(mm ml:Value)(w:World)(h:RepAt w b own r vm vl)(ok:RepOK r) :
  Calls Tryz.prog 267 #[.pointer (some ⟨b,0,none⟩),mval m mm ml] w fun e w'=>RepOut w w' b own vm vl e (r.takeAck own m):=by
 have HT:Hid (r.takeAck own m=if r.live own∧nextOf r.mems own=some m.src∧m.epoch=r.epoch∧(r.commit:Int)<m.pos∧m.pos≤r.log.length then
  ({ r with commit:=m.pos.toNat },Rep.acks { r with commit:=m.pos.toNat } own) else (r,[])):=hideA rfl
 have hbl:b<w.heap.size:=(Array.getElem?_eq_some_iff.1 h.blk).1
 have HOF:Hid (∀ W,Below w.heap.size w W→Calls Tryz.prog 276 #[.pointer (some ⟨b,0,none⟩),.agg #[.int .i64 m.kind,.int .i64 m.src,.int .i64 m.dst,.int .i64 m.epoch,.int .i64 m.ballot,.int .i64 m.vote,.int .i64 m.pos,.int .i64 m.value,mm,ml]] W fun e w'=>e=.returned (.bool (r.live own && decide (m.epoch=r.epoch)))∧Below W.heap.size W w'):=hideA fun W hb=>isOfNow_any b own r vm vl m mm ml W (h.below hb) ok
 have HB1:Hid (∀ W,Below w.heap.size w W→Calls Tryz.prog 270 #[.pointer (some ⟨b,0,none⟩)] W fun e w'=>e=.returned (.tuple #[.int .i64 ((nextOf r.mems own).getD 0),.bool (nextOf r.mems own).isSome])∧Below W.heap.size W w'):=hideA fun W hb=>behind_any b own r vm vl W (h.below hb) ok
 have HR:=hideA h;have HO:=hideA ok;clear h ok;unfold mval
 go_enter Tryz.func267,Tryz.ntmps267
 go_wp2_with fail;obtain⟨X,hX,hbX,hBX⟩:=msg_box w m mm ml
 rw[hX];clear hX;refine (HB1.out _ hbX).mono ?_
 rintro e W2 ⟨rfl,hb2⟩;have hb2':=hbX.trans (hb2.mono hbX.size)
 have hB2:=hideA ((hb2.block _ (Array.getElem?_eq_some_iff.1 hBX).1).trans hBX)
 clear hBX hb2 hbX;cases hnx:nextOf r.mems own with
 | none =>
  have HN:Hid (r.takeAck own m=(r,[])):=hideA (by rw[HT.out,if_neg];rintro⟨-,h2, -⟩;rw[hnx] at h2;cases h2)
  go_wp2_with fail;go_ret;rw[HN.out];exact RepOut.still HR.out hb2'
 | some nx =>
  have Hnx:=hideA hnx;clear hnx;have g0:=coh hB2.out 0
  have g1:=coh hB2.out 1
  have g2:=coh hB2.out 2
  have g3:=coh hB2.out 3
  have g4:=coh hB2.out 4
  have g5:=coh hB2.out 5
  have g6:=coh hB2.out 6
  have g7:=coh hB2.out 7
  have g8:=coh hB2.out 8
  have g9:=coh hB2.out 9
  cases hsd:(m.src != nx) with
  | true =>
   have HN:Hid (r.takeAck own m=(r,[])):=hideA (by rw[HT.out,if_neg];rintro⟨-,h2, -⟩;rw[Hnx.out] at h2;injection h2 with h2;rw[h2] at hsd;simp at hsd)
   go_wp2_with fail;go_ret;rw[HN.out];exact RepOut.still HR.out hb2'
  | false =>
   have Hsrc:Hid (m.src=nx):=hideA (by simpa using hsd)
   go_wp2_with fail;refine (HOF.out _ hb2').mono ?_
   rintro e W3 ⟨rfl,hb3⟩;have hb3':=hb2'.trans (hb3.mono hb2'.size)
   have hB3:=hideA ((hb3.block _ (Array.getElem?_eq_some_iff.1 hB2.out).1).trans hB2.out)
   clear g0 g1 g2 g3 g4 g5 g6 g7 g8 g9 hb3 hb2' hB2 hsd;cases hnow:(r.live own && decide (m.epoch=r.epoch)) with
   | false =>
    have HN:Hid (r.takeAck own m=(r,[])):=hideA (by rw[HT.out,if_neg];rintro⟨h1, -,h2, -⟩;rw[h1,h2] at hnow;simp at hnow)
    clear hnow;go_wp2_with fail;go_ret;rw[HN.out];exact RepOut.still HR.out hb3'
   | true =>
    have Hno:Hid (r.live own=true∧m.epoch=r.epoch):=hideA (by simpa using hnow)
    clear hnow;have R3:=hideA (HR.out.below hb3')
    obtain⟨al,cl,hvl⟩:=osh HR.out.hl
    have g6:=coh hB3.out 6
    have c6:W3.cell? ⟨b,6,none⟩=some (.int .i64 (r.commit:Int)):=coh R3.out.blk 6
    have c4:W3.cell? ⟨b,4,none⟩=some (.slice al r.log.length cl):=by rw[← hvl];exact coh R3.out.blk 4
    have f6:W3.frozen? ⟨b,6,none⟩=false:=foh R3.out.blk 6
    have Hvl:=hideA hvl;clear hvl;by_cases hp1:m.pos≤(r.commit:Int)
    ·have HN:Hid (r.takeAck own m=(r,[])):=hideA (by rw[HT.out,if_neg];rintro⟨-, -, -,h3, -⟩;omega)
     go_wp2_with fail;go_quiet (fail)
     go_wp2_with fail;go_ret;rw[HN.out];exact RepOut.still HR.out (below_drewN hb3' _)
    ·have hp1d:decide (m.pos≤(r.commit:Int))=false:=decide_eq_false hp1
     by_cases hp2:(r.log.length:Int)<m.pos
     ·have HN:Hid (r.takeAck own m=(r,[])):=hideA (by rw[HT.out,if_neg];rintro⟨-, -, -, -,h3⟩;omega)
      go_wp2_with fail;go_quiet (fail)
      go_wp2_with fail;go_ret;rw[HN.out];exact RepOut.still HR.out (below_drewN hb3' _)
     ·have hp2d:decide ((r.log.length:Int)<m.pos)=false:=decide_eq_false hp2
      obtain⟨P,hP⟩:∃ P:Nat,m.pos=P:=⟨m.pos.toNat,by omega⟩
      have HN:Hid (r.takeAck own m=({ r with commit:=P },Rep.acks { r with commit:=P } own)):=hideA (by
       rw[HT.out,if_pos ⟨Hno.out.1,by rw[Hnx.out,Hsrc.out],Hno.out.2,by omega,by omega⟩,hP]
       rfl)
      have HP:=hideA hP;have HPl:Hid (P≤r.log.length):=hideA (by omega)
      clear hP;go_wp2_with fail;go_quiet (fail)
      go_wp2_with fail;rw[HP.out];have R4:RepAt ((W3.drewN nq).setCell ⟨b,6,none⟩ (.int .i64 (P:Int))) b own { r with commit:=P } vm vl:=by
       have R3':=R3.out.below (below_drewN (Below.refl _ W3) nq)
       exact R3'.set 6 _ { r with commit:=P } vm vl rfl R3'.hm R3'.hl
      have M4:Moved w ((W3.drewN nq).setCell ⟨b,6,none⟩ (.int .i64 (P:Int))) (RepS b vm vl):=((Moved.refl w _).below (below_drewN hb3' nq)).setCell ⟨b,6,none⟩ (.inl rfl) _
      refine (ackAhead_any b own { r with commit:=P } vm vl _ R4 ⟨HO.out.m,HO.out.l,HPl.out⟩).mono ?_
      rintro e W5 ⟨v,rfl,hmo,hb5⟩;obtain⟨av,cv,rfl⟩:=hmo.shape;go_wp2_with fail;go_ret;rw[HN.out];exact⟨_,rfl,RepTo.then M4 (Grows.refl _ _) (Grows.refl _ _) (RepTo.still R4 hb5),hmo.base M4.size⟩
theorem cloneLog_any (v:Value)(es:List Ent)(w:World)(hv:LogOwn w v es)(hl:es.length≤1000) :
  Calls Tryz.prog 147 #[v] w fun e w'=>∃ a c,e=.returned (.slice a es.length c)∧w'.ownsRow w.heap.size 42 5 (.slice a es.length c) es.length (ints (entsNums es))∧Below w.heap.size w w':=by
 refine (clone_ents v es.length (ints (entsNums es)) w (CellsAt.of_owns hv) hv.1 (ints_one _) (by omega)).mono ?_
 rintro e w' ⟨v',rfl,h1,h2⟩;obtain⟨a,c,rfl⟩:=osh h1
 exact⟨a,c,rfl,h1,h2⟩
theorem cloneMems_any (v:Value)(l:List Int)(w:World)(hv:IntOwn w v l)(hl:l.length≤1000) :
  Calls Tryz.prog 69 #[v] w fun e w'=>∃ a c,e=.returned (.slice a l.length c)∧w'.ownsRow w.heap.size 3 1 (.slice a l.length c) l.length (ints l)∧Below w.heap.size w w':=by
 refine (clone_ints v l.length (ints l) w (CellsAt.of_owns hv) (by rw[ints_length,Nat.mul_one]) (ints_one _) (by omega)).mono ?_
 rintro e w' ⟨v',rfl,h1,h2⟩;obtain⟨a,c,rfl⟩:=osh h1
 exact⟨a,c,rfl,h1,h2⟩
theorem takeSeal_any (b:Nat)(own:Int)(r:Rep)(vm vl:Value)(m:Msg)(mm ml:Value)(w:World)(h:RepAt w b own r vm vl)(ok:RepOK r)(hep : -1000000≤r.epoch∧r.epoch≤1000000) :
  Calls Tryz.prog 268 #[.pointer (some ⟨b,0,none⟩),mval m mm ml] w fun e w'=>RepOut w w' b own vm vl e (r.takeSeal own m):=by
 have HT:Hid (r.takeSeal own m=if r.epoch+1<m.epoch then (r,[])
  else ({ r with lock:=if m.epoch=r.epoch+1 then m.epoch else r.lock },[{ kind:=8,src:=own,dst:=m.src,epoch:=m.epoch,ballot:=m.ballot,log:=r.log }])):=hideA rfl
 have hwr:IntKind.i64.wrap (r.epoch+1)=r.epoch+1:=by rw[IntKind.wrap_i64];omega
 have hbl:b<w.heap.size:=(Array.getElem?_eq_some_iff.1 h.blk).1
 have hl24:=ok.l
 obtain⟨al,cl,rfl⟩:=osh h.hl
 have HR:=hideA h;clear h ok;have HTail:Hid (∀ (Y:World) (r1:Rep),RepAt Y b own r1 vm (.slice al r.log.length cl)→r1.log=r.log→Y.heap[w.heap.size]?=some (.cells #[.int .i64 m.kind,.int .i64 m.src,.int .i64 m.dst,.int .i64 m.epoch,.int .i64 m.ballot,.int .i64 m.vote,.int .i64 m.pos,.int .i64 m.value,mm,ml] 134)→∀ W,W=Y.drew→Calls Tryz.prog 147 #[.slice al r.log.length cl] W fun e w'=>∃ a c,e=.returned (.slice a r.log.length c)∧LogOwn w' (.slice a r.log.length c) r.log∧Below Y.heap.size Y w' ∧
   w'.cell? ⟨b,0,none⟩=some (.int .i64 own)∧w'.cell? ⟨b,4,none⟩=some (.slice al r.log.length cl)∧w'.cell? ⟨w.heap.size,1,none⟩=some (.int .i64 m.src)∧w'.cell? ⟨w.heap.size,3,none⟩=some (.int .i64 m.epoch)∧w'.cell? ⟨w.heap.size,4,none⟩=some (.int .i64 m.ballot)):=hideA (by
  rintro Y r1 R1 hlog hB W rfl;have hl1:=R1.hl
  rw[hlog] at hl1
  refine (cloneLog_any _ r.log Y.drew (okp hl1 fun k _ hk=>rfl) (by omega)).mono ?_
  rintro e w' ⟨a,c,rfl,h1,h2⟩;have hb:Below Y.heap.size Y w':=((Below.refl _ Y).drew).trans h2
  exact⟨a,c,rfl,obs h1 (Nat.zero_le _),hb,cell_later hb (coh R1.blk 0),cell_later hb (coh R1.blk 4),cell_later hb (coh hB 1),cell_later hb (coh hB 3),cell_later hb (coh hB 4)⟩)
 unfold mval
 go_enter Tryz.func268,Tryz.ntmps268
 go_wp2_with fail;obtain⟨X,hX,hbX,hBX⟩:=msg_box w m mm ml
 rw[hX];clear hX;have RX:=hideA (HR.out.below hbX)
 have c1:X.cell? ⟨b,1,none⟩=some (.int .i64 r.epoch):=coh RX.out.blk 1
 have g3:=coh hBX 3
 have HBX:=hideA hBX;clear hBX;by_cases he:r.epoch+1<m.epoch
 ·have HN:Hid (r.takeSeal own m=(r,[])):=hideA (by rw[HT.out,if_pos he])
  go_quiet (fail)
  go_wp2_with fail;go_ret;rw[HN.out];exact RepOut.still HR.out (below_drewN hbX _)
 ·have hed:decide (r.epoch+1<m.epoch)=false:=decide_eq_false he
  have Hne:=hideA he;clear he;go_quiet (fail)
  have hbX2:=below_drewN hbX nq
  have RX2:=hideA (HR.out.below hbX2)
  have HBX2:Hid ((X.drewN nq).heap[w.heap.size]?=some (.cells #[.int .i64 m.kind,.int .i64 m.src,.int .i64 m.dst,.int .i64 m.epoch,.int .i64 m.ballot,.int .i64 m.vote,.int .i64 m.pos,.int .i64 m.value,mm,ml] 134)):=HBX
  generalize X.drewN nq=X2 at *
  clear RX HBX hbX c1 g3;have c1:X2.cell? ⟨b,1,none⟩=some (.int .i64 r.epoch):=coh RX2.out.blk 1
  have g3:=coh HBX2.out 3
  go_wp2_with fail;cases heq:(m.epoch == r.epoch+1) with
  | false =>
   have HN:Hid (r.takeSeal own m=(r,[{ kind:=8,src:=own,dst:=m.src,epoch:=m.epoch,ballot:=m.ballot,log:=r.log }])):=hideA (by
    rw[HT.out,if_neg (show ¬ r.epoch+1<m.epoch by have:=Hne.out;omega),if_neg (by intro e;rw[e] at heq;simp at heq)])
   go_quiet (fail)
   go_wp2_with fail;have hbY:=below_drewN hbX2 nq
   have RY:=hideA (HR.out.below hbY)
   have HBY:Hid ((X2.drewN nq).heap[w.heap.size]?=some (.cells #[.int .i64 m.kind,.int .i64 m.src,.int .i64 m.dst,.int .i64 m.epoch,.int .i64 m.ballot,.int .i64 m.vote,.int .i64 m.pos,.int .i64 m.value,mm,ml] 134)):=HBX2
   generalize X2.drewN nq=Y at *
   clear c1 g3 heq;have y0:Y.cell? ⟨b,0,none⟩=some (.int .i64 own):=coh RY.out.blk 0
   have y4:Y.cell? ⟨b,4,none⟩=some (.slice al r.log.length cl):=coh RY.out.blk 4
   have y1:=coh HBY.out 1
   have y3:=coh HBY.out 3
   have y5:=coh HBY.out 4
   go_region_held3 (fun w'=>w'.cell? ⟨b,0,none⟩=some (.int .i64 own)∧w'.cell? ⟨b,4,none⟩=some (.slice al r.log.length cl)∧w'.cell? ⟨w.heap.size,1,none⟩=some (.int .i64 m.src)∧w'.cell? ⟨w.heap.size,3,none⟩=some (.int .i64 m.epoch)∧w'.cell? ⟨w.heap.size,4,none⟩=some (.int .i64 m.ballot)) (first|(simp[go_sem];done)|(simp[go_sem, *];done)|go_keep) (first|(go_at_call 147;refine (HTail.out Y _ RY.out rfl HBY.out _ rfl).mono ?_;rintro e Z ⟨az,cz,rfl,hlo,hbZ,z0,z4,z1,z3,z5⟩))
   all_goals
    go_wp2_with fail;go_ret;rw[HN.out];have hbZ':=hbY.trans (hbZ.mono hbY.size)
    exact⟨_,rfl,RepTo.still HR.out (hbZ'.alloc hbZ'.size _),MsgsOwn.one { kind:=8,src:=own,dst:=m.src,epoch:=m.epoch,ballot:=m.ballot,log:=r.log } (.slice none 0 0) (.slice az r.log.length cz) (hnw _ _) hbZ'.size (IntOwn.nil _) (hlo.alloc _)⟩
  | true =>
   have Heq:Hid (m.epoch=r.epoch+1):=hideA (by simpa using heq)
   have HN:Hid (r.takeSeal own m=({ r with lock:=m.epoch },[{ kind:=8,src:=own,dst:=m.src,epoch:=m.epoch,ballot:=m.ballot,log:=r.log }])):=hideA (by
    rw[HT.out,if_neg (show ¬ r.epoch+1<m.epoch by have:=Hne.out;omega),if_pos Heq.out])
   go_quiet (fail)
   have hbY:=below_drewN hbX2 nq
   have RY0:=hideA (HR.out.below hbY)
   have HBY0:Hid ((X2.drewN nq).heap[w.heap.size]?=some (.cells #[.int .i64 m.kind,.int .i64 m.src,.int .i64 m.dst,.int .i64 m.epoch,.int .i64 m.ballot,.int .i64 m.vote,.int .i64 m.pos,.int .i64 m.value,mm,ml] 134)):=HBX2
   generalize X2.drewN nq=Y0 at *
   clear c1 g3 heq;have g3:=coh HBY0.out 3
   have c2:Y0.cell? ⟨b,2,none⟩=some (.int .i64 r.lock):=coh RY0.out.blk 2
   have f2:Y0.frozen? ⟨b,2,none⟩=false:=foh RY0.out.blk 2
   go_wp2_with fail;have RY:=hideA (RY0.out.set 2 (.int .i64 m.epoch) { r with lock:=m.epoch } vm (.slice al r.log.length cl) rfl RY0.out.hm RY0.out.hl)
   have MY:Moved w (Y0.setCell ⟨b,2,none⟩ (.int .i64 m.epoch)) (RepS b vm (.slice al r.log.length cl)):=((Moved.refl w _).below hbY).setCell ⟨b,2,none⟩ (.inl rfl) _
   have HBY:Hid ((Y0.setCell ⟨b,2,none⟩ (.int .i64 m.epoch)).heap[w.heap.size]?=some (.cells #[.int .i64 m.kind,.int .i64 m.src,.int .i64 m.dst,.int .i64 m.epoch,.int .i64 m.ballot,.int .i64 m.vote,.int .i64 m.pos,.int .i64 m.value,mm,ml] 134)):=hideA ((Below.heap_setCell _ _ _ _ (by show w.heap.size≠b;omega)).trans HBY0.out)
   generalize Y0.setCell ⟨b,2,none⟩ (.int .i64 m.epoch)=Y at *
   clear g3 c2 f2;have y0:Y.cell? ⟨b,0,none⟩=some (.int .i64 own):=coh RY.out.blk 0
   have y4:Y.cell? ⟨b,4,none⟩=some (.slice al r.log.length cl):=coh RY.out.blk 4
   have y1:=coh HBY.out 1
   have y3:=coh HBY.out 3
   have y5:=coh HBY.out 4
   go_region_held3 (fun w'=>w'.cell? ⟨b,0,none⟩=some (.int .i64 own)∧w'.cell? ⟨b,4,none⟩=some (.slice al r.log.length cl)∧w'.cell? ⟨w.heap.size,1,none⟩=some (.int .i64 m.src)∧w'.cell? ⟨w.heap.size,3,none⟩=some (.int .i64 m.epoch)∧w'.cell? ⟨w.heap.size,4,none⟩=some (.int .i64 m.ballot)) (first|(simp[go_sem];done)|(simp[go_sem, *];done)|go_keep) (first|(go_at_call 147;refine (HTail.out Y _ RY.out rfl HBY.out _ rfl).mono ?_;rintro e Z ⟨az,cz,rfl,hlo,hbZ,z0,z4,z1,z3,z5⟩))
   all_goals
    go_wp2_with fail;go_ret;rw[HN.out];have hMs:=MY.size
    have hbs:=hbZ.size
    exact⟨_,rfl,RepTo.then MY (Grows.refl _ _) (Grows.refl _ _) (RepTo.still RY.out (hbZ.alloc hbZ.size _)),MsgsOwn.one { kind:=8,src:=own,dst:=m.src,epoch:=m.epoch,ballot:=m.ballot,log:=r.log } (.slice none 0 0) (.slice az r.log.length cz) (hnw _ _) (by omega) (IntOwn.nil _) (hlo.alloc _)⟩
end Go.Proofs.YtgieeeeeiggoeaaGreat
namespace Go.Proofs.YtgieeeeeiggoeaaGreat
open Go.RowKit
def seek (k:Int):List (Int × Value)→Nat→Option (Nat × Value)
 | [],_=>none
 | p :: l,i=>if k=p.1 then some (i,p.2) else seek k l (i+1)
def lookK (l:List (Int × Value))(k:Int):Option Value:=(seek k l 0).map Prod.snd
def putAt (l:List (Int × Value))(k:Int)(v:Value):List (Int × Value) :=
 match seek k l 0 with
 | some (j,_)=>l.set j (k,v)
 | none=>l++[(k,v)]
theorem seek_from (k:Int):∀ (l:List (Int × Value)) (i:Nat),(seek k l i).map Prod.snd=(seek k l 0).map Prod.snd
 | [],_=>rfl
 | p :: l,i=>by
  unfold seek
  split
  ·rfl
  ·rw[seek_from k l (i+1),seek_from k l (0+1)]
theorem lookK_cons (p:Int × Value)(l:List (Int × Value))(k:Int):lookK (p :: l) k=if k=p.1 then some p.2 else lookK l k:=by
 unfold lookK
 rw[show seek k (p :: l) 0=if k=p.1 then some (0,p.2) else seek k l 1 from rfl]
 split
 ·rfl
 ·exact seek_from k l 1
theorem seek_some (k:Int):∀ (l:List (Int × Value)) (i j:Nat) (v:Value),seek k l i=some (j,v)→∃ d,j=i+d∧l[d]?=some (k,v)∧∀ x u,lookK (l.set d (k,u)) x=if x=k then some u else lookK l x
 | [],_,_,_,h=>by cases h
 | p :: l,i,j,v,h=>by
  unfold seek at h
  split at h
  ·rename_i hk
   cases h
   refine⟨0,rfl,by simp[hk],fun x u => ?_⟩
   rw[List.set_cons_zero,lookK_cons,lookK_cons,hk];by_cases hx:x=p.1
   ·simp[hx]
   ·simp[hx]
  ·rename_i hk
   obtain⟨d,h1,h2,h3⟩:=seek_some k l (i+1) j v h
   refine⟨d+1,by omega,by simpa using h2,fun x u => ?_⟩
   rw[List.set_cons_succ,lookK_cons,lookK_cons,h3];by_cases hx:x=p.1
   ·rw[if_pos hx,if_pos hx,if_neg (fun e=>hk (by rw[← e,hx]))]
   ·rw[if_neg hx,if_neg hx]
theorem seek_none (k:Int):∀ (l:List (Int × Value)) (i:Nat),seek k l i=none→∀ x u,lookK (l++[(k,u)]) x=if x=k then some u else lookK l x
 | [],_,_,x,u=>by
  rw[List.nil_append,lookK_cons]
 | p :: l,i,h,x,u=>by
  unfold seek at h
  split at h
  ·cases h
  ·rename_i hk
   rw[List.cons_append,lookK_cons,lookK_cons,seek_none k l (i+1) h]
   by_cases hx:x=p.1
   ·rw[if_pos hx,if_pos hx,if_neg (fun e=>hk (by rw[← e,hx]))]
   ·rw[if_neg hx,if_neg hx]
theorem lookK_put (l:List (Int × Value))(k:Int)(v:Value)(x:Int):lookK (putAt l k v) x=if x=k then some v else lookK l x:=by
 unfold putAt
 split
 ·rename_i j u h
  obtain⟨d,h1,_,h3⟩:=seek_some k l 0 j u h
  rw[show j=d by omega]
  exact h3 x v
 ·rename_i h
  exact seek_none k l 0 h x v
def MapAt (w:World)(b:Nat)(l:List (Int × Value)):Prop :=
 ∃ es clock,w.heap[b]?=some (.map es clock)∧es.toList.map (fun e=>(e.key,e.val))=l.map (fun p=>(Value.int .i64 p.1,p.2))
theorem MapAt.keep {w w':World}{b:Nat}{l:List (Int × Value)}(h:MapAt w b l)(hk:w'.heap[b]?=w.heap[b]?):MapAt w' b l:=by
 obtain⟨es,c,h1,h2⟩:=h;exact⟨es,c,hk.trans h1,h2⟩
theorem find_now (k:Int):∀ (es:List MapEntry) (l:List (Int × Value)) (i:Nat),es.map (fun e=>(e.key,e.val))=l.map (fun p=>(Value.int .i64 p.1,p.2))→Instr.findNow (.int .i64) (.int .i64 k) es i=some (seek k l i)
 | [],l,i,h=>by
  cases l with
  | nil=>rfl
  | cons p l=>cases h
 | e :: es,l,i,h=>by
  cases l with
  | nil=>cases h
  | cons p l =>
   simp only [List.map_cons,List.cons.injEq,Prod.mk.injEq] at h
   obtain⟨⟨h1,h2⟩,h3⟩:=h;unfold Instr.findNow seek
   rw[h1];by_cases hk:k=p.1
   ·simp[Instr.sameNow,hk,h2]
   ·have hb:(k == p.1)=false:=by simpa using hk
    simp only [Instr.sameNow,hb,if_true,if_neg hk]
    exact find_now k es l (i+1) h3
theorem run_find (w:World)(k:Int)(es:List MapEntry)(l:List (Int × Value))(h:es.map (fun e=>(e.key,e.val))=l.map (fun p=>(Value.int .i64 p.1,p.2))):(Instr.findKey 3 (.int .i64 k) es).run Tryz.prog w=.ok (seek k l 0) w:=by
 unfold Instr.findKey
 simp only [Sem.run_bind,run_underlying Tryz.underlying3,Result.andThen]
 rw[find_now k es l 0 h];rfl
theorem run_look (w:World)(b:Nat)(l:List (Int × Value))(k:Int)(h:MapAt w b l):(Instr.lookup 155 (.map (some b)) (.int .i64 k) true).run Tryz.prog w =
  .ok (.tuple #[(lookK l k).getD (.agg #[.int .i64 0,.int .i64 0,.slice none 0 0,.slice none 0 0]),.bool (lookK l k).isSome]) w:=by
 obtain⟨es,clock,h1,h2⟩:=h;have hz:(zeroValue 310).run Tryz.prog w=.ok (.agg #[.int .i64 0,.int .i64 0,.slice none 0 0,.slice none 0 0]) w:=by kernel_rfl
 have hc:(Instr.checkKey es.isEmpty 10000 3 (.int .i64 k)).run Tryz.prog w=.ok () w:=MapKept.run_checkKey Tryz.underlying3 (by simp[MapKept.IsKey]) _ 9999
 unfold Instr.lookup
 simp only [Sem.run_bind,run_underlying Tryz.underlying155,MapKept.run_getObj_map h1,Result.andThen,Sem.run_pure,hc,run_find w k es.toList l h2]
 unfold lookK
 cases hs:seek k l 0 with
 | none=>simp[hz]
 | some p=>simp
theorem run_put (w:World)(b:Nat)(l:List (Int × Value))(k:Int)(v:Value)(h:MapAt w b l):∃ w',(Instr.mapUpdate 155 (.map (some b)) (.int .i64 k) v).run Tryz.prog w=.ok () w'∧MapAt w' b (putAt l k v)∧Moved w w' (fun x=>x=b):=by
 obtain⟨es,clock,h1,h2⟩:=h;have hc:(Instr.checkKey false 10000 3 (.int .i64 k)).run Tryz.prog w=.ok () w:=MapKept.run_checkKey Tryz.underlying3 (by simp[MapKept.IsKey]) _ 9999
 have hm:∀ o:Obj,Moved w (ChangeMaps.setBlock w b o) (fun x=>x=b):=fun o=>⟨rfl,rfl,rfl,by simp[ChangeMaps.setBlock],fun x _ hx=>ChangeMaps.heap_setBlock_other h1 o hx⟩
 unfold Instr.mapUpdate putAt
 cases hs:seek k l 0 with
 | none =>
  refine⟨_, ?_,⟨_,_,ChangeMaps.heap_setBlock_same h1 (.map (es.push { key:=.int .i64 k,val:=v,born:=clock }) (clock+1)), ?_⟩,hm _⟩
  ·simp only [Sem.run_bind,run_underlying Tryz.underlying155,MapKept.run_getObj_map h1,Result.andThen,hc,run_find w k es.toList l h2,hs,MapKept.run_setObj_map _ h1]
   rfl
  ·simp[h2]
 | some q =>
  obtain⟨j,u⟩:=q;obtain⟨d,e1,e2, -⟩:=seek_some k l 0 j u hs
  obtain rfl:j=d:=by omega
  have hj:(es.toList.map (fun e=>(e.key,e.val)))[j]?=some (.int .i64 k,u):=by rw[h2,List.getElem?_map,e2];rfl
  rw[List.getElem?_map] at hj
  obtain⟨e,he,hee⟩:∃ e,es.toList[j]?=some e∧(e.key,e.val)=(.int .i64 k,u):=by
   cases h9:es.toList[j]? with
   | none=>rw[h9] at hj;cases hj
   | some e=>rw[h9] at hj;simp at hj;exact⟨e,rfl,by simp[hj]⟩
  have hke:e.key=.int .i64 k:=by simp at hee;exact hee.1
  have hk2:((es[j]?).map (·.key)).getD (.int .i64 k)=.int .i64 k:=by
   rw[show es[j]?=some e by simpa using he]
   simp[hke]
  have hst:(Instr.keyThatStays (.int .i64 k) (.int .i64 k)).run Tryz.prog w=.ok (.int .i64 k) w:=MapKept.run_keyThatStays (d:=.int .i64) (by simp[MapKept.IsKey])
  refine⟨_, ?_,⟨_,_,ChangeMaps.heap_setBlock_same h1 (.map (es.modify j fun e=>{ e with key:=.int .i64 k,val:=v }) clock), ?_⟩,hm _⟩
  ·simp only [Sem.run_bind,run_underlying Tryz.underlying155,MapKept.run_getObj_map h1,Result.andThen,hc,run_find w k es.toList l h2,hs,hk2,hst,MapKept.run_setObj_map _ h1]
   rfl
  ·have hjl:j<es.size:=by
    have:=(List.getElem?_eq_some_iff.1 he).1
    simpa using this
   rw[Array.toList_modify];apply List.ext_getElem?
   intro i;rw[List.getElem?_map,List.getElem?_map,List.getElem?_set,List.getElem?_modify]
   have hi:(es.toList[i]?).map (fun e=>(e.key,e.val))=(l[i]?).map (fun p=>(Value.int .i64 p.1,p.2)):=by
    rw[← List.getElem?_map,h2,List.getElem?_map]
   by_cases hij:j=i
   ·subst hij
    have hl:j<l.length:=(List.getElem?_eq_some_iff.1 e2).1
    rw[he];simp[hl]
   ·simp only [if_neg hij]
    rw[← hi];cases es.toList[i]?<;>rfl
end Go.Proofs.YtgieeeeeiggoeaaGreat
