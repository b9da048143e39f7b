import Derived.Test.YtgieeeeeiggoeaaGreatC25
import Derived.Test.YtgieeeeeiggoeaaGreatC26
import Derived.Test.YtgieeeeeiggoeaaGreatC23
import Derived.Test.YtgieeeeeiggoeaaGreatC07
set_option maxRecDepth 100000
set_option maxHeartbeats 2000000
namespace Go.Proofs.YtgieeeeeiggoeaaGreat
open Go.RowKit Go.Shelf
theorem take_eq (r:Rep)(own:Int)(m:Msg):r.take own m=if m.kind=1 then r.takeRequest own m else if m.kind=2 then r.takeForward own m else if m.kind=3 then r.takeAck own m else if m.kind=7 then r.takeSeal own m else if m.kind=13 then r.takeInstall own m else (r,[]):=rfl
theorem take_any (b:Nat)(own:Int)(r:Rep)(vm vl:Value)(m:Msg)(mm ml:Value)(w:World)(h:RepAt w b own r vm vl)(ok:RepOK r)(h1:IntOwn w mm m.mems)(h2:LogOwn w ml m.log)(hm1:m.mems.length≤5)(hm2:m.log.length≤24)
  (hcli:∀ y∈r.log++m.log,0≤y.client∧y.client≤3) (hep : -1000000≤r.epoch∧r.epoch≤1000000) :
  Calls Tryz.prog 261 #[.pointer (some ⟨b,0,none⟩),mval m mm ml] w fun e w'=>RepOut w w' b own vm vl e (r.take own m):=by
 have HT:=hideA (take_eq r own m)
 have HK:∀ W,Below w.heap.size w W→RepAt W b own r vm vl∧IntOwn W mm m.mems∧LogOwn W ml m.log:=fun W hb=>⟨h.below hb,okp h1 fun k _ hk=>hb.block k hk,okp h2 fun k _ hk=>hb.block k hk⟩
 have HR:=hideA h;have K1:Hid (∀ W,Below w.heap.size w W→Calls Tryz.prog 265 #[.pointer (some ⟨b,0,none⟩),.agg #[.int .i64 m.kind,.int .i64 m.src,.int .i64 m.dst,.int .i64 m.epoch,.int .i64 m.ballot,.int .i64 m.vote,.int .i64 m.pos,.int .i64 m.value,mm,ml]] W fun e w'=>RepOut W w' b own vm vl e (r.takeRequest own m)):=hideA fun W hb=>takeRequest_any b own r vm vl m mm ml W (HK W hb).1 ok (HK W hb).2.2 hcli
 have K2:Hid (∀ W,Below w.heap.size w W→Calls Tryz.prog 266 #[.pointer (some ⟨b,0,none⟩),.agg #[.int .i64 m.kind,.int .i64 m.src,.int .i64 m.dst,.int .i64 m.epoch,.int .i64 m.ballot,.int .i64 m.vote,.int .i64 m.pos,.int .i64 m.value,mm,ml]] W fun e w'=>RepOut W w' b own vm vl e (r.takeForward own m)):=hideA fun W hb=>takeForward_any b own r vm vl m mm ml W (HK W hb).1 ok (HK W hb).2.2 hcli
 have K3:Hid (∀ W,Below w.heap.size w W→Calls Tryz.prog 267 #[.pointer (some ⟨b,0,none⟩),.agg #[.int .i64 m.kind,.int .i64 m.src,.int .i64 m.dst,.int .i64 m.epoch,.int .i64 m.ballot,.int .i64 m.vote,.int .i64 m.pos,.int .i64 m.value,mm,ml]] W fun e w'=>RepOut W w' b own vm vl e (r.takeAck own m)):=hideA fun W hb=>takeAck_any b own r vm vl m mm ml W (HK W hb).1 ok
 have K7:Hid (∀ W,Below w.heap.size w W→Calls Tryz.prog 268 #[.pointer (some ⟨b,0,none⟩),.agg #[.int .i64 m.kind,.int .i64 m.src,.int .i64 m.dst,.int .i64 m.epoch,.int .i64 m.ballot,.int .i64 m.vote,.int .i64 m.pos,.int .i64 m.value,mm,ml]] W fun e w'=>RepOut W w' b own vm vl e (r.takeSeal own m)):=hideA fun W hb=>takeSeal_any b own r vm vl m mm ml W (HK W hb).1 ok hep
 have K13:Hid (∀ W,Below w.heap.size w W→Calls Tryz.prog 269 #[.pointer (some ⟨b,0,none⟩),.agg #[.int .i64 m.kind,.int .i64 m.src,.int .i64 m.dst,.int .i64 m.epoch,.int .i64 m.ballot,.int .i64 m.vote,.int .i64 m.pos,.int .i64 m.value,mm,ml]] W fun e w'=>RepOut W w' b own vm vl e (r.takeInstall own m)):=hideA fun W hb=>takeInstall_any b own r vm vl m mm ml W (HK W hb).1 (HK W hb).2.1 (HK W hb).2.2 hm1 hm2
 clear h ok h1 h2 hcli HK;unfold mval
 go_enter Tryz.func261,Tryz.ntmps261
 go_upto_region 1 with fail
 obtain⟨X,hX,hbX,hBX⟩:=msg_box w m mm ml
 rw[hX];clear hX;have g0:=coh hBX 0
 have g1:=coh hBX 1
 have g2:=coh hBX 2
 have g3:=coh hBX 3
 have g4:=coh hBX 4
 have g5:=coh hBX 5
 have g6:=coh hBX 6
 have g7:=coh hBX 7
 have g8:=coh hBX 8
 have g9:=coh hBX 9
 cases t1:(m.kind == 1) with
 | true =>
  have P1:Hid (m.kind=1):=hideA (by simpa using t1)
  have HN:Hid (r.take own m=r.takeRequest own m):=hideA (by rw[HT.out,if_pos P1.out])
  go_wp2_with fail;refine (K1.out _ hbX).mono ?_
  rintro e Z ⟨v,rfl,hto,hmo⟩;obtain⟨av,cv,hsh⟩:=hmo.shape;subst hsh;generalize hpl:(r.takeRequest own m).2.length=pl at *
  go_wp2_with fail;go_ret;rw[HN.out];exact RepOut.before hbX ⟨_,rfl,hto,hmo⟩
 | false =>
  have N1:Hid (¬ m.kind=1):=hideA (by simpa using t1)
  cases t2:(m.kind == 2) with
  | true =>
   have P2:Hid (m.kind=2):=hideA (by simpa using t2)
   have HN:Hid (r.take own m=r.takeForward own m):=hideA (by rw[HT.out,if_neg N1.out,if_pos P2.out])
   go_wp2_with fail;refine (K2.out _ hbX).mono ?_
   rintro e Z ⟨v,rfl,hto,hmo⟩;obtain⟨av,cv,hsh⟩:=hmo.shape;subst hsh;generalize hpl:(r.takeForward own m).2.length=pl at *
   go_wp2_with fail;go_ret;rw[HN.out];exact RepOut.before hbX ⟨_,rfl,hto,hmo⟩
  | false =>
   have N2:Hid (¬ m.kind=2):=hideA (by simpa using t2)
   cases t3:(m.kind == 3) with
   | true =>
    have P3:Hid (m.kind=3):=hideA (by simpa using t3)
    have HN:Hid (r.take own m=r.takeAck own m):=hideA (by rw[HT.out,if_neg N1.out,if_neg N2.out,if_pos P3.out])
    go_wp2_with fail;refine (K3.out _ hbX).mono ?_
    rintro e Z ⟨v,rfl,hto,hmo⟩;obtain⟨av,cv,hsh⟩:=hmo.shape;subst hsh;generalize hpl:(r.takeAck own m).2.length=pl at *
    go_wp2_with fail;go_ret;rw[HN.out];exact RepOut.before hbX ⟨_,rfl,hto,hmo⟩
   | false =>
    have N3:Hid (¬ m.kind=3):=hideA (by simpa using t3)
    cases t7:(m.kind == 7) with
    | true =>
     have P7:Hid (m.kind=7):=hideA (by simpa using t7)
     have HN:Hid (r.take own m=r.takeSeal own m):=hideA (by rw[HT.out,if_neg N1.out,if_neg N2.out,if_neg N3.out,if_pos P7.out])
     go_wp2_with fail;refine (K7.out _ hbX).mono ?_
     rintro e Z ⟨v,rfl,hto,hmo⟩;obtain⟨av,cv,hsh⟩:=hmo.shape;subst hsh;generalize hpl:(r.takeSeal own m).2.length=pl at *
     go_wp2_with fail;go_ret;rw[HN.out];exact RepOut.before hbX ⟨_,rfl,hto,hmo⟩
    | false =>
     have N7:Hid (¬ m.kind=7):=hideA (by simpa using t7)
     cases t13:(m.kind == 13) with
     | true =>
      have P13:Hid (m.kind=13):=hideA (by simpa using t13)
      have HN:Hid (r.take own m=r.takeInstall own m):=hideA (by rw[HT.out,if_neg N1.out,if_neg N2.out,if_neg N3.out,if_neg N7.out,if_pos P13.out])
      go_wp2_with fail;refine (K13.out _ hbX).mono ?_
      rintro e Z ⟨v,rfl,hto,hmo⟩;obtain⟨av,cv,hsh⟩:=hmo.shape;subst hsh;generalize hpl:(r.takeInstall own m).2.length=pl at *
      go_wp2_with fail;go_ret;rw[HN.out];exact RepOut.before hbX ⟨_,rfl,hto,hmo⟩
     | false =>
      have N13:Hid (¬ m.kind=13):=hideA (by simpa using t13)
      have HN:Hid (r.take own m=(r,[])):=hideA (by rw[HT.out,if_neg N1.out,if_neg N2.out,if_neg N3.out,if_neg N7.out,if_neg N13.out])
      go_wp2_with fail;go_ret;rw[HN.out];exact RepOut.still HR.out hbX
theorem tickNot_any (b:Nat)(own:Int)(r:Rep)(vm vl:Value)(w:World)(h:RepAt w b own r vm vl)(ok:RepOK r)(hlv:r.live own=false) :
  Calls Tryz.prog 262 #[.pointer (some ⟨b,0,none⟩)] w fun e w'=>∃ v,e=.returned v∧MsgsOwn w' w.heap.size v []∧Below w.heap.size w w':=by
 have HL:Hid (∀ W,Below w.heap.size w W→Calls Tryz.prog 263 #[.pointer (some ⟨b,0,none⟩)] W fun e w'=>e=.returned (.bool false)∧∃ q,w'=W.drewN q):=hideA fun W hb=>by rw[← hlv];exact isLive_any b own r vm vl W (h.below hb) ok
 clear h ok hlv;go_enter Tryz.func262,Tryz.ntmps262
 go_wp2_with fail;have hb:=(Below.refl w.heap.size w).alloc (Nat.le_refl _) (.cells #[.pointer (some ⟨b,0,none⟩)] 129)
 refine (HL.out _ hb).mono ?_
 rintro e W ⟨rfl,q,rfl⟩;go_wp2_with fail;go_ret;exact⟨_,rfl,MsgsOwn.nil _ _,below_drewN hb _⟩
theorem tickTail_any (b:Nat)(own:Int)(r:Rep)(vm vl:Value)(w:World)(h:RepAt w b own r vm vl)(ok:RepOK r)(hlv:r.live own=true)(hnx:nextOf r.mems own=none) :
  Calls Tryz.prog 262 #[.pointer (some ⟨b,0,none⟩)] w fun e w'=>∃ v,e=.returned v∧MsgsOwn w' w.heap.size v (r.acks own)∧Below w.heap.size w w':=by
 have HL:Hid (∀ W,Below w.heap.size w W→Calls Tryz.prog 263 #[.pointer (some ⟨b,0,none⟩)] W fun e w'=>e=.returned (.bool true)∧∃ q,w'=W.drewN q):=hideA fun W hb=>by rw[← hlv];exact isLive_any b own r vm vl W (h.below hb) ok
 have HB:Hid (∀ W,Below w.heap.size w W→Calls Tryz.prog 270 #[.pointer (some ⟨b,0,none⟩)] W fun e w'=>e=.returned (.tuple #[.int .i64 0,.bool false])∧Below W.heap.size W w'):=hideA fun W hb=>by
  have:=behind_any b own r vm vl W (h.below hb) ok
  rw[hnx] at this
  exact this
 have HA:Hid (∀ W,Below w.heap.size w W→Calls Tryz.prog 271 #[.pointer (some ⟨b,0,none⟩)] W fun e w'=>∃ v,e=.returned v∧MsgsOwn w' W.heap.size v (r.acks own)∧Below W.heap.size W w'):=hideA fun W hb=>ackAhead_any b own r vm vl W (h.below hb) ok
 clear h ok hlv hnx;go_enter Tryz.func262,Tryz.ntmps262
 go_wp2_with fail;obtain⟨X1,hX1,hb1,hs1,c1, -, -, -, -⟩:=box_more (Below.refl _ w) (.pointer (some ⟨b,0,none⟩)) 129
 rw[hX1];clear hX1;refine (HL.out _ hb1).mono ?_
 rintro e W ⟨rfl,q,rfl⟩;have hb2:=below_drewN hb1 q
 have c2:(X1.drewN q).cell? ⟨w.heap.size,0,none⟩=some (.pointer (some ⟨b,0,none⟩)):=c1
 have hs2:(X1.drewN q).heap.size=w.heap.size+1:=hs1
 generalize X1.drewN q=X2 at *
 clear c1 hb1 hs1;go_wp2_with fail;refine (HB.out _ hb2).mono ?_
 rintro e X3 ⟨rfl,hb3⟩;have hb3':=hb2.trans (hb3.mono hb2.size)
 have c3:=cell_later hb3 c2
 have hb4:∀ o,Below w.heap.size w (X3.alloc o):=fun o=>hb3'.alloc hb3'.size o
 have c4:∀ o,(X3.alloc o).cell? ⟨w.heap.size,0,none⟩=some (.pointer (some ⟨b,0,none⟩)):=fun o=>cell_later ((Below.refl _ X3).alloc (Nat.le_refl _) o) c3
 clear c2 hs2;go_wp2_with fail;refine (HA.out _ (hb4 _)).mono ?_
 rintro e X5 ⟨v,rfl,hmo,hb5⟩;obtain⟨av,cv,hsh⟩:=hmo.shape;subst hsh;generalize hpl:(r.acks own).length=pl at *
 have hbf:=(hb4 (.cells #[.int .i64 0] 3)).trans (hb5.mono (hb4 _).size)
 go_wp2_with fail;go_ret;exact⟨_,rfl,hmo.base (hb4 _).size,hbf⟩
theorem tick_any (b:Nat)(own:Int)(r:Rep)(vm vl:Value)(w:World)(h:RepAt w b own r vm vl)(ok:RepOK r) :
  Calls Tryz.prog 262 #[.pointer (some ⟨b,0,none⟩)] w fun e w'=>∃ v,e=.returned v∧MsgsOwn w' w.heap.size v (r.tick own)∧Below w.heap.size w w':=by
 have HT:r.tick own=if r.live own then (match nextOf r.mems own with|none=>r.acks own|some nx=>(placesFrom r.commit r.log.length).map (r.forward own nx)) else []:=rfl
 cases hlv:r.live own with
 | true =>
  cases hnx:nextOf r.mems own with
  | some nx =>
   rw[HT,hlv,hnx];exact callsIn_wide.1 (tick_in 6 (hideA (by omega)) b own r vm vl w h ok hlv nx hnx)
  | none =>
   rw[HT,hlv,hnx];exact tickTail_any b own r vm vl w h ok hlv hnx
 | false =>
  rw[HT,hlv];exact tickNot_any b own r vm vl w h ok hlv
theorem repCrash_any (b:Nat)(own:Int)(r:Rep)(vm vl:Value)(w:World)(h:RepAt w b own r vm vl) :
  Calls Tryz.prog 259 #[.pointer (some ⟨b,0,none⟩)] w fun e w'=>(∃ v,e=.returned v)∧RepTo w w' b own vm vl { r with commit:=r.base }:=by
 have c5:w.cell? ⟨b,5,none⟩=some (.int .i64 (r.base:Int)):=coh h.blk 5
 have c6:w.cell? ⟨b,6,none⟩=some (.int .i64 (r.commit:Int)):=coh h.blk 6
 have f6:w.frozen? ⟨b,6,none⟩=false:=foh h.blk 6
 have R1:=hideA (h.set 6 (.int .i64 (r.base:Int)) { r with commit:=r.base } vm vl rfl h.hm h.hl)
 clear h;go_enter Tryz.func259,Tryz.ntmps259
 go_wp2_with fail;go_end0
 exact⟨⟨_,rfl⟩,_,_,R1.out,(Moved.refl w _).setCell ⟨b,6,none⟩ (.inl rfl) _,Grows.refl _ _,Grows.refl _ _⟩
def Rep.rise (r:Rep)(own:Int):Rep:=if r.live own∧nextOf r.mems own=none then { r with commit:=r.log.length } else r
theorem repRestart_any (b:Nat)(own:Int)(r:Rep)(vm vl:Value)(w:World)(h:RepAt w b own r vm vl)(ok:RepOK r) :
  Calls Tryz.prog 260 #[.pointer (some ⟨b,0,none⟩)] w fun e w'=>(∃ v,e=.returned v)∧RepTo w w' b own vm vl (r.rise own):=by
 have HT:Hid (r.rise own=if r.live own∧nextOf r.mems own=none then { r with commit:=r.log.length } else r):=hideA rfl
 obtain⟨al,cl,rfl⟩:=osh h.hl
 have HL:Hid (∀ W,Below w.heap.size w W→Calls Tryz.prog 263 #[.pointer (some ⟨b,0,none⟩)] W fun e w'=>e=.returned (.bool (r.live own))∧∃ q,w'=W.drewN q):=hideA fun W hb=>isLive_any b own r vm _ W (h.below hb) ok
 have HTl:Hid (∀ W,Below w.heap.size w W→Calls Tryz.prog 264 #[.pointer (some ⟨b,0,none⟩)] W fun e w'=>e=.returned (.bool (!(nextOf r.mems own).isSome))∧Below W.heap.size W w'):=hideA fun W hb=>isTail_any b own r vm _ W (h.below hb) ok
 have HR:=hideA h;clear h ok;go_enter Tryz.func260,Tryz.ntmps260
 go_wp2_with fail;refine (HL.out _ (Below.refl _ _)).mono ?_
 rintro e W ⟨rfl,q,rfl⟩;have hb:=below_drewN (Below.refl w.heap.size w) q
 generalize w.drewN q=X at *
 cases hlv:r.live own with
 | false =>
  go_wp2_with fail;go_end0
  exact⟨⟨_,rfl⟩,by rw[HT.out,if_neg (by rintro⟨h1, -⟩;rw[hlv] at h1;cases h1)];exact RepTo.still HR.out hb⟩
 | true =>
  go_wp2_with fail;refine (HTl.out _ hb).mono ?_
  rintro e Y ⟨rfl,hb2⟩;have hbY:=hb.trans (hb2.mono hb.size)
  have RY:=hideA (HR.out.below hbY)
  cases hnx:nextOf r.mems own with
  | some nx =>
   go_wp2_with fail;go_end0
   exact⟨⟨_,rfl⟩,by rw[HT.out,if_neg (by rintro⟨-,h1⟩;rw[hnx] at h1;cases h1)];exact RepTo.still HR.out hbY⟩
  | none =>
   have c4:Y.cell? ⟨b,4,none⟩=some (.slice al r.log.length cl):=coh RY.out.blk 4
   have c6:Y.cell? ⟨b,6,none⟩=some (.int .i64 (r.commit:Int)):=coh RY.out.blk 6
   have f6:Y.frozen? ⟨b,6,none⟩=false:=foh RY.out.blk 6
   have R1:=hideA (RY.out.set 6 (.int .i64 (r.log.length:Int)) { r with commit:=r.log.length } vm _ rfl RY.out.hm RY.out.hl)
   go_wp2_with fail;go_end0
   exact⟨⟨_,rfl⟩,by rw[HT.out,if_pos ⟨hlv,hnx⟩];exact⟨_,_,R1.out,((Moved.refl w _).below hbY).setCell ⟨b,6,none⟩ (.inl rfl) _,Grows.refl _ _,Grows.refl _ _⟩⟩
theorem repNew_any (own:Int)(l:List Int)(v:Value)(w:World)(hv:IntOwn w v l)(hl:l.length≤5) :
  Calls Tryz.prog 107 #[.int .i64 own,v] w fun e w'=>∃ b vm,e=.returned (.pointer (some ⟨b,0,none⟩))∧RepAt w' b own { up:=true,epoch:=0,lock:=0,mems:=l,log:=[],base:=0,commit:=0 } vm (.slice none 0 0)∧w.heap.size≤b∧(∀ k,vm.ownBlock=some k→w.heap.size≤k)∧Below w.heap.size w w':=by
 have hc:=cloneMems_any v l w hv (by omega)
 obtain⟨a0,c0,rfl⟩:=osh hv
 clear hv;go_enter Tryz.func107,Tryz.ntmps107
 go_wp2_with fail;refine hc.mono ?_
 rintro e W ⟨a,c,rfl,ho,hb⟩;clear hc;have HO:=hideA ho;go_wp2_with fail;go_ret;refine⟨_,.slice a l.length c,rfl,⟨hnw _ _,(obs HO.out (Nat.zero_le _)).alloc _,LogOwn.nil _⟩,hb.size,fun k hk=>by obtain⟨_,_,h3⟩:=obc HO.out hk;have:=h3;omega,hb.alloc hb.size _⟩
theorem repStatus_any (b:Nat)(own:Int)(r:Rep)(vm vl:Value)(w:World)(h:RepAt w b own r vm vl)(ok:RepOK r) :
  Calls Tryz.prog 111 #[.pointer (some ⟨b,0,none⟩)] w fun e w'=>∃ a c a' c',e=.returned (.agg #[.bool false,.int .i64 r.epoch,.int .i64 r.lock,.int .i64 (r.commit:Int),.slice a r.mems.length c,.slice a' r.log.length c']) ∧
   w'.ownsRow w.heap.size 3 1 (.slice a r.mems.length c) r.mems.length (ints r.mems)∧w'.ownsRow w.heap.size 42 5 (.slice a' r.log.length c') r.log.length (ints (entsNums r.log))∧Below w.heap.size w w':=by
 obtain⟨am,cm,rfl⟩:=osh h.hm
 obtain⟨al,cl,rfl⟩:=osh h.hl
 have hbl:b<w.heap.size:=(Array.getElem?_eq_some_iff.1 h.blk).1
 have hne1:¬ b=w.heap.size:=by omega
 have hne2:¬ w.heap.size=b:=by omega
 have hm5:=ok.m
 have hl24:=ok.l
 have HR:=hideA h;have HS:Hid (∀ W,Below w.heap.size w W→W.cell? ⟨b,1,none⟩=some (.int .i64 r.epoch)∧W.cell? ⟨b,2,none⟩=some (.int .i64 r.lock)∧W.cell? ⟨b,6,none⟩=some (.int .i64 (r.commit:Int))∧W.cell? ⟨b,3,none⟩=some (.slice am r.mems.length cm)∧W.cell? ⟨b,4,none⟩=some (.slice al r.log.length cl)):=hideA fun W hb =>
  ⟨coh (HR.out.below hb).blk 1,coh (HR.out.below hb).blk 2,coh (HR.out.below hb).blk 6,coh (HR.out.below hb).blk 3,coh (HR.out.below hb).blk 4⟩
 have HC1:Hid (∀ W,Below w.heap.size w W→W.heap[w.heap.size]?=some (.cells #[.bool false,.int .i64 0,.int .i64 0,.int .i64 0,.slice none 0 0,.slice none 0 0] 46)→Calls Tryz.prog 69 #[.slice am r.mems.length cm] W fun e w'=>∃ a c,e=.returned (.slice a r.mems.length c)∧w'.ownsRow (w.heap.size+1) 3 1 (.slice a r.mems.length c) r.mems.length (ints r.mems)∧Below W.heap.size W w'∧Below w.heap.size w w'∧w'.heap[w.heap.size]?=some (.cells #[.bool false,.int .i64 0,.int .i64 0,.int .i64 0,.slice none 0 0,.slice none 0 0] 46)):=hideA fun W hb hB=>(cloneMems_any _ r.mems W (HR.out.below hb).hm (by omega)).mono (by
  rintro e w' ⟨a,c,rfl,h1,h2⟩;exact⟨a,c,rfl,obs h1 (by have:=(Array.getElem?_eq_some_iff.1 hB).1;omega),h2,hb.trans (h2.mono hb.size),(h2.block _ (Array.getElem?_eq_some_iff.1 hB).1).trans hB⟩)
 have HC2:Hid (∀ W,Below w.heap.size w W→W.heap[w.heap.size]?=some (.cells #[.bool false,.int .i64 0,.int .i64 0,.int .i64 0,.slice none 0 0,.slice none 0 0] 46)→Calls Tryz.prog 147 #[.slice al r.log.length cl] W fun e w'=>∃ a c,e=.returned (.slice a r.log.length c)∧w'.ownsRow (w.heap.size+1) 42 5 (.slice a r.log.length c) r.log.length (ints (entsNums r.log))∧Below W.heap.size W w'∧Below w.heap.size w w'∧w'.heap[w.heap.size]?=some (.cells #[.bool false,.int .i64 0,.int .i64 0,.int .i64 0,.slice none 0 0,.slice none 0 0] 46)):=hideA fun W hb hB=>(cloneLog_any _ r.log W (HR.out.below hb).hl (by omega)).mono (by
  rintro e w' ⟨a,c,rfl,h1,h2⟩;exact⟨a,c,rfl,obs h1 (by have:=(Array.getElem?_eq_some_iff.1 hB).1;omega),h2,hb.trans (h2.mono hb.size),(h2.block _ (Array.getElem?_eq_some_iff.1 hB).1).trans hB⟩)
 clear h ok;go_enter Tryz.func111,Tryz.ntmps111
 go_wp2_with fail;have hb0:=(Below.refl w.heap.size w).alloc (Nat.le_refl _) (.cells #[.bool false,.int .i64 0,.int .i64 0,.int .i64 0,.slice none 0 0,.slice none 0 0] 46)
 have hB0:(w.alloc (.cells #[.bool false,.int .i64 0,.int .i64 0,.int .i64 0,.slice none 0 0,.slice none 0 0] 46)).heap[w.heap.size]?=some (.cells #[.bool false,.int .i64 0,.int .i64 0,.int .i64 0,.slice none 0 0,.slice none 0 0] 46):=hnw _ _
 generalize w.alloc (.cells #[.bool false,.int .i64 0,.int .i64 0,.int .i64 0,.slice none 0 0,.slice none 0 0] 46)=X at *
 obtain⟨s1,s2,s6,s3,s4⟩:=HS.out X hb0
 have HB0:=hideA hB0;clear hB0;go_region_held3 (fun w'=>w'.cell? ⟨b,1,none⟩=some (.int .i64 r.epoch)∧w'.cell? ⟨b,2,none⟩=some (.int .i64 r.lock)∧w'.cell? ⟨b,6,none⟩=some (.int .i64 (r.commit:Int))∧w'.cell? ⟨b,3,none⟩=some (.slice am r.mems.length cm)∧w'.cell? ⟨b,4,none⟩=some (.slice al r.log.length cl)) (first|(simp[go_sem];done)|(simp[go_sem, *];done)|go_keep)
  (first
   | (go_at_call 69;refine (HC1.out _ hb0.drew HB0.out).mono ?_;rintro e Y1 ⟨a1,c1,rfl,o1,hl1,hb1,B1⟩;obtain⟨u1,u2,u6,u3,u4⟩:=HS.out Y1 hb1;have HB1:=hideA B1;have O1:=hideA o1;have gM:=fun j=>coh B1 j;have gF:=fun j=>foh B1 j;clear B1 o1)
   | (go_at_call 69;refine (HC1.out _ hb2 HB2.out).mono ?_;rintro e Y1 ⟨a1,c1,rfl,o1,hl1,hb1,B1⟩;obtain⟨u1,u2,u6,u3,u4⟩:=HS.out Y1 hb1;have HB1:=hideA B1;have O1:=hideA o1;have gM1:=fun j=>coh B1 j;have gF1:=fun j=>foh B1 j;clear B1 o1)
   | (go_at_call 147;refine (HC2.out _ hb0.drew HB0.out).mono ?_;rintro e Y2 ⟨a2,c2,rfl,o2,hl2,hb2,B2⟩;obtain⟨v1,v2,v6,v3,v4⟩:=HS.out Y2 hb2;have HB2:=hideA B2;have O2:=hideA o2;have gN:=fun j=>coh B2 j;have gG:=fun j=>foh B2 j;clear B2 o2)
   | (go_at_call 147;refine (HC2.out _ hb1 HB1.out).mono ?_;rintro e Y2 ⟨a2,c2,rfl,o2,hl2,hb2,B2⟩;obtain⟨v1,v2,v6,v3,v4⟩:=HS.out Y2 hb2;have HB2:=hideA B2;have O2:=hideA o2;have gN:=fun j=>coh B2 j;have gG:=fun j=>foh B2 j;clear B2 o2))
 all_goals go_wp2_with fail
 all_goals (
  refine bodyPost_ret (v:=.agg #[.bool false,.int .i64 r.epoch,.int .i64 r.lock,.int .i64 (r.commit:Int),.slice a1 r.mems.length c1,.slice a2 r.log.length c2]) (by simp[results,Tryz.results111,go_sem,gN]) rfl ?_
  have hz:w.heap.size<w.heap.size+1:=Nat.lt_succ_self _
  have o1':=okp O1.out (fun k _ hk=>hl2.block k hk)
  exact⟨a1,c1,a2,c2,rfl,obs (ownsRow_setCell_below (ownsRow_setCell_below (ownsRow_setCell_below (ownsRow_setCell_below (ownsRow_setCell_below (ownsRow_setCell_below o1' hz _) hz _) hz _) hz _) hz _) hz _) (Nat.le_succ _),
      obs (ownsRow_setCell_below (ownsRow_setCell_below (ownsRow_setCell_below (ownsRow_setCell_below (ownsRow_setCell_below (ownsRow_setCell_below O2.out hz _) hz _) hz _) hz _) hz _) hz _) (Nat.le_succ _),by
      iterate 6 refine Below.setCell ?_ (by exact Nat.le_refl _) _
      exact hb2⟩)
def NodAt (w:World)(F:Nat→Prop)(b:Nat)(own:Int):Nod→Prop
 | .rep r=>(∃ vm vl,RepAt w b own r vm vl∧(∀ k,RepS b vm vl k→F k)∧∀ k,F k→k<w.heap.size)∧(r.up=false→r.commit=r.base)
 | .acc a=>AccAt w F b own a
 | .mas s=>(∃ p,MRel own s p∧MasAt w F b own p)∧(s.up=false→s.does=0)
structure NodOK (n:Nat)(E:Int)(own:Int)(x:Nod):Prop where
 n5:n≤5
 E0:0≤E∧E≤2000
 rep:∀ r,x=.rep r→RepWF n E r
 acc:∀ a,x=.acc a→AccWF n E a
 mas:∀ s,x=.mas s→MasWF n E s∧200≤own∧own≤201
theorem RepAt.keep {w w':World}{b:Nat}{own:Int}{r:Rep}{vm vl:Value}(h:RepAt w b own r vm vl)(hk:∀ k,RepS b vm vl k→w'.heap[k]?=w.heap[k]?):RepAt w' b own r vm vl :=
 ⟨(hk b (.inl rfl)).trans h.blk,oon h.hm fun k e=>hk k (.inr (.inl e)),oon h.hl fun k e=>hk k (.inr (.inr e))⟩
theorem lt_of_keep {w w':World}{k:Nat}(h:k<w.heap.size)(hk:w'.heap[k]?=w.heap[k]?):k<w'.heap.size:=by
 rw[Array.getElem?_eq_getElem h] at hk
 exact (Array.getElem?_eq_some_iff.1 hk).1
theorem NodAt.keep {w w':World}{F:Nat→Prop}{b:Nat}{own:Int}{x:Nod}(h:NodAt w F b own x)(hk:∀ k,F k→w'.heap[k]?=w.heap[k]?):NodAt w' F b own x:=by
 cases x with
 | rep r =>
  obtain⟨⟨vm,vl,h1,h2,h3⟩,h4⟩:=h;exact⟨⟨vm,vl,h1.keep fun k e=>hk k (h2 k e),h2,fun k e=>lt_of_keep (h3 k e) (hk k e)⟩,h4⟩
 | acc a =>
  obtain⟨vm,g,l,h⟩:=h;exact⟨vm,g,l,h.keep hk⟩
 | mas s =>
  obtain⟨⟨p,h1,vw,vo,vm,vl,h2⟩,h3⟩:=h;exact⟨⟨p,h1,vw,vo,vm,vl,h2.keep hk⟩,h3⟩
theorem NodAt.lt {w:World}{F:Nat→Prop}{b:Nat}{own:Int}{x:Nod}(h:NodAt w F b own x){k:Nat}(hk:F k):k<w.heap.size:=by
 cases x with
 | rep r =>
  obtain⟨⟨vm,vl,h1,h2,h3⟩,h4⟩:=h;exact h3 k hk
 | acc a =>
  obtain⟨vm,g,l,h⟩:=h;exact h.lt k hk
 | mas s =>
  obtain⟨⟨p,h1,vw,vo,vm,vl,h2⟩,h3⟩:=h;exact h2.lt k hk
def NodOut (w w':World)(F:Nat→Prop)(b:Nat)(own:Int)(e:Ending)(q:Nod × List Msg):Prop :=
 ∃ v F',e=.returned v∧NodAt w' F' b own q.1∧Moved w w' F∧(∀ k,F' k→F k∨w.heap.size≤k)∧MsgsOwn w' w.heap.size v q.2
def NodTo (w w':World)(F:Nat→Prop)(b:Nat)(own:Int)(x:Nod):Prop :=
 ∃ F',NodAt w' F' b own x∧Moved w w' F∧(∀ k,F' k→F k∨w.heap.size≤k)
theorem Moved.wider {w w':World}{S F:Nat→Prop}(h:Moved w w' S)(hS:∀ k,S k→F k):Moved w w' F:=⟨h.os,h.tape,h.output,h.size,fun k hk hF=>h.block k hk (fun e=>hF (hS k e))⟩
theorem repTo_nod {w w':World}{F:Nat→Prop}{b:Nat}{own:Int}{vm vl:Value}{r':Rep}(hF:∀ k,RepS b vm vl k→F k)(h:RepTo w w' b own vm vl r')(hd:r'.up=false→r'.commit=r'.base):NodTo w w' F b own (.rep r'):=by
 obtain⟨vm',vl',h1,h2,h3,h4⟩:=h;have key:∀ {base size n:Nat} {e:TypeId} {v:Value} {xs:List Value},w'.ownsRow base e size v n xs→∀ k,v.ownBlock=some k→k<w'.heap.size:=by
  intro base size n e v xs hr k hk;obtain⟨_,h6,_⟩:=obc hr hk
  exact (Array.getElem?_eq_some_iff.1 h6).1
 refine⟨fun k=>RepS b vm' vl' k,⟨⟨vm',vl',h1,fun k e=>e,fun k e => ?_⟩,hd⟩,h2.wider hF,fun k e => ?_⟩
 ·rcases e with rfl|e|e
  ·exact (Array.getElem?_eq_some_iff.1 h1.blk).1
  ·exact key h1.hm k e
  ·exact key h1.hl k e
 ·rcases e with rfl|e|e
  ·exact .inl (hF _ (.inl rfl))
  ·rcases h3 k e with h5|h5
   ·exact .inl (hF _ (.inr (.inl h5)))
   ·exact .inr h5
  ·rcases h4 k e with h5|h5
   ·exact .inl (hF _ (.inr (.inr h5)))
   ·exact .inr h5
theorem RepWF.ok {n:Nat}{E:Int}{r:Rep}(h:RepWF n E r)(hn:n≤5):RepOK r:=⟨by have:=memsOk_length h.mems;omega,h.log.1,h.commit⟩
theorem AccWF.ok {n:Nat}{E:Int}{a:Acc}(h:AccWF n E a)(hn:n≤5):AccOK a:=by
 refine⟨by have:=memsOk_length h.mems;omega,fun e=>⟨?_,(h.votes e).log.1⟩⟩
 rcases (h.votes e).mems with e1|e1
 ·simp[e1]
 ·have:=memsOk_length e1;omega
theorem MRel.ok {own:Int}{n:Nat}{E:Int}{s:Mas}{p:PMas}(h:MRel own s p)(hw:MasWF n E s)(hn:n≤5)(ho:200≤own∧own≤201):MasOK p own:=by
 refine⟨?_,h.old5,h.mems5,h.log24,by rw[h.begun];exact hw.begun,by rw[h.doing];have:=hw.does;omega,ho⟩
 have:=h.count
 have:=all_len hw hn
 omega
theorem MsgWF.mems5 {n:Nat}{E:Int}{m:Msg}(h:MsgWF n E m)(hn:n≤5):m.mems.length≤5:=by
 rcases h.mems with e|e
 ·simp[e]
 ·have:=memsOk_length e;omega
theorem take_up (r:Rep)(own:Int)(m:Msg):(r.take own m).1.up=r.up:=by
 have hp:∀ e,(r.put own e).1.up=r.up:=by
  intro e;unfold Rep.put
  split
  ·rfl
  ·rfl
 unfold Rep.take
 split
 ·split
  ·unfold Rep.asked
   split
   ·rfl
   ·split
    ·split<;>rfl
    ·split
     ·rfl
     ·exact hp _
  ·rfl
 ·split
  ·unfold Rep.takeForward
   split
   ·split
    ·exact hp _
    ·split<;>rfl
   ·rfl
  ·split
   ·unfold Rep.takeAck
    split<;>rfl
   ·split
    ·unfold Rep.takeSeal
     split<;>rfl
    ·split
     ·unfold Rep.takeInstall
      simp only
      split<;>rfl
     ·rfl
theorem masTake_up (s:Mas)(m:Msg):(s.take m).1.up=s.up:=by
 unfold Mas.take
 split
 ·split
  ·split<;>rfl
  ·rfl
  ·split
   ·rfl
   ·split<;>rfl
  ·split<;>rfl
  ·split<;>rfl
 ·rfl
theorem ok_client {e:Ent}(h:e.ok=true):0≤e.client∧e.client≤3:=by
 unfold Ent.ok at h
 simp only [Bool.and_eq_true,Bool.or_eq_true,decide_eq_true_eq] at h
 omega
def takeFn : Nod→Nat
 | .rep _=>261
 | .acc _=>250
 | .mas _=>239
def tickFn : Nod→Nat
 | .rep _=>262
 | .acc _=>251
 | .mas _=>125
def crashFn : Nod→Nat
 | .rep _=>259
 | .acc _=>248
 | .mas _=>237
def restartFn : Nod→Nat
 | .rep _=>260
 | .acc _=>249
 | .mas _=>238
theorem nodTake_any (n:Nat)(E:Int)(F:Nat→Prop)(b:Nat)(own:Int)(x:Nod)(m:Msg)(mm ml:Value)(w:World)(h:NodAt w F b own x)(ok:NodOK n E own x)(hu:x.up=true)(hm:MsgWF n E m)(h1:IntOwn w mm m.mems)(h2:LogOwn w ml m.log)(hd:m.dst=own)(hmF:∀ k,mm.ownBlock=some k→¬ F k)(hlF:∀ k,ml.ownBlock=some k→¬ F k) :
  Calls Tryz.prog (takeFn x) #[.pointer (some ⟨b,0,none⟩),mval m mm ml] w fun e w'=>NodOut w w' F b own e (x.take own m):=by
 have hm5:=hm.mems5 ok.n5
 have hl24:=hm.log.1
 cases x with
 | rep r =>
  obtain⟨⟨vm,vl,g1,g2,g3⟩,g4⟩:=h;have hw:=ok.rep r rfl
  refine (take_any b own r vm vl m mm ml w g1 (hw.ok ok.n5) h1 h2 hm5 hl24 ?_ ?_).mono ?_
  ·intro y hy
   rcases List.mem_append.1 hy with e|e
   ·exact ok_client (hw.log.2 y e)
   ·exact ok_client (hm.log.2 y e)
  ·have:=hw.epoch;have:=ok.E0;omega
  ·rintro e w' ⟨v,rfl,h3,h4⟩
   obtain⟨F',h5,h6,h7⟩:=repTo_nod g2 h3 (by
    rw[take_up];intro e;have:r.up=true:=hu
    rw[this] at e
    cases e)
   exact⟨v,F',rfl,h5,h6,h7,h4⟩
 | acc a =>
  refine (accTake_any F b own a m mm ml w h ((ok.acc a rfl).ok ok.n5) h1 h2 hm5 hl24 hd).mono ?_
  rintro e w' ⟨v,F',rfl,h3,h4,h5,h6⟩;exact⟨v,F',rfl,h3,h4,h5,h6⟩
 | mas s =>
  obtain⟨⟨p,g1,g2⟩,g3⟩:=h;obtain⟨hw,ho⟩:=ok.mas s rfl
  have hr:=g1.take hw ok.n5 hm hd
  refine (masTake_any F b own p m mm ml w g2 (g1.ok hw ok.n5 ho) h1 h2 hm5 hl24 (by have:=hm.epoch;have:=ok.E0;omega) hmF hlF).mono ?_
  rintro e w' ⟨v,F',rfl,h3,h4,h5,h6⟩;refine⟨v,F',rfl,⟨⟨_,hr.1,h3⟩, ?_⟩,h4,h5, ?_⟩
  ·rw[masTake_up]
   intro e;have:s.up=true:=hu
   rw[this] at e
   cases e
  ·rw[hr.2] at h6
   exact h6
theorem nodTick_any (n:Nat)(E:Int)(F:Nat→Prop)(b:Nat)(own:Int)(x:Nod)(w:World)(h:NodAt w F b own x)(ok:NodOK n E own x) :
  Calls Tryz.prog (tickFn x) #[.pointer (some ⟨b,0,none⟩)] w fun e w'=>NodOut w w' F b own e (x,x.tick own):=by
 cases x with
 | rep r =>
  have HK:=h
  obtain⟨⟨vm,vl,g1,g2,g3⟩,g4⟩:=h;refine (tick_any b own r vm vl w g1 ((ok.rep r rfl).ok ok.n5)).mono ?_
  rintro e w' ⟨v,rfl,h3,h4⟩;exact⟨v,F,rfl,HK.keep fun k hk=>h4.block k (g3 k hk),(Moved.refl w F).below h4,fun k hk=>.inl hk,h3⟩
 | acc a =>
  refine (accTick_any F b own a w h).mono ?_
  rintro e w' ⟨v,F',rfl,h3,h4,h5,h6⟩;exact⟨v,F',rfl,h3,h4,h5,h6⟩
 | mas s =>
  have HK:=h
  obtain⟨⟨p,g1,g2⟩,g3⟩:=h;obtain⟨hw,ho⟩:=ok.mas s rfl
  obtain⟨vw,vo,vm,vl,g2⟩:=g2;refine (masTick_any F b own p vw vo vm vl w g2 (g1.ok hw ok.n5 ho)).mono ?_
  rintro e w' ⟨v,rfl,h3,h4⟩;rw[g1.asks hw.does] at h3
  exact⟨v,F,rfl,HK.keep fun k hk=>h4.block k (g2.lt k hk),(Moved.refl w F).below h4,fun k hk=>.inl hk,h3⟩
theorem nodCrash_any (F:Nat→Prop)(b:Nat)(own:Int)(x:Nod)(w:World)(h:NodAt w F b own x) :
  Calls Tryz.prog (crashFn x) #[.pointer (some ⟨b,0,none⟩)] w fun e w'=>(∃ v,e=.returned v)∧NodTo w w' F b own x.crash:=by
 cases x with
 | rep r =>
  obtain⟨⟨vm,vl,g1,g2,g3⟩,g4⟩:=h;refine (repCrash_any b own r vm vl w g1).mono ?_
  rintro e w' ⟨h1,vm',vl',h3,h4,h5,h6⟩;exact⟨h1,repTo_nod g2 ⟨vm',vl',⟨h3.blk,h3.hm,h3.hl⟩,h4,h5,h6⟩ (fun _=>rfl)⟩
 | acc a =>
  refine (accCrash_any b w).mono ?_
  rintro e w' ⟨h1,rfl⟩;obtain⟨vm,g,l,h⟩:=h;exact⟨h1,F,⟨vm,g,l,⟨h.blk,h.hm,h.map,h.votes,h.fb,h.fg,h.fm,h.lt⟩⟩,Moved.refl _ F,fun k hk=>.inl hk⟩
 | mas s =>
  obtain⟨⟨p,g1,g2⟩,g3⟩:=h;refine (masCrash_any F b own p w g2).mono ?_
  rintro e w' ⟨h1,F',h2,h3,h4⟩;exact⟨h1,F',⟨⟨_,MRel.still own false s p g1.begun,h2⟩,fun _=>rfl⟩,h3,h4⟩
theorem nodRestart_any (n:Nat)(E:Int)(F:Nat→Prop)(b:Nat)(own:Int)(x:Nod)(w:World)(h:NodAt w F b own x)(ok:NodOK n E own x)(hu:x.up=false) :
  Calls Tryz.prog (restartFn x) #[.pointer (some ⟨b,0,none⟩)] w fun e w'=>(∃ v,e=.returned v)∧NodTo w w' F b own (x.restart own):=by
 cases x with
 | rep r =>
  obtain⟨⟨vm,vl,g1,g2,g3⟩,g4⟩:=h;refine (repRestart_any b own r vm vl w g1 ((ok.rep r rfl).ok ok.n5)).mono ?_
  rintro e w' ⟨h1,vm',vl',h3,h4,h5,h6⟩;have hc:r.commit=r.base:=g4 hu
  have e1:(r.rise own).commit=(r.restart own).commit∧(r.rise own).epoch=(r.restart own).epoch∧(r.rise own).lock=(r.restart own).lock∧(r.rise own).mems=(r.restart own).mems∧(r.rise own).log=(r.restart own).log∧(r.rise own).base=(r.restart own).base:=by
   unfold Rep.rise Rep.restart
   split
   ·rename_i h;exact⟨rfl,rfl,rfl,rfl,rfl,rfl⟩
   ·exact⟨hc,rfl,rfl,rfl,rfl,rfl⟩
  obtain⟨q1,q2,q3,q4,q5,q6⟩:=e1;exact⟨h1,repTo_nod g2 ⟨vm',vl',⟨by rw[← q1, ← q2, ← q3, ← q6];exact h3.blk,by rw[← q4];exact h3.hm,by rw[← q5];exact h3.hl⟩,h4,h5,h6⟩ (fun e=>by simp[Rep.restart] at e)⟩
 | acc a =>
  refine (accRestart_any b w).mono ?_
  rintro e w' ⟨h1,rfl⟩;obtain⟨vm,g,l,h⟩:=h;exact⟨h1,F,⟨vm,g,l,⟨h.blk,h.hm,h.map,h.votes,h.fb,h.fg,h.fm,h.lt⟩⟩,Moved.refl _ F,fun k hk=>.inl hk⟩
 | mas s =>
  obtain⟨⟨p,g1,g2⟩,g3⟩:=h;refine (masRestart_any b w).mono ?_
  rintro e w' ⟨h1,rfl⟩;have hdz:s.does=0:=g3 hu
  have hall:s.all=[]:=by unfold Mas.all;split<;>first|rfl|(exfalso;omega)|(exfalso;simp_all)
  have hc:=g1.count
  rw[hall] at hc
  have hwt:p.waits=[]:=List.eq_nil_of_length_eq_zero (by simp only [List.length_nil] at hc;omega)
  refine⟨h1,F,⟨⟨p, ?_,g2⟩,fun e=>by simp[Mas.still] at e⟩,Moved.refl _ F,fun k hk=>.inl hk⟩
  exact⟨g1.begun,by rw[g1.doing,hdz];rfl,fun e=>absurd rfl e,hwt,by rw[hwt];rfl,fun e=>by simp[Mas.still] at e,fun e=>by simp[Mas.still] at e,fun e=>by simp[Mas.still] at e,fun e=>by simp[Mas.still] at e,fun e=>by simp[Mas.still] at e,g1.old5,g1.mems5,g1.log24⟩
end Go.Proofs.YtgieeeeeiggoeaaGreat
