import Derived.Test.YtgieeeeeiggoeaaGreatC20
import Derived.Test.YtgieeeeeiggoeaaGreatC06
import Derived.Test.YtgieeeeeiggoeaaGreatC16
import Derived.Deep.OwnRows
set_option maxRecDepth 100000
set_option maxHeartbeats 4000000
namespace Go.Proofs.YtgieeeeeiggoeaaGreat
open Go.RowKit Go.Shelf
structure MasIn (w:World)(F:Nat→Prop)(b:Nat)(own:Int)(p:PMas)(vw vo vm vl:Value):Prop where
 blk:w.heap[b]?=some (.cells #[.int .i64 own,.int .i64 (p.begun:Int),.int .i64 p.doing,vw,.int .i64 p.epoch,vo,.int .i64 p.vote,vm,vl] 146)
 hw:IntOwn w vw p.waits
 ho:IntOwn w vo p.old
 hm:IntOwn w vm p.mems
 hl:LogOwn w vl p.log
 fb:F b
 fw:∀ k,vw.ownBlock=some k→F k
 fo:∀ k,vo.ownBlock=some k→F k
 fm:∀ k,vm.ownBlock=some k→F k
 fl:∀ k,vl.ownBlock=some k→F k
 ap:∀ k,vw.ownBlock=some k→vo.ownBlock≠some k∧vm.ownBlock≠some k
 lt:∀ k,F k→k<w.heap.size
def MasAt (w:World)(F:Nat→Prop)(b:Nat)(own:Int)(p:PMas):Prop:=∃ vw vo vm vl,MasIn w F b own p vw vo vm vl
structure MasOK (p:PMas)(own:Int):Prop where
 w:p.waits.length≤5
 o:p.old.length≤5
 m:p.mems.length≤5
 l:p.log.length≤24
 b:p.begun≤1000
 d:0≤p.doing∧p.doing≤6
 n:200≤own∧own≤201
theorem MasIn.keep {w w':World}{F:Nat→Prop}{b:Nat}{own:Int}{p:PMas}{vw vo vm vl:Value}(h:MasIn w F b own p vw vo vm vl)(hk:∀ k,F k→w'.heap[k]?=w.heap[k]?):MasIn w' F b own p vw vo vm vl where
 blk:=(hk b h.fb).trans h.blk
 hw:=oon h.hw fun k e=>hk k (h.fw k e)
 ho:=oon h.ho fun k e=>hk k (h.fo k e)
 hm:=oon h.hm fun k e=>hk k (h.fm k e)
 hl:=oon h.hl fun k e=>hk k (h.fl k e)
 fb:=h.fb
 fw:=h.fw
 fo:=h.fo
 fm:=h.fm
 fl:=h.fl
 ap:=h.ap
 lt:=fun k hF=>by
  have h1:=h.lt k hF
  have h2:=hk k hF
  rw[Array.getElem?_eq_getElem h1] at h2
  exact (Array.getElem?_eq_some_iff.1 h2).1
theorem MasIn.below {w w':World}{F:Nat→Prop}{b:Nat}{own:Int}{p:PMas}{vw vo vm vl:Value}(h:MasIn w F b own p vw vo vm vl)(hb:Below w.heap.size w w'):MasIn w' F b own p vw vo vm vl :=
 h.keep fun k hF=>hb.block k (h.lt k hF)
theorem ballot_any (F:Nat→Prop)(b:Nat)(own:Int)(p:PMas)(vw vo vm vl:Value)(w:World)(h:MasIn w F b own p vw vo vm vl)(hp:p.begun≤1000)(hn:200≤own∧own≤201) :
  Calls Tryz.prog 183 #[.pointer (some ⟨b,0,none⟩)] w fun e w'=>e=.returned (.int .i64 (p.ballot own))∧∃ q,w'=w.drewN q:=by
 have c0:=coh h.blk 0
 have c1:=coh h.blk 1
 have H1:Hid (p.ballot own=2*(p.begun:Int)+own-200):=hideA rfl
 clear h;generalize hB:(p.begun:Int)=B at *
 have hB0:0≤B:=by omega
 have hB1:B≤1000:=by omega
 clear hB hp;have e1:IntKind.i64.wrap (2*B)=2*B:=by rw[IntKind.wrap_i64];omega
 have e2:IntKind.i64.wrap (2*B+own)=2*B+own:=by rw[IntKind.wrap_i64];omega
 have e3:IntKind.i64.wrap (2*B+own-200)=2*B+own-200:=by rw[IntKind.wrap_i64];omega
 go_enter Tryz.func183,Tryz.ntmps183
 go_wp2_with fail;go_quiet (fail)
 go_wp2_with fail;go_ret;refine⟨?_,_,rfl⟩
 rw[H1.out];rfl
theorem question_any (F:Nat→Prop)(b:Nat)(own:Int)(p:PMas)(vw vo vm vl:Value)(w:World)(h:MasIn w F b own p vw vo vm vl)(ok:MasOK p own) :
  Calls Tryz.prog 159 #[.pointer (some ⟨b,0,none⟩)] w fun e w'=>∃ xm xl,e=.returned (mval (p.question own) xm xl)∧IntOwn w' xm (p.question own).mems∧LogOwn w' xl (p.question own).log∧Below w.heap.size w w':=by
 have hbl:b<w.heap.size:=h.lt b h.fb
 have hne1:¬ b=w.heap.size:=by omega
 have hne2:¬ w.heap.size=b:=by omega
 obtain⟨am,cm,rfl⟩:=osh h.hm
 obtain⟨al,cl,rfl⟩:=osh h.hl
 have HI:=hideA h;have hd:=ok.d
 have hm5:=ok.m
 have hl24:=ok.l
 have HQ:Hid (∀ W,Below w.heap.size w W→Hid (W.heap[w.heap.size]?=some (.cells #[.int .i64 0,.int .i64 0,.int .i64 0,.int .i64 0,.int .i64 0,.int .i64 0,.int .i64 0,.int .i64 0,.slice none 0 0,.slice none 0 0] 134))→Calls Tryz.prog 183 #[.pointer (some ⟨b,0,none⟩)] W fun e w'=>e=.returned (.int .i64 (p.ballot own))∧Below W.heap.size W w'∧Below w.heap.size w w'∧Hid (w'.heap[w.heap.size]?=some (.cells #[.int .i64 0,.int .i64 0,.int .i64 0,.int .i64 0,.int .i64 0,.int .i64 0,.int .i64 0,.int .i64 0,.slice none 0 0,.slice none 0 0] 134))):=hideA fun W hb hB=>(ballot_any F b own p _ _ _ _ W (HI.out.below hb) ok.b ok.n).mono (by
  rintro e w' ⟨rfl,q,rfl⟩;exact⟨rfl,below_drewN (Below.refl _ _) q,below_drewN hb q,hB⟩)
 have HC1:Hid (∀ W,Below w.heap.size w W→Hid (W.heap[w.heap.size]?=some (.cells #[.int .i64 0,.int .i64 0,.int .i64 0,.int .i64 0,.int .i64 0,.int .i64 0,.int .i64 0,.int .i64 0,.slice none 0 0,.slice none 0 0] 134))→Calls Tryz.prog 69 #[.slice am p.mems.length cm] W fun e w'=>∃ x c,e=.returned (.slice x p.mems.length c)∧w'.ownsRow (w.heap.size+1) 3 1 (.slice x p.mems.length c) p.mems.length (ints p.mems)∧Below W.heap.size W w'∧Below w.heap.size w w'∧Hid (w'.heap[w.heap.size]?=some (.cells #[.int .i64 0,.int .i64 0,.int .i64 0,.int .i64 0,.int .i64 0,.int .i64 0,.int .i64 0,.int .i64 0,.slice none 0 0,.slice none 0 0] 134))):=hideA fun W hb hB=>(cloneMems_any _ p.mems W (HI.out.below hb).hm (by omega)).mono (by
  rintro e w' ⟨x,c,rfl,h1,h2⟩;exact⟨x,c,rfl,obs h1 (by have:=(Array.getElem?_eq_some_iff.1 hB.out).1;omega),h2,hb.trans (h2.mono hb.size),hideA ((h2.block _ (Array.getElem?_eq_some_iff.1 hB.out).1).trans hB.out)⟩)
 have HC2:Hid (∀ W,Below w.heap.size w W→Hid (W.heap[w.heap.size]?=some (.cells #[.int .i64 0,.int .i64 0,.int .i64 0,.int .i64 0,.int .i64 0,.int .i64 0,.int .i64 0,.int .i64 0,.slice none 0 0,.slice none 0 0] 134))→Calls Tryz.prog 147 #[.slice al p.log.length cl] W fun e w'=>∃ x c,e=.returned (.slice x p.log.length c)∧w'.ownsRow (w.heap.size+1) 42 5 (.slice x p.log.length c) p.log.length (ints (entsNums p.log))∧Below W.heap.size W w'∧Below w.heap.size w w'∧Hid (w'.heap[w.heap.size]?=some (.cells #[.int .i64 0,.int .i64 0,.int .i64 0,.int .i64 0,.int .i64 0,.int .i64 0,.int .i64 0,.int .i64 0,.slice none 0 0,.slice none 0 0] 134))):=hideA fun W hb hB=>(cloneLog_any _ p.log W (HI.out.below hb).hl (by omega)).mono (by
  rintro e w' ⟨x,c,rfl,h1,h2⟩;exact⟨x,c,rfl,obs h1 (by have:=(Array.getElem?_eq_some_iff.1 hB.out).1;omega),h2,hb.trans (h2.mono hb.size),hideA ((h2.block _ (Array.getElem?_eq_some_iff.1 hB.out).1).trans hB.out)⟩)
 have HS:Hid (∀ W,Below w.heap.size w W→W.cell? ⟨b,2,none⟩=some (.int .i64 p.doing)∧W.cell? ⟨b,4,none⟩=some (.int .i64 p.epoch)∧W.cell? ⟨b,7,none⟩=some (.slice am p.mems.length cm)∧W.cell? ⟨b,8,none⟩=some (.slice al p.log.length cl)):=hideA fun W hb =>
  ⟨coh (HI.out.below hb).blk 2,coh (HI.out.below hb).blk 4,coh (HI.out.below hb).blk 7,coh (HI.out.below hb).blk 8⟩
 clear h ok;generalize hqq:p.question own=qq
 unfold PMas.question at hqq
 generalize p.ballot own=bal at *
 generalize p.doing=doing at *
 rcases (by omega:doing=0∨doing=1∨doing=2∨doing=3∨doing=4∨doing=5∨doing=6) with rfl|rfl|rfl|rfl|rfl|rfl|rfl
 all_goals simp only [Int.reduceEq,if_true,if_false] at hqq
 all_goals subst hqq
 ·go_enter Tryz.func159,Tryz.ntmps159
  go_upto_region 1 with fail
  obtain⟨X,hX,hb0,hB0⟩:=bm1 w #[.int .i64 0,.int .i64 0,.int .i64 0,.int .i64 0,.int .i64 0,.int .i64 0,.int .i64 0,.int .i64 0,.slice none 0 0,.slice none 0 0] 134
  rw[hX];clear hX;have hbd:=hb0.drew
  have HB0:=hideA hB0;have HBd:Hid (X.drew.heap[w.heap.size]?=some (.cells #[.int .i64 0,.int .i64 0,.int .i64 0,.int .i64 0,.int .i64 0,.int .i64 0,.int .i64 0,.int .i64 0,.slice none 0 0,.slice none 0 0] 134)):=HB0
  obtain⟨s1,s2,s3,s4⟩:=HS.out X hb0
  have gN:=fun j=>coh hB0 j
  have gG:=fun j=>foh hB0 j
  clear hB0;go_wp2_with fail;go_region_held3 (fun w'=>w'.cell? ⟨b,4,none⟩=some (.int .i64 p.epoch)∧w'.cell? ⟨b,7,none⟩=some (.slice am p.mems.length cm)∧w'.cell? ⟨b,8,none⟩=some (.slice al p.log.length cl)) (first|(simp[go_sem];done)|(simp[go_sem, *];done)|go_keep)
   (first
    | (go_at_call 69;refine (HC1.out _ (by assumption) (by assumption)).mono ?_;rintro e Y1 ⟨x1,c1,rfl,o1,hl1,hbN,B⟩;obtain⟨u1,u2,u3,u4⟩:=HS.out Y1 hbN;(try (have O1:=hideA (okp O1.out fun k _ hk=>hl1.block k hk)));(try (have O2:=hideA (okp O2.out fun k _ hk=>hl1.block k hk)));have HBn:=B;have gN:=fun j=>coh B.out j;have gG:=fun j=>foh B.out j;clear B;have O1:=hideA o1;clear o1))
  all_goals (
   go_wp2_with fail;refine bodyPost_ret (v:=.agg #[.int .i64 15,.int .i64 0,.int .i64 0,.int .i64 p.epoch,.int .i64 0,.int .i64 0,.int .i64 0,.int .i64 0,.slice x1 p.mems.length c1,.slice none 0 0]) (by simp[results,Tryz.results159,go_sem,gN]) rfl ?_
   have hz:w.heap.size<w.heap.size+1:=Nat.lt_succ_self _
   refine⟨.slice x1 p.mems.length c1,.slice none 0 0,rfl,obs (ownsRow_setCell_below (ownsRow_setCell_below (ownsRow_setCell_below (ownsRow_setCell_below (ownsRow_setCell_below (ownsRow_setCell_below (ownsRow_setCell_below (ownsRow_setCell_below (ownsRow_setCell_below (ownsRow_setCell_below O1.out hz _) hz _) hz _) hz _) hz _) hz _) hz _) hz _) hz _) hz _) (Nat.zero_le _),World.ownsRow_nil _ _ _ _, ?_⟩
   iterate 10 refine Below.setCell ?_ (by exact Nat.le_refl _) _
   exact hbN)
 ·go_enter Tryz.func159,Tryz.ntmps159
  go_upto_region 1 with fail
  obtain⟨X,hX,hb0,hB0⟩:=bm1 w #[.int .i64 0,.int .i64 0,.int .i64 0,.int .i64 0,.int .i64 0,.int .i64 0,.int .i64 0,.int .i64 0,.slice none 0 0,.slice none 0 0] 134
  rw[hX];clear hX;have hbd:=hb0.drew
  have HB0:=hideA hB0;have HBd:Hid (X.drew.heap[w.heap.size]?=some (.cells #[.int .i64 0,.int .i64 0,.int .i64 0,.int .i64 0,.int .i64 0,.int .i64 0,.int .i64 0,.int .i64 0,.slice none 0 0,.slice none 0 0] 134)):=HB0
  obtain⟨s1,s2,s3,s4⟩:=HS.out X hb0
  have gN:=fun j=>coh hB0 j
  have gG:=fun j=>foh hB0 j
  clear hB0;go_wp2_with fail;refine (HQ.out _ (by assumption) (by assumption)).mono ?_
  rintro e YB ⟨rfl,hlB,hbN,B⟩;obtain⟨t1,t2,t3,t4⟩:=HS.out YB hbN
  have gN:=fun j=>coh B.out j
  have gG:=fun j=>foh B.out j
  clear B;go_wp2_with fail;refine bodyPost_ret (v:=.agg #[.int .i64 5,.int .i64 0,.int .i64 0,.int .i64 0,.int .i64 bal,.int .i64 0,.int .i64 0,.int .i64 0,.slice none 0 0,.slice none 0 0]) (by simp[results,Tryz.results159,go_sem,gN]) rfl ?_
  have hz:w.heap.size<w.heap.size+1:=Nat.lt_succ_self _
  refine⟨.slice none 0 0,.slice none 0 0,rfl,World.ownsRow_nil _ _ _ _,World.ownsRow_nil _ _ _ _, ?_⟩
  iterate 10 refine Below.setCell ?_ (by exact Nat.le_refl _) _
  exact hbN
 ·go_enter Tryz.func159,Tryz.ntmps159
  go_upto_region 1 with fail
  obtain⟨X,hX,hb0,hB0⟩:=bm1 w #[.int .i64 0,.int .i64 0,.int .i64 0,.int .i64 0,.int .i64 0,.int .i64 0,.int .i64 0,.int .i64 0,.slice none 0 0,.slice none 0 0] 134
  rw[hX];clear hX;have hbd:=hb0.drew
  have HB0:=hideA hB0;have HBd:Hid (X.drew.heap[w.heap.size]?=some (.cells #[.int .i64 0,.int .i64 0,.int .i64 0,.int .i64 0,.int .i64 0,.int .i64 0,.int .i64 0,.int .i64 0,.slice none 0 0,.slice none 0 0] 134)):=HB0
  obtain⟨s1,s2,s3,s4⟩:=HS.out X hb0
  have gN:=fun j=>coh hB0 j
  have gG:=fun j=>foh hB0 j
  clear hB0;go_wp2_with fail;go_region_held3 (fun w'=>w'.cell? ⟨b,4,none⟩=some (.int .i64 p.epoch)∧w'.cell? ⟨b,7,none⟩=some (.slice am p.mems.length cm)∧w'.cell? ⟨b,8,none⟩=some (.slice al p.log.length cl)) (first|(simp[go_sem];done)|(simp[go_sem, *];done)|go_keep)
   (first
    | (go_at_call 183;refine (HQ.out _ (by assumption) (by assumption)).mono ?_;rintro e YB ⟨rfl,hlB,hbN,B⟩;obtain⟨t1,t2,t3,t4⟩:=HS.out YB hbN;(try (have O1:=hideA (okp O1.out fun k _ hk=>hlB.block k hk)));(try (have O2:=hideA (okp O2.out fun k _ hk=>hlB.block k hk)));have HBn:=B;have gN:=fun j=>coh B.out j;have gG:=fun j=>foh B.out j;clear B))
  all_goals (
   go_wp2_with fail;refine bodyPost_ret (v:=.agg #[.int .i64 7,.int .i64 0,.int .i64 0,.int .i64 p.epoch,.int .i64 bal,.int .i64 0,.int .i64 0,.int .i64 0,.slice none 0 0,.slice none 0 0]) (by simp[results,Tryz.results159,go_sem,gN]) rfl ?_
   have hz:w.heap.size<w.heap.size+1:=Nat.lt_succ_self _
   refine⟨.slice none 0 0,.slice none 0 0,rfl,World.ownsRow_nil _ _ _ _,World.ownsRow_nil _ _ _ _, ?_⟩
   iterate 10 refine Below.setCell ?_ (by exact Nat.le_refl _) _
   exact hbN)
 ·go_enter Tryz.func159,Tryz.ntmps159
  go_upto_region 1 with fail
  obtain⟨X,hX,hb0,hB0⟩:=bm1 w #[.int .i64 0,.int .i64 0,.int .i64 0,.int .i64 0,.int .i64 0,.int .i64 0,.int .i64 0,.int .i64 0,.slice none 0 0,.slice none 0 0] 134
  rw[hX];clear hX;have hbd:=hb0.drew
  have HB0:=hideA hB0;have HBd:Hid (X.drew.heap[w.heap.size]?=some (.cells #[.int .i64 0,.int .i64 0,.int .i64 0,.int .i64 0,.int .i64 0,.int .i64 0,.int .i64 0,.int .i64 0,.slice none 0 0,.slice none 0 0] 134)):=HB0
  obtain⟨s1,s2,s3,s4⟩:=HS.out X hb0
  have gN:=fun j=>coh hB0 j
  have gG:=fun j=>foh hB0 j
  clear hB0;go_wp2_with fail;go_region_held3 (fun w'=>w'.cell? ⟨b,4,none⟩=some (.int .i64 p.epoch)∧w'.cell? ⟨b,7,none⟩=some (.slice am p.mems.length cm)∧w'.cell? ⟨b,8,none⟩=some (.slice al p.log.length cl)) (first|(simp[go_sem];done)|(simp[go_sem, *];done)|go_keep)
   (first
    | (go_at_call 183;refine (HQ.out _ (by assumption) (by assumption)).mono ?_;rintro e YB ⟨rfl,hlB,hbN,B⟩;obtain⟨t1,t2,t3,t4⟩:=HS.out YB hbN;(try (have O1:=hideA (okp O1.out fun k _ hk=>hlB.block k hk)));(try (have O2:=hideA (okp O2.out fun k _ hk=>hlB.block k hk)));have HBn:=B;have gN:=fun j=>coh B.out j;have gG:=fun j=>foh B.out j;clear B))
  all_goals (
   go_wp2_with fail;refine bodyPost_ret (v:=.agg #[.int .i64 9,.int .i64 0,.int .i64 0,.int .i64 p.epoch,.int .i64 bal,.int .i64 0,.int .i64 0,.int .i64 0,.slice none 0 0,.slice none 0 0]) (by simp[results,Tryz.results159,go_sem,gN]) rfl ?_
   have hz:w.heap.size<w.heap.size+1:=Nat.lt_succ_self _
   refine⟨.slice none 0 0,.slice none 0 0,rfl,World.ownsRow_nil _ _ _ _,World.ownsRow_nil _ _ _ _, ?_⟩
   iterate 10 refine Below.setCell ?_ (by exact Nat.le_refl _) _
   exact hbN)
 ·go_enter Tryz.func159,Tryz.ntmps159
  go_upto_region 1 with fail
  obtain⟨X,hX,hb0,hB0⟩:=bm1 w #[.int .i64 0,.int .i64 0,.int .i64 0,.int .i64 0,.int .i64 0,.int .i64 0,.int .i64 0,.int .i64 0,.slice none 0 0,.slice none 0 0] 134
  rw[hX];clear hX;have hbd:=hb0.drew
  have HB0:=hideA hB0;have HBd:Hid (X.drew.heap[w.heap.size]?=some (.cells #[.int .i64 0,.int .i64 0,.int .i64 0,.int .i64 0,.int .i64 0,.int .i64 0,.int .i64 0,.int .i64 0,.slice none 0 0,.slice none 0 0] 134)):=HB0
  obtain⟨s1,s2,s3,s4⟩:=HS.out X hb0
  have gN:=fun j=>coh hB0 j
  have gG:=fun j=>foh hB0 j
  clear hB0;go_wp2_with fail;go_region_held3 (fun w'=>w'.cell? ⟨b,4,none⟩=some (.int .i64 p.epoch)∧w'.cell? ⟨b,7,none⟩=some (.slice am p.mems.length cm)∧w'.cell? ⟨b,8,none⟩=some (.slice al p.log.length cl)) (first|(simp[go_sem];done)|(simp[go_sem, *];done)|go_keep)
   (first
    | (go_at_call 183;refine (HQ.out _ (by assumption) (by assumption)).mono ?_;rintro e YB ⟨rfl,hlB,hbN,B⟩;obtain⟨t1,t2,t3,t4⟩:=HS.out YB hbN;(try (have O1:=hideA (okp O1.out fun k _ hk=>hlB.block k hk)));(try (have O2:=hideA (okp O2.out fun k _ hk=>hlB.block k hk)));have HBn:=B;have gN:=fun j=>coh B.out j;have gG:=fun j=>foh B.out j;clear B)
    | (go_at_call 69;refine (HC1.out _ (by assumption) (by assumption)).mono ?_;rintro e Y1 ⟨x1,c1,rfl,o1,hl1,hbN,B⟩;obtain⟨u1,u2,u3,u4⟩:=HS.out Y1 hbN;(try (have O1:=hideA (okp O1.out fun k _ hk=>hl1.block k hk)));(try (have O2:=hideA (okp O2.out fun k _ hk=>hl1.block k hk)));have HBn:=B;have gN:=fun j=>coh B.out j;have gG:=fun j=>foh B.out j;clear B;have O1:=hideA o1;clear o1)
    | (go_at_call 147;refine (HC2.out _ (by assumption) (by assumption)).mono ?_;rintro e Y2 ⟨x2,c2,rfl,o2,hl2,hbN,B⟩;obtain⟨v1,v2,v3,v4⟩:=HS.out Y2 hbN;(try (have O1:=hideA (okp O1.out fun k _ hk=>hl2.block k hk)));(try (have O2:=hideA (okp O2.out fun k _ hk=>hl2.block k hk)));have HBn:=B;have gN:=fun j=>coh B.out j;have gG:=fun j=>foh B.out j;clear B;have O2:=hideA o2;clear o2))
  all_goals (
   go_wp2_with fail;refine bodyPost_ret (v:=.agg #[.int .i64 11,.int .i64 0,.int .i64 0,.int .i64 p.epoch,.int .i64 bal,.int .i64 0,.int .i64 0,.int .i64 0,.slice x1 p.mems.length c1,.slice x2 p.log.length c2]) (by simp[results,Tryz.results159,go_sem,gN]) rfl ?_
   have hz:w.heap.size<w.heap.size+1:=Nat.lt_succ_self _
   refine⟨.slice x1 p.mems.length c1,.slice x2 p.log.length c2,rfl,obs (ownsRow_setCell_below (ownsRow_setCell_below (ownsRow_setCell_below (ownsRow_setCell_below (ownsRow_setCell_below (ownsRow_setCell_below (ownsRow_setCell_below (ownsRow_setCell_below (ownsRow_setCell_below (ownsRow_setCell_below O1.out hz _) hz _) hz _) hz _) hz _) hz _) hz _) hz _) hz _) hz _) (Nat.zero_le _),obs (ownsRow_setCell_below (ownsRow_setCell_below (ownsRow_setCell_below (ownsRow_setCell_below (ownsRow_setCell_below (ownsRow_setCell_below (ownsRow_setCell_below (ownsRow_setCell_below (ownsRow_setCell_below (ownsRow_setCell_below O2.out hz _) hz _) hz _) hz _) hz _) hz _) hz _) hz _) hz _) hz _) (Nat.zero_le _), ?_⟩
   iterate 10 refine Below.setCell ?_ (by exact Nat.le_refl _) _
   exact hbN)
 ·go_enter Tryz.func159,Tryz.ntmps159
  go_upto_region 1 with fail
  obtain⟨X,hX,hb0,hB0⟩:=bm1 w #[.int .i64 0,.int .i64 0,.int .i64 0,.int .i64 0,.int .i64 0,.int .i64 0,.int .i64 0,.int .i64 0,.slice none 0 0,.slice none 0 0] 134
  rw[hX];clear hX;have hbd:=hb0.drew
  have HB0:=hideA hB0;have HBd:Hid (X.drew.heap[w.heap.size]?=some (.cells #[.int .i64 0,.int .i64 0,.int .i64 0,.int .i64 0,.int .i64 0,.int .i64 0,.int .i64 0,.int .i64 0,.slice none 0 0,.slice none 0 0] 134)):=HB0
  obtain⟨s1,s2,s3,s4⟩:=HS.out X hb0
  have gN:=fun j=>coh hB0 j
  have gG:=fun j=>foh hB0 j
  clear hB0;go_wp2_with fail;go_region_held3 (fun w'=>w'.cell? ⟨b,4,none⟩=some (.int .i64 p.epoch)∧w'.cell? ⟨b,7,none⟩=some (.slice am p.mems.length cm)∧w'.cell? ⟨b,8,none⟩=some (.slice al p.log.length cl)) (first|(simp[go_sem];done)|(simp[go_sem, *];done)|go_keep)
   (first
    | (go_at_call 69;refine (HC1.out _ (by assumption) (by assumption)).mono ?_;rintro e Y1 ⟨x1,c1,rfl,o1,hl1,hbN,B⟩;obtain⟨u1,u2,u3,u4⟩:=HS.out Y1 hbN;(try (have O1:=hideA (okp O1.out fun k _ hk=>hl1.block k hk)));(try (have O2:=hideA (okp O2.out fun k _ hk=>hl1.block k hk)));have HBn:=B;have gN:=fun j=>coh B.out j;have gG:=fun j=>foh B.out j;clear B;have O1:=hideA o1;clear o1)
    | (go_at_call 147;refine (HC2.out _ (by assumption) (by assumption)).mono ?_;rintro e Y2 ⟨x2,c2,rfl,o2,hl2,hbN,B⟩;obtain⟨v1,v2,v3,v4⟩:=HS.out Y2 hbN;(try (have O1:=hideA (okp O1.out fun k _ hk=>hl2.block k hk)));(try (have O2:=hideA (okp O2.out fun k _ hk=>hl2.block k hk)));have HBn:=B;have gN:=fun j=>coh B.out j;have gG:=fun j=>foh B.out j;clear B;have O2:=hideA o2;clear o2))
  all_goals (
   go_wp2_with fail;refine bodyPost_ret (v:=.agg #[.int .i64 13,.int .i64 0,.int .i64 0,.int .i64 p.epoch,.int .i64 0,.int .i64 0,.int .i64 0,.int .i64 0,.slice x1 p.mems.length c1,.slice x2 p.log.length c2]) (by simp[results,Tryz.results159,go_sem,gN]) rfl ?_
   have hz:w.heap.size<w.heap.size+1:=Nat.lt_succ_self _
   refine⟨.slice x1 p.mems.length c1,.slice x2 p.log.length c2,rfl,obs (ownsRow_setCell_below (ownsRow_setCell_below (ownsRow_setCell_below (ownsRow_setCell_below (ownsRow_setCell_below (ownsRow_setCell_below (ownsRow_setCell_below (ownsRow_setCell_below (ownsRow_setCell_below (ownsRow_setCell_below O1.out hz _) hz _) hz _) hz _) hz _) hz _) hz _) hz _) hz _) hz _) (Nat.zero_le _),obs (ownsRow_setCell_below (ownsRow_setCell_below (ownsRow_setCell_below (ownsRow_setCell_below (ownsRow_setCell_below (ownsRow_setCell_below (ownsRow_setCell_below (ownsRow_setCell_below (ownsRow_setCell_below (ownsRow_setCell_below O2.out hz _) hz _) hz _) hz _) hz _) hz _) hz _) hz _) hz _) hz _) (Nat.zero_le _), ?_⟩
   iterate 10 refine Below.setCell ?_ (by exact Nat.le_refl _) _
   exact hbN)
 ·go_enter Tryz.func159,Tryz.ntmps159
  go_upto_region 1 with fail
  obtain⟨X,hX,hb0,hB0⟩:=bm1 w #[.int .i64 0,.int .i64 0,.int .i64 0,.int .i64 0,.int .i64 0,.int .i64 0,.int .i64 0,.int .i64 0,.slice none 0 0,.slice none 0 0] 134
  rw[hX];clear hX;have hbd:=hb0.drew
  have HB0:=hideA hB0;have HBd:Hid (X.drew.heap[w.heap.size]?=some (.cells #[.int .i64 0,.int .i64 0,.int .i64 0,.int .i64 0,.int .i64 0,.int .i64 0,.int .i64 0,.int .i64 0,.slice none 0 0,.slice none 0 0] 134)):=HB0
  obtain⟨s1,s2,s3,s4⟩:=HS.out X hb0
  have gN:=fun j=>coh hB0 j
  have gG:=fun j=>foh hB0 j
  clear hB0;go_wp2_with fail;go_region_held3 (fun w'=>w'.cell? ⟨b,4,none⟩=some (.int .i64 p.epoch)∧w'.cell? ⟨b,7,none⟩=some (.slice am p.mems.length cm)∧w'.cell? ⟨b,8,none⟩=some (.slice al p.log.length cl)) (first|(simp[go_sem];done)|(simp[go_sem, *];done)|go_keep)
   (first
    | (go_at_call 69;refine (HC1.out _ (by assumption) (by assumption)).mono ?_;rintro e Y1 ⟨x1,c1,rfl,o1,hl1,hbN,B⟩;obtain⟨u1,u2,u3,u4⟩:=HS.out Y1 hbN;(try (have O1:=hideA (okp O1.out fun k _ hk=>hl1.block k hk)));(try (have O2:=hideA (okp O2.out fun k _ hk=>hl1.block k hk)));have HBn:=B;have gN:=fun j=>coh B.out j;have gG:=fun j=>foh B.out j;clear B;have O1:=hideA o1;clear o1))
  all_goals (
   go_wp2_with fail;refine bodyPost_ret (v:=.agg #[.int .i64 15,.int .i64 0,.int .i64 0,.int .i64 p.epoch,.int .i64 0,.int .i64 0,.int .i64 0,.int .i64 0,.slice x1 p.mems.length c1,.slice none 0 0]) (by simp[results,Tryz.results159,go_sem,gN]) rfl ?_
   have hz:w.heap.size<w.heap.size+1:=Nat.lt_succ_self _
   refine⟨.slice x1 p.mems.length c1,.slice none 0 0,rfl,obs (ownsRow_setCell_below (ownsRow_setCell_below (ownsRow_setCell_below (ownsRow_setCell_below (ownsRow_setCell_below (ownsRow_setCell_below (ownsRow_setCell_below (ownsRow_setCell_below (ownsRow_setCell_below (ownsRow_setCell_below O1.out hz _) hz _) hz _) hz _) hz _) hz _) hz _) hz _) hz _) hz _) (Nat.zero_le _),World.ownsRow_nil _ _ _ _, ?_⟩
   iterate 10 refine Below.setCell ?_ (by exact Nat.le_refl _) _
   exact hbN)
end Go.Proofs.YtgieeeeeiggoeaaGreat
namespace Go.Proofs.YtgieeeeeiggoeaaGreat
open Go.RowKit
def runOf (a:Int)(n:Nat):List Int:=(List.range n).map (fun (i:Nat)=>a+(i:Int))
theorem runOf_succ (a:Int)(k:Nat):runOf a (k+1)=runOf a k++[a+(k:Int)]:=by
 unfold runOf
 rw[List.range_succ,List.map_append];rfl
theorem runOf_length (a:Int)(n:Nat):(runOf a n).length=n:=by simp[runOf]
def midRow (a:Int)(n k:Nat):List Value:=ints (runOf a k)++List.replicate (n-k) (.int .i64 0)
theorem midRow_at (a:Int)(n k:Nat)(hk:k<n):(midRow a n k)[k]?=some (.int .i64 0):=by
 unfold midRow
 rw[List.getElem?_append_right (by rw[ints_length,runOf_length];omega),ints_length,runOf_length,Nat.sub_self,List.getElem?_replicate,if_pos (by omega)]
theorem midRow_set (a:Int)(n k:Nat)(hk:k<n):(midRow a n k).set k (.int .i64 (a+(k:Int)))=midRow a n (k+1):=by
 unfold midRow
 rw[runOf_succ,List.set_append_right _ _ (by rw[ints_length,runOf_length];omega),ints_length,runOf_length,Nat.sub_self]
 obtain⟨d,hd⟩:∃ d,n-k=d+1:=⟨n-k-1,by omega⟩
 rw[hd,List.replicate_succ,List.set_cons_zero,show n-(k+1)=d by omega,ints_append]
 simp[ints]
theorem memNumbers_any (a:Int)(n:Nat)(w:World)(hn:n≤5)(ha:0≤a∧a≤1000) :
  Calls Tryz.prog 106 #[.int .i64 a,.int .i64 (n:Int)] w fun e w'=>∃ c,e=.returned (.slice (some ⟨w.heap.size,0,none⟩) n c)∧w'.ownsRow w.heap.size 3 1 (.slice (some ⟨w.heap.size,0,none⟩) n c) n (ints (runOf a n))∧Below w.heap.size w w':=by
 have hmk:=run_make_row' (P:=Tryz.prog) 29 3 (.int .i64 0) 8 Tryz.underlying29 infoInt rfl .i64 .i64 n (by omega) (by omega)
 go_enter Tryz.func106,Tryz.ntmps106
 go_wp2_with fail;go_loopw [11] (fun i wr=>∃ k:Nat,k≤n∧i=.int .i64 k∧(∃ cs:Array Value,wr.heap[w.heap.size]?=some (.cells cs 3)∧cs.toList=midRow a n k)∧Below w.heap.size w wr) (fun i _=>n-(intOf i).toNat)
 case atStart =>
  refine⟨0,Nat.zero_le _,rfl,⟨_,hnw _ _, ?_⟩,(Below.refl _ w).alloc (Nat.le_refl _) _⟩
  apply List.ext_getElem?
  intro i;unfold midRow madeCells
  simp only [Array.toList_map,Array.toList_range,List.getElem?_map,runOf,ints,List.range_zero,List.map_nil,List.nil_append,Nat.sub_zero,List.getElem?_replicate]
  by_cases hi:i<n
  ·rw[List.getElem?_range hi,if_pos hi]
   simp[Nat.mod_one]
  ·rw[List.getElem?_eq_none (by simpa using hi),if_neg hi]
   rfl
 case round =>
  obtain⟨k,hk,rfl,⟨cs,hcs,hl⟩,hb⟩:=hrel;by_cases hlt:k<n
  ·have hk1:(k:Int)<(n:Int):=by omega
   have ck:wr.cell? ⟨w.heap.size,k,none⟩=some (.int .i64 0):=(coh hcs k).trans (by rw[← Array.getElem?_toList,hl,midRow_at a n k hlt])
   have fk:=foh hcs k
   have hw:IntKind.i64.wrap (a+(k:Int))=a+(k:Int):=by rw[IntKind.wrap_i64];omega
   have HC:=hideA (And.intro hcs hl)
   clear hcs hl;go_wp2_with fail;go_roundw
   case rel=>exact⟨k+1,by omega,by go_num,⟨_,heap_setCell_same _ _ _ _ _ _ HC.out.1,by rw[Array.toList_setIfInBounds,HC.out.2,midRow_set a n k hlt]⟩,hb.setCell (by exact Nat.le_refl _) _⟩
   case measure=>simp[intOf];omega
  ·obtain rfl:k=n:=by omega
   have HC:=hideA (And.intro hcs hl)
   clear hcs hl;go_wp2_with fail;go_ret;have hcl:cs.toList=ints (runOf a k):=by rw[HC.out.2];unfold midRow;simp
   have hsz:cs.size=k:=by rw[← Array.length_toList,hcl,ints_length,runOf_length]
   refine⟨k,rfl,⟨by rw[ints_length,runOf_length,Nat.mul_one],.inr ⟨w.heap.size,k,cs,rfl,Nat.le_refl _,HC.out.1,Nat.le_refl _,by unfold maxLen;omega,by omega, ?_⟩⟩,hb⟩
   rw[hcl];exact List.take_of_length_le (by rw[ints_length,runOf_length];omega)
end Go.Proofs.YtgieeeeeiggoeaaGreat
namespace Go.Proofs.YtgieeeeeiggoeaaGreat
open Go.RowKit Go.Shelf
theorem wpList_append_run {ops:Array Oper}{rest:List Oper}{o:Oper}{a:Act}{W:World}{Q:Exit→Act→World→Prop}(hgd:o.guard=none)(s x:Operand)(t:TypeId)
  (hop:o.op=Op.call { callee:=Callee.builtin Builtin.append,args:=#[s,x],argTypes:=#[t,t] }) (v u v':Value) (W':World) (hs:a.eval s=v) (hx:a.eval x=u)
  (hrun:∀ ty,(Builtin.append_ #[t,t] ty #[v,u]).run Tryz.prog W=.ok v' W') (h:wpList Tryz.prog ops Q rest (a.put o.dst v') W'):wpList Tryz.prog ops Q (o :: rest) a W:=by
 refine wpList_plain hgd fun K hK => ?_
 unfold Oper.wp execOp
 simp only [hop,resolve,invoke,builtin,Sem.run_bind,Sem.run_pure,Result.andThen_ok,List.map_toArray,List.map_cons,List.map_nil,hs,hx,hrun]
 exact hK _ _ h
theorem ListsOwn.snoc {wr Y W':World}{base n:Nat}{v:Value}{ws:List MsgV}(t:MsgV)(o1 o2:Obj)(hrow:wr.ownsRow base 134 10 v n (ws.flatMap mcells))(hls:ListsOwn wr ws)(hb:Below wr.heap.size wr Y)(hI:IntOwn Y t.2.1 t.1.mems)(hL:LogOwn Y t.2.2 t.1.log)(hg:((Y.alloc o1).alloc o2).grownBy W' v.ownBlock):ListsOwn W' (ws++[t]):=by
 have hrY:Y.ownsRow base 134 10 v n (ws.flatMap mcells):=okp hrow fun k _ hk=>hb.block k hk
 have key:∀ k,k<Y.heap.size→v.ownBlock≠some k→W'.heap[k]?=Y.heap[k]?:=fun k hk hne=>(hg.block k (by simp;omega) (fun e=>hne e.symm)).trans (((Below.refl Y.heap.size Y).alloc (Nat.le_refl _) o1).alloc (by simp) o2 |>.block k hk)
 have hint:∀ x l,IntOwn Y x l→IntOwn W' x l:=fun x l h=>oon h fun k e=>key k (Array.getElem?_eq_some_iff.1 (obc h e).choose_spec.1).1 (fun e2=>otw hrY h (by decide) k e2 e)
 have hlog:∀ x l,LogOwn Y x l→LogOwn W' x l:=fun x l h=>oon h fun k e=>key k (Array.getElem?_eq_some_iff.1 (obc h e).choose_spec.1).1 (fun e2=>otw hrY h (by decide) k e2 e)
 intro u hu;rcases List.mem_append.1 hu with hu|hu
 ·exact⟨hint _ _ (okp (hls u hu).1 fun k _ hk=>hb.block k hk),hlog _ _ (okp (hls u hu).2 fun k _ hk=>hb.block k hk)⟩
 ·rw[List.mem_singleton] at hu
  subst hu;exact⟨hint _ _ hI,hlog _ _ hL⟩
theorem masTick_any (F:Nat→Prop)(b:Nat)(own:Int)(p:PMas)(vw vo vm vl:Value)(w:World)(h:MasIn w F b own p vw vo vm vl)(ok:MasOK p own) :
  Calls Tryz.prog 125 #[.pointer (some ⟨b,0,none⟩)] w fun e w'=>∃ v,e=.returned v∧MsgsOwn w' w.heap.size v (p.asks own)∧Below w.heap.size w w':=by
 have hbl:b<w.heap.size:=h.lt b h.fb
 obtain⟨aw,cw,rfl⟩:=osh h.hw
 have c3:=coh h.blk 3
 have HC0:Hid (∀ W,Below w.heap.size w W→W.cell? ⟨b,0,none⟩=some (.int .i64 own)):=hideA fun W hb=>coh (h.below hb).blk 0
 have HQ:Hid (∀ W,Below w.heap.size w W→Calls Tryz.prog 159 #[.pointer (some ⟨b,0,none⟩)] W fun e w'=>∃ xm xl,e=.returned (mval (p.question own) xm xl)∧IntOwn w' xm (p.question own).mems∧LogOwn w' xl (p.question own).log∧Below W.heap.size W w'):=hideA fun W hb=>question_any F b own p _ _ _ _ W (h.below hb) ok
 have hI:=IntsAt.of_owns h.hw
 obtain⟨a',c',hv,hc⟩:=hI;cases hv
 have Hc:=hideA hc;have hw5:=ok.w
 have HA:Hid (∀ k,k<p.waits.length→(p.waits.take (k+1)).map (p.askOf own)=(p.waits.take k).map (p.askOf own)++[{ p.question own with src:=own,dst:=p.waits.getD k 0 }]):=hideA fun k hk=>by
  rw[take_snoc_ints p.waits k hk,List.map_append];rfl
 have HE:Hid (p.asks own=(p.waits.take p.waits.length).map (p.askOf own)):=hideA (by unfold PMas.asks;rw[List.take_length])
 clear h ok hc;generalize p.asks own=asks at *
 generalize p.askOf own=askf at *
 generalize p.question own=q at *
 go_enter Tryz.func125,Tryz.ntmps125
 go_wp2_with fail;go_loopw [3,13] (fun v i wr=>∃ k:Nat,k≤p.waits.length∧i=.int .i64 k∧MsgsOwn wr w.heap.size v ((p.waits.take k).map askf)∧Below w.heap.size w wr) (fun _ i _=>p.waits.length-(intOf i).toNat)
 case atStart=>exact⟨0,Nat.zero_le _,rfl,MsgsOwn.nil _ _,Below.refl _ _⟩
 case round =>
  obtain⟨k,hk,rfl,hms,hbr⟩:=hrel;obtain⟨a9,c9,hsh⟩:=hms.shape;have HM:=hideA hms;have hlen:((p.waits.take k).map askf).length=k:=by rw[List.length_map,List.length_take];omega
  by_cases hlt:k<p.waits.length
  ·obtain⟨gb,off,rfl,ck⟩:=Hc.out k hlt
   have hk1:(k:Int)<(p.waits.length:Int):=by omega
   have ck':=cell_later hbr ck
   have ht:=HA.out k hlt
   have HTk:=hideA ht;generalize p.waits.getD k 0=dd at *
   clear ht hms;rw[hlen] at hsh
   subst hsh;go_wp2_with fail;refine (HQ.out _ hbr).mono ?_
   rintro e Y ⟨xm,xl,rfl,h1,h2,hl⟩;obtain⟨a1,d1,rfl⟩:=osh h1
   obtain⟨a2,d2,rfl⟩:=osh h2
   have hbY:Below w.heap.size w Y:=hbr.trans (hl.mono hbr.size)
   have HO:=hideA (And.intro h1 h2)
   have k0:=HC0.out _ (hbY.alloc hbY.size (.cells #[.int .i64 q.kind,.int .i64 q.src,.int .i64 q.dst,.int .i64 q.epoch,.int .i64 q.ballot,.int .i64 q.vote,.int .i64 q.pos,.int .i64 q.value,.slice a1 q.mems.length d1,.slice a2 q.log.length d2] 134))
   clear h1 h2 ck ck';obtain⟨ws,e1,e2,e3⟩:=HM.out;rw[hlen] at e2
   have e2Y:((Y.alloc (.cells #[.int .i64 q.kind,.int .i64 own,.int .i64 dd,.int .i64 q.epoch,.int .i64 q.ballot,.int .i64 q.vote,.int .i64 q.pos,.int .i64 q.value,.slice a1 q.mems.length d1,.slice a2 q.log.length d2] 134)).alloc (.cells #[.int .i64 q.kind,.int .i64 own,.int .i64 dd,.int .i64 q.epoch,.int .i64 q.ballot,.int .i64 q.vote,.int .i64 q.pos,.int .i64 q.value,.slice a1 q.mems.length d1,.slice a2 q.log.length d2] 134)).ownsRow w.heap.size 134 10 (.slice a9 k c9) k (ws.flatMap mcells):=((okp e2 fun k _ hk=>hl.block k hk).alloc _).alloc _
   obtain⟨g',cap,W',hrun,hown',hgrow⟩:=append_msg ((Y.alloc (.cells #[.int .i64 q.kind,.int .i64 own,.int .i64 dd,.int .i64 q.epoch,.int .i64 q.ballot,.int .i64 q.vote,.int .i64 q.pos,.int .i64 q.value,.slice a1 q.mems.length d1,.slice a2 q.log.length d2] 134)).alloc (.cells #[.int .i64 q.kind,.int .i64 own,.int .i64 dd,.int .i64 q.epoch,.int .i64 q.ballot,.int .i64 q.vote,.int .i64 q.pos,.int .i64 q.value,.slice a1 q.mems.length d1,.slice a2 q.log.length d2] 134)) w.heap.size (.slice a9 k c9) k ws ({ q with src:=own,dst:=dd },.slice a1 q.mems.length d1,.slice a2 q.log.length d2) (Y.heap.size+1) e2Y (heap_new2 _ _ _) (by omega) (by have:=hbY.size;simp;omega) ⟨_,_,_,rfl⟩ ⟨_,_,_,rfl⟩
   have HL':=hideA (ListsOwn.snoc ({ q with src:=own,dst:=dd },.slice a1 q.mems.length d1,.slice a2 q.log.length d2) _ _ e2 e3 hl HO.out.1 HO.out.2 hgrow)
   have HW':=hideA (And.intro hown' e1)
   have hbW:Below w.heap.size w W':=((hbY.alloc hbY.size _).alloc (by have:=hbY.size;simp;omega) _).grown hgrow (by have:=hbY.size;simp;omega) (fun k hk=>by obtain⟨_,_,h3⟩:=obc e2 hk;exact h3)
   clear e1 e2 e3 e2Y hown' hgrow;have HR:=hideA hrun;clear hrun;unfold mval
   go_wp2_with (at_builtin;refine wpList_append_run rfl (.tmp 26) (.tmp 28) 97 rfl _ _ _ _ (by simp[Act.eval]) (by simp[Act.eval]) HR.out ?_)
   go_wp2_with fail;go_roundw
   case rel =>
    refine⟨k+1,by omega,by go_num, ?_,hbW⟩
    rw[HTk.out];refine⟨ws++[({ q with src:=own,dst:=dd },.slice a1 q.mems.length d1,.slice a2 q.log.length d2)],by rw[List.map_append,HW'.out.2];rfl, ?_,HL'.out⟩
    rw[List.length_append,hlen];exact HW'.out.1
   case measure=>simp[intOf];omega
  ·obtain rfl:k=p.waits.length:=by omega
   subst hsh;generalize hpl:((p.waits.take p.waits.length).map askf).length=pl at *
   go_wp2_with fail;go_ret;rw[HE.out];exact⟨_,rfl,HM.out,hbr⟩
end Go.Proofs.YtgieeeeeiggoeaaGreat
