import Derived.Test.YtgieeeeeiggoeaaGreatD24
import Derived.Test.YtgieeeeeiggoeaaGreatD03
set_option maxRecDepth 100000
set_option maxHeartbeats 4000000
namespace Go.Proofs.YtgieeeeeiggoeaaGreat
open Go.RowKit Go.Shelf
open Tryz
variable {own:Int}{b:Nat}{F:Nat->Prop}{p:bh}{vl vm vo vw:Value}{w w':World}
structure iF (w:World)(F:Nat->Prop)(b:Nat)(own:Int)(p:bh)(vw vo vm vl:Value):Prop where
 blk:w.heap[b]?=some (.cells #[.int .i64 own,.int .i64 (p.begun:Int),p.doing,vw,p.ah,vo,p.aO,vm,vl] 146)
 hw:bd w vw p.waits
 ho:bd w vo p.old
 hm:bd w vm p.af
 hl:bw w vl p.log
 fb:F b
 fw:∀ k,vw.ownBlock=some k->F k
 fo:∀ k,vo.ownBlock=some k->F k
 fm:∀ k,vm.ownBlock=some k->F k
 fl:∀ k,vl.ownBlock=some k->F k
 ap:∀ k,vw.ownBlock=some k->vo.ownBlock≠some k/\vm.ownBlock≠some k
 lt:∀ k,F k->k<w.heap.size
def fM (w:World)(F:Nat->Prop)(b:Nat)(own:Int)(p:bh):Prop:=∃ vw vo vm vl,iF w F b own p vw vo vm vl
structure l7 (p:bh)(own:Int):Prop where
 w:p.waits.length<=5
 o:p.old.length<=5
 m:p.af.length<=5
 l:p.log.length<=24
 b:p.begun<=1000
 d:0<=p.doing/\p.doing<=6
 n:200<=own/\own<=201
theorem iF.keep (h:iF w F b own p vw vo vm vl)(hk:∀ k,F k->w'.heap[k]?=w.heap[k]?):iF w' F b own p vw vo vm vl where
 blk:=(hk b h.fb).trans h.blk
 hw:=cG h.hw fun k e=>hk k (h.fw k e)
 ho:=cG h.ho fun k e=>hk k (h.fo k e)
 hm:=cG h.hm fun k e=>hk k (h.fm k e)
 hl:=cG h.hl fun k e=>hk k (h.fl k e)
 fb:=h.fb
 fw:=h.fw
 fo:=h.fo
 fm:=h.fm
 fl:=h.fl
 ap:=h.ap
 lt:=fun k hF=>by
  have h1:=h.lt k hF;have h2:=hk k hF;rw[Array.getElem?_eq_getElem h1] at h2
  exact (aQ h2)
theorem iF.below (h:iF w F b own p vw vo vm vl)(hb:ai w w'):iF w' F b own p vw vo vm vl :=
 h.keep fun k hF=>hb.block k (h.lt k hF)
theorem C_ (F:Nat->Prop)(b:Nat)(own:Int)(p:bh)(vw vo vm vl:Value)(w:World)(h:iF w F b own p vw vo vm vl)(hp:p.begun<=1000)(hn:200<=own/\own<=201) :
  Calls prog 183 #[b] w fun e w'=>e=.returned (.int .i64 (p.ak own))/\∃ q,w'=w.drewN q:=by
 have c0:=aj h.blk 0;have c1:=aj h.blk 1;have H1:Hid (p.ak own=2*(p.begun:Int)+own-200):=ae rfl;clear h;generalize hB:(p.begun:Int)=B at *;have hB0:0<=B:=by omega
 have hB1:B<=1000:=by omega
 clear hB hp;have e1:IntKind.i64.wrap (2*B)=2*B:=by rw[dV];omega
 have e2:IntKind.i64.wrap (2*B+own)=2*B+own:=by rw[dV];omega
 have e3:IntKind.i64.wrap (2*B+own-200)=2*B+own-200:=by rw[dV];omega
 go_enter func183,ntmps183;go_wp2_with fail;go_quiet (fail);go_wp2_with fail;go_ret;refine⟨?_,_,rfl⟩
 rw[H1.out];rfl
theorem Sk (F:Nat->Prop)(b:Nat)(own:Int)(p:bh)(vw vo vm vl:Value)(w:World)(h:iF w F b own p vw vo vm vl)(ok:l7 p own) :
  Calls prog 159 #[b] w fun e w'=>∃ xm xl,e=.returned (bL (p.question own) xm xl)/\bd w' xm (p.question own).af/\bw w' xl (p.question own).log/\ai w w':=by
 have hbl:b<w.heap.size:=h.lt b h.fb;have hne1:¬ b=w.heap.size:=by omega
 have hne2:¬ w.heap.size=b:=by omega
 obtain⟨am,cm,rfl⟩:=aM h.hm;obtain⟨al,cl,rfl⟩:=aM h.hl;have HI:=ae h;have hd:=ok.d;have eC:=ok.m;have ja:=ok.l;have HQ:Hid (∀ W,ai w W->Hid (W.heap[w.heap.size]?=some (.cells #[(),(),(),(),(),(),(),(),true,true] 134))->Calls prog 183 #[b] W fun e w'=>e=.returned (.int .i64 (p.ak own))/\ai W w'/\ai w w'/\Hid (w'.heap[w.heap.size]?=some (.cells #[(),(),(),(),(),(),(),(),true,true] 134))):=ae fun W hb hB=>(C_ F b own p _ _ _ _ W (HI.out.below hb) ok.b ok.n).mono (by
  rintro e w' ⟨rfl,q,rfl⟩;exact⟨rfl,aV (ax _ _) q,aV hb q,hB⟩)
 have lu:Hid (∀ W,ai w W->Hid (W.heap[w.heap.size]?=some (.cells #[(),(),(),(),(),(),(),(),true,true] 134))->Calls prog 69 #[.slice am p.af.length cm] W fun e w'=>∃ x c,e=.returned (.slice x p.af.length c)/\w'.ownsRow (w.heap.size+1) 3 1 (.slice x p.af.length c) p.af.length (aJ p.af)/\ai W w'/\ai w w'/\Hid (w'.heap[w.heap.size]?=some (.cells #[(),(),(),(),(),(),(),(),true,true] 134))):=ae fun W hb hB=>(ma _ p.af W (HI.out.below hb).hm (by omega)).mono (by
  rintro e w' ⟨x,c,rfl,h1,h2⟩;exact⟨x,c,rfl,obs h1 (by have:=(aQ hB.out);omega),h2,hb.trans (h2.mono hb.size),ae ((h2.block _ (aQ hB.out)).trans hB.out)⟩)
 have kl:Hid (∀ W,ai w W->Hid (W.heap[w.heap.size]?=some (.cells #[(),(),(),(),(),(),(),(),true,true] 134))->Calls prog 147 #[.slice al p.log.length cl] W fun e w'=>∃ x c,e=.returned (.slice x p.log.length c)/\w'.ownsRow (w.heap.size+1) 42 5 (.slice x p.log.length c) p.log.length (aJ (bk p.log))/\ai W w'/\ai w w'/\Hid (w'.heap[w.heap.size]?=some (.cells #[(),(),(),(),(),(),(),(),true,true] 134))):=ae fun W hb hB=>(pO _ p.log W (HI.out.below hb).hl (by omega)).mono (by
  rintro e w' ⟨x,c,rfl,h1,h2⟩;exact⟨x,c,rfl,obs h1 (by have:=(aQ hB.out);omega),h2,hb.trans (h2.mono hb.size),ae ((h2.block _ (aQ hB.out)).trans hB.out)⟩)
 have HS:Hid (∀ W,ai w W->W.cell? (b,2)=some (.int .i64 p.doing)/\W.cell? (b,4)=some (.int .i64 p.ah)/\W.cell? (b,7)=some (.slice am p.af.length cm)/\W.cell? (b,8)=some (.slice al p.log.length cl)):=ae fun W hb =>
  ⟨aj (HI.out.below hb).blk 2,aj (HI.out.below hb).blk 4,aj (HI.out.below hb).blk 7,aj (HI.out.below hb).blk 8⟩
 clear h ok;generalize hqq:p.question own=qq;unfold bh.question at hqq;generalize p.ak own=so at *;generalize p.doing=doing at *;rcases (by omega:doing=0\/doing=1\/doing=2\/doing=3\/doing=4\/doing=5\/doing=6) with rfl|rfl|rfl|rfl|rfl|rfl|rfl
 all_goals simp only [Int.reduceEq,if_true,if_false] at hqq
 all_goals subst hqq
 ·go_enter func159,ntmps159
  go_upto_region 1 with fail
  obtain⟨X,hX,hb0,hB0⟩:=ch w #[(),(),(),(),(),(),(),(),true,true] 134;rw[hX];clear hX;have hbd:=hb0.drew;have HB0:=ae hB0;have ef:Hid (X.drew.heap[w.heap.size]?=some (.cells #[(),(),(),(),(),(),(),(),true,true] 134)):=HB0;obtain⟨s1,s2,s3,s4⟩:=HS.out X hb0;have gN:=fun j=>aj hB0 j;have gG:=fun j=>aW hB0 j;clear hB0;go_wp2_with fail;go_region_held3 (fun w'=>w'.cell? (b,4)=some (.int .i64 p.ah)/\w'.cell? (b,7)=some (.slice am p.af.length cm)/\w'.cell? (b,8)=some (.slice al p.log.length cl)) (first|(simp[go_sem];done)|(simp[go_sem, *];done)|go_keep)
   (first
    | (go_at_call 69;refine (lu.out _ (by assumption) (by assumption)).mono ?_;rintro e Y1 ⟨x1,c1,rfl,o1,hl1,hbN,B⟩;obtain⟨u1,u2,u3,u4⟩:=HS.out Y1 hbN;(try (have O1:=ae (aS O1.out fun k _ hk=>hl1.block k hk)));(try (have O2:=ae (aS O2.out fun k _ hk=>hl1.block k hk)));have jO:=B;have gN:=fun j=>aj B.out j;have gG:=fun j=>aW B.out j;clear B;have O1:=ae o1;clear o1))
  all_goals (
   go_wp2_with fail;refine dB (v:=.agg #[.int .i64 15,(),(),p.ah,(),(),(),(),.slice x1 p.af.length c1,true]) (by simp[results,results159,go_sem,gN]) rfl ?_
   have hz:w.heap.size<w.heap.size+1:=Nat.lt_succ_self _;refine⟨.slice x1 p.af.length c1,.slice none 0 0,rfl,obs (bC (bC (bC (bC (bC (bC (bC (bC (bC (bC O1.out hz _) hz _) hz _) hz _) hz _) hz _) hz _) hz _) hz _) hz _) (bl _),bE _ _ _ _, ?_⟩
   iterate 10 refine eE ?_ (by exact aG _) _
   exact hbN)
 ·go_enter func159,ntmps159
  go_upto_region 1 with fail
  obtain⟨X,hX,hb0,hB0⟩:=ch w #[(),(),(),(),(),(),(),(),true,true] 134;rw[hX];clear hX;have hbd:=hb0.drew;have HB0:=ae hB0;have ef:Hid (X.drew.heap[w.heap.size]?=some (.cells #[(),(),(),(),(),(),(),(),true,true] 134)):=HB0;obtain⟨s1,s2,s3,s4⟩:=HS.out X hb0;have gN:=fun j=>aj hB0 j;have gG:=fun j=>aW hB0 j;clear hB0;go_wp2_with fail;refine (HQ.out _ (by assumption) (by assumption)).mono ?_
  rintro e YB ⟨rfl,hlB,hbN,B⟩;obtain⟨t1,t2,t3,t4⟩:=HS.out YB hbN;have gN:=fun j=>aj B.out j;have gG:=fun j=>aW B.out j;clear B;go_wp2_with fail;refine dB (v:=.agg #[.int .i64 5,(),(),(),.int .i64 so,(),(),(),true,true]) (by simp[results,results159,go_sem,gN]) rfl ?_
  have hz:w.heap.size<w.heap.size+1:=Nat.lt_succ_self _;refine⟨.slice none 0 0,.slice none 0 0,rfl,bE _ _ _ _,bE _ _ _ _, ?_⟩
  iterate 10 refine eE ?_ (by exact aG _) _
  exact hbN
 ·go_enter func159,ntmps159
  go_upto_region 1 with fail
  obtain⟨X,hX,hb0,hB0⟩:=ch w #[(),(),(),(),(),(),(),(),true,true] 134;rw[hX];clear hX;have hbd:=hb0.drew;have HB0:=ae hB0;have ef:Hid (X.drew.heap[w.heap.size]?=some (.cells #[(),(),(),(),(),(),(),(),true,true] 134)):=HB0;obtain⟨s1,s2,s3,s4⟩:=HS.out X hb0;have gN:=fun j=>aj hB0 j;have gG:=fun j=>aW hB0 j;clear hB0;go_wp2_with fail;go_region_held3 (fun w'=>w'.cell? (b,4)=some (.int .i64 p.ah)/\w'.cell? (b,7)=some (.slice am p.af.length cm)/\w'.cell? (b,8)=some (.slice al p.log.length cl)) (first|(simp[go_sem];done)|(simp[go_sem, *];done)|go_keep)
   (first
    | (go_at_call 183;refine (HQ.out _ (by assumption) (by assumption)).mono ?_;rintro e YB ⟨rfl,hlB,hbN,B⟩;obtain⟨t1,t2,t3,t4⟩:=HS.out YB hbN;(try (have O1:=ae (aS O1.out fun k _ hk=>hlB.block k hk)));(try (have O2:=ae (aS O2.out fun k _ hk=>hlB.block k hk)));have jO:=B;have gN:=fun j=>aj B.out j;have gG:=fun j=>aW B.out j;clear B))
  all_goals (
   go_wp2_with fail;refine dB (v:=.agg #[.int .i64 7,(),(),p.ah,.int .i64 so,(),(),(),true,true]) (by simp[results,results159,go_sem,gN]) rfl ?_
   have hz:w.heap.size<w.heap.size+1:=Nat.lt_succ_self _;refine⟨.slice none 0 0,.slice none 0 0,rfl,bE _ _ _ _,bE _ _ _ _, ?_⟩
   iterate 10 refine eE ?_ (by exact aG _) _
   exact hbN)
 ·go_enter func159,ntmps159
  go_upto_region 1 with fail
  obtain⟨X,hX,hb0,hB0⟩:=ch w #[(),(),(),(),(),(),(),(),true,true] 134;rw[hX];clear hX;have hbd:=hb0.drew;have HB0:=ae hB0;have ef:Hid (X.drew.heap[w.heap.size]?=some (.cells #[(),(),(),(),(),(),(),(),true,true] 134)):=HB0;obtain⟨s1,s2,s3,s4⟩:=HS.out X hb0;have gN:=fun j=>aj hB0 j;have gG:=fun j=>aW hB0 j;clear hB0;go_wp2_with fail;go_region_held3 (fun w'=>w'.cell? (b,4)=some (.int .i64 p.ah)/\w'.cell? (b,7)=some (.slice am p.af.length cm)/\w'.cell? (b,8)=some (.slice al p.log.length cl)) (first|(simp[go_sem];done)|(simp[go_sem, *];done)|go_keep)
   (first
    | (go_at_call 183;refine (HQ.out _ (by assumption) (by assumption)).mono ?_;rintro e YB ⟨rfl,hlB,hbN,B⟩;obtain⟨t1,t2,t3,t4⟩:=HS.out YB hbN;(try (have O1:=ae (aS O1.out fun k _ hk=>hlB.block k hk)));(try (have O2:=ae (aS O2.out fun k _ hk=>hlB.block k hk)));have jO:=B;have gN:=fun j=>aj B.out j;have gG:=fun j=>aW B.out j;clear B))
  all_goals (
   go_wp2_with fail;refine dB (v:=.agg #[.int .i64 9,(),(),p.ah,.int .i64 so,(),(),(),true,true]) (by simp[results,results159,go_sem,gN]) rfl ?_
   have hz:w.heap.size<w.heap.size+1:=Nat.lt_succ_self _;refine⟨.slice none 0 0,.slice none 0 0,rfl,bE _ _ _ _,bE _ _ _ _, ?_⟩
   iterate 10 refine eE ?_ (by exact aG _) _
   exact hbN)
 ·go_enter func159,ntmps159
  go_upto_region 1 with fail
  obtain⟨X,hX,hb0,hB0⟩:=ch w #[(),(),(),(),(),(),(),(),true,true] 134;rw[hX];clear hX;have hbd:=hb0.drew;have HB0:=ae hB0;have ef:Hid (X.drew.heap[w.heap.size]?=some (.cells #[(),(),(),(),(),(),(),(),true,true] 134)):=HB0;obtain⟨s1,s2,s3,s4⟩:=HS.out X hb0;have gN:=fun j=>aj hB0 j;have gG:=fun j=>aW hB0 j;clear hB0;go_wp2_with fail;go_region_held3 (fun w'=>w'.cell? (b,4)=some (.int .i64 p.ah)/\w'.cell? (b,7)=some (.slice am p.af.length cm)/\w'.cell? (b,8)=some (.slice al p.log.length cl)) (first|(simp[go_sem];done)|(simp[go_sem, *];done)|go_keep)
   (first
    | (go_at_call 183;refine (HQ.out _ (by assumption) (by assumption)).mono ?_;rintro e YB ⟨rfl,hlB,hbN,B⟩;obtain⟨t1,t2,t3,t4⟩:=HS.out YB hbN;(try (have O1:=ae (aS O1.out fun k _ hk=>hlB.block k hk)));(try (have O2:=ae (aS O2.out fun k _ hk=>hlB.block k hk)));have jO:=B;have gN:=fun j=>aj B.out j;have gG:=fun j=>aW B.out j;clear B)
    | (go_at_call 69;refine (lu.out _ (by assumption) (by assumption)).mono ?_;rintro e Y1 ⟨x1,c1,rfl,o1,hl1,hbN,B⟩;obtain⟨u1,u2,u3,u4⟩:=HS.out Y1 hbN;(try (have O1:=ae (aS O1.out fun k _ hk=>hl1.block k hk)));(try (have O2:=ae (aS O2.out fun k _ hk=>hl1.block k hk)));have jO:=B;have gN:=fun j=>aj B.out j;have gG:=fun j=>aW B.out j;clear B;have O1:=ae o1;clear o1)
    | (go_at_call 147;refine (kl.out _ (by assumption) (by assumption)).mono ?_;rintro e Y2 ⟨x2,c2,rfl,o2,hl2,hbN,B⟩;obtain⟨v1,v2,v3,v4⟩:=HS.out Y2 hbN;(try (have O1:=ae (aS O1.out fun k _ hk=>hl2.block k hk)));(try (have O2:=ae (aS O2.out fun k _ hk=>hl2.block k hk)));have jO:=B;have gN:=fun j=>aj B.out j;have gG:=fun j=>aW B.out j;clear B;have O2:=ae o2;clear o2))
  all_goals (
   go_wp2_with fail;refine dB (v:=.agg #[.int .i64 11,(),(),p.ah,.int .i64 so,(),(),(),.slice x1 p.af.length c1,.slice x2 p.log.length c2]) (by simp[results,results159,go_sem,gN]) rfl ?_
   have hz:w.heap.size<w.heap.size+1:=Nat.lt_succ_self _;refine⟨.slice x1 p.af.length c1,.slice x2 p.log.length c2,rfl,obs (bC (bC (bC (bC (bC (bC (bC (bC (bC (bC O1.out hz _) hz _) hz _) hz _) hz _) hz _) hz _) hz _) hz _) hz _) (bl _),obs (bC (bC (bC (bC (bC (bC (bC (bC (bC (bC O2.out hz _) hz _) hz _) hz _) hz _) hz _) hz _) hz _) hz _) hz _) (bl _), ?_⟩
   iterate 10 refine eE ?_ (by exact aG _) _
   exact hbN)
 ·go_enter func159,ntmps159
  go_upto_region 1 with fail
  obtain⟨X,hX,hb0,hB0⟩:=ch w #[(),(),(),(),(),(),(),(),true,true] 134;rw[hX];clear hX;have hbd:=hb0.drew;have HB0:=ae hB0;have ef:Hid (X.drew.heap[w.heap.size]?=some (.cells #[(),(),(),(),(),(),(),(),true,true] 134)):=HB0;obtain⟨s1,s2,s3,s4⟩:=HS.out X hb0;have gN:=fun j=>aj hB0 j;have gG:=fun j=>aW hB0 j;clear hB0;go_wp2_with fail;go_region_held3 (fun w'=>w'.cell? (b,4)=some (.int .i64 p.ah)/\w'.cell? (b,7)=some (.slice am p.af.length cm)/\w'.cell? (b,8)=some (.slice al p.log.length cl)) (first|(simp[go_sem];done)|(simp[go_sem, *];done)|go_keep)
   (first
    | (go_at_call 69;refine (lu.out _ (by assumption) (by assumption)).mono ?_;rintro e Y1 ⟨x1,c1,rfl,o1,hl1,hbN,B⟩;obtain⟨u1,u2,u3,u4⟩:=HS.out Y1 hbN;(try (have O1:=ae (aS O1.out fun k _ hk=>hl1.block k hk)));(try (have O2:=ae (aS O2.out fun k _ hk=>hl1.block k hk)));have jO:=B;have gN:=fun j=>aj B.out j;have gG:=fun j=>aW B.out j;clear B;have O1:=ae o1;clear o1)
    | (go_at_call 147;refine (kl.out _ (by assumption) (by assumption)).mono ?_;rintro e Y2 ⟨x2,c2,rfl,o2,hl2,hbN,B⟩;obtain⟨v1,v2,v3,v4⟩:=HS.out Y2 hbN;(try (have O1:=ae (aS O1.out fun k _ hk=>hl2.block k hk)));(try (have O2:=ae (aS O2.out fun k _ hk=>hl2.block k hk)));have jO:=B;have gN:=fun j=>aj B.out j;have gG:=fun j=>aW B.out j;clear B;have O2:=ae o2;clear o2))
  all_goals (
   go_wp2_with fail;refine dB (v:=.agg #[.int .i64 13,(),(),p.ah,(),(),(),(),.slice x1 p.af.length c1,.slice x2 p.log.length c2]) (by simp[results,results159,go_sem,gN]) rfl ?_
   have hz:w.heap.size<w.heap.size+1:=Nat.lt_succ_self _;refine⟨.slice x1 p.af.length c1,.slice x2 p.log.length c2,rfl,obs (bC (bC (bC (bC (bC (bC (bC (bC (bC (bC O1.out hz _) hz _) hz _) hz _) hz _) hz _) hz _) hz _) hz _) hz _) (bl _),obs (bC (bC (bC (bC (bC (bC (bC (bC (bC (bC O2.out hz _) hz _) hz _) hz _) hz _) hz _) hz _) hz _) hz _) hz _) (bl _), ?_⟩
   iterate 10 refine eE ?_ (by exact aG _) _
   exact hbN)
 ·go_enter func159,ntmps159
  go_upto_region 1 with fail
  obtain⟨X,hX,hb0,hB0⟩:=ch w #[(),(),(),(),(),(),(),(),true,true] 134;rw[hX];clear hX;have hbd:=hb0.drew;have HB0:=ae hB0;have ef:Hid (X.drew.heap[w.heap.size]?=some (.cells #[(),(),(),(),(),(),(),(),true,true] 134)):=HB0;obtain⟨s1,s2,s3,s4⟩:=HS.out X hb0;have gN:=fun j=>aj hB0 j;have gG:=fun j=>aW hB0 j;clear hB0;go_wp2_with fail;go_region_held3 (fun w'=>w'.cell? (b,4)=some (.int .i64 p.ah)/\w'.cell? (b,7)=some (.slice am p.af.length cm)/\w'.cell? (b,8)=some (.slice al p.log.length cl)) (first|(simp[go_sem];done)|(simp[go_sem, *];done)|go_keep)
   (first
    | (go_at_call 69;refine (lu.out _ (by assumption) (by assumption)).mono ?_;rintro e Y1 ⟨x1,c1,rfl,o1,hl1,hbN,B⟩;obtain⟨u1,u2,u3,u4⟩:=HS.out Y1 hbN;(try (have O1:=ae (aS O1.out fun k _ hk=>hl1.block k hk)));(try (have O2:=ae (aS O2.out fun k _ hk=>hl1.block k hk)));have jO:=B;have gN:=fun j=>aj B.out j;have gG:=fun j=>aW B.out j;clear B;have O1:=ae o1;clear o1))
  all_goals (
   go_wp2_with fail;refine dB (v:=.agg #[.int .i64 15,(),(),p.ah,(),(),(),(),.slice x1 p.af.length c1,true]) (by simp[results,results159,go_sem,gN]) rfl ?_
   have hz:w.heap.size<w.heap.size+1:=Nat.lt_succ_self _;refine⟨.slice x1 p.af.length c1,.slice none 0 0,rfl,obs (bC (bC (bC (bC (bC (bC (bC (bC (bC (bC O1.out hz _) hz _) hz _) hz _) hz _) hz _) hz _) hz _) hz _) hz _) (bl _),bE _ _ _ _, ?_⟩
   iterate 10 refine eE ?_ (by exact aG _) _
   exact hbN)
end Go.Proofs.YtgieeeeeiggoeaaGreat
