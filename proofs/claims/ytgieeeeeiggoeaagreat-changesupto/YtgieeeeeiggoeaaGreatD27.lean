import Derived.Test.YtgieeeeeiggoeaaGreatD25
set_option maxRecDepth 100000
set_option maxHeartbeats 2000000
namespace Go.Proofs.YtgieeeeeiggoeaaGreat
open Go.RowKit Go.Shelf
open Tryz
theorem S_ (b:Nat)(own:Int)(r:aR)(vm vl:Value)(w:World)(h:dh w b own r vm vl) :
  Calls prog 259 #[b] w fun e w'=>(∃ v,e=.returned v)/\eB w w' b own vm vl { r with aU:=r.base }:=by
 have c5:=au h.blk 5;have c6:=au h.blk 6;have f6:w.frozen? (b,6)=false:=aW h.blk 6;have R1:=ae (h.set 6 (.int .i64 (r.base:Int)) { r with aU:=r.base } vm vl rfl h.hm h.hl)
 clear h;go_enter func259,ntmps259;go_wp2_with fail;go_end0;exact⟨⟨_,rfl⟩,_,_,R1.out,(Moved.refl w _).setCell ⟨b,6,none⟩ (.inl rfl) _,bO.refl _ _,bO.refl _ _⟩
def aR.rise (r:aR)(own:Int):aR:=if r.live own/\bS r.af own=none then { r with aU:=r.log.length } else r
theorem Te (b:Nat)(own:Int)(r:aR)(vm vl:Value)(w:World)(h:dh w b own r vm vl)(ok:gH r) :
  Calls prog 260 #[b] w fun e w'=>(∃ v,e=.returned v)/\eB w w' b own vm vl (r.rise own):=by
 have HT:Hid (r.rise own=if r.live own/\bS r.af own=none then { r with aU:=r.log.length } else r):=ae rfl
 obtain⟨al,cl,rfl⟩:=aM h.hl;have HL:Hid (∀ W,ai w W->Calls prog 263 #[b] W fun e w'=>e=.returned (.bool (r.live own))/\∃ q,w'=W.drewN q):=ae fun W hb=>sL b own r vm _ W (h.below hb) ok;have km:Hid (∀ W,ai w W->Calls prog 264 #[b] W fun e w'=>e=.returned (.bool (!(bS r.af own).isSome))/\ai W w'):=ae fun W hb=>Ft b own r vm _ W (h.below hb) ok;have HR:=ae h;clear h ok;go_enter func260,ntmps260;go_wp2_with fail;refine (HL.out _ (ax _ _)).mono ?_
 rintro e W ⟨rfl,q,rfl⟩;have hb:=aV (ax w.heap.size w) q;generalize w.drewN q=X at *;cases hlv:r.live own with
 | false =>
  go_wp2_with fail;go_end0;exact⟨⟨_,rfl⟩,by rw[HT.out,if_neg (by rintro⟨h1, -⟩;rw[hlv] at h1;cases h1)];exact eB.still HR.out hb⟩
 | true =>
  go_wp2_with fail;refine (km.out _ hb).mono ?_
  rintro e Y ⟨rfl,hb2⟩;have bt:=hb.trans (hb2.mono hb.size);have RY:=ae (HR.out.below bt);cases hnx:bS r.af own with
  | some nx =>
   go_wp2_with fail;go_end0;exact⟨⟨_,rfl⟩,by rw[HT.out,if_neg (by rintro⟨-,h1⟩;rw[hnx] at h1;cases h1)];exact eB.still HR.out bt⟩
  | none =>
   have c4:=au RY.out.blk 4;have c6:=au RY.out.blk 6;have f6:Y.frozen? (b,6)=false:=aW RY.out.blk 6;have R1:=ae (RY.out.set 6 (.int .i64 (r.log.length:Int)) { r with aU:=r.log.length } vm _ rfl RY.out.hm RY.out.hl)
   go_wp2_with fail;go_end0;exact⟨⟨_,rfl⟩,by rw[HT.out,if_pos ⟨hlv,hnx⟩];exact⟨_,_,R1.out,((Moved.refl w _).below bt).setCell ⟨b,6,none⟩ (.inl rfl) _,bO.refl _ _,bO.refl _ _⟩⟩
theorem Tb (own:Int)(l:List Int)(v:Value)(w:World)(hv:bd w v l)(hl:l.length<=5) :
  Calls prog 107 #[.int .i64 own,v] w fun e w'=>∃ b vm,e=.returned (.pointer (some ⟨b,0,none⟩))/\dh w' b own { up:=true,ah:=0,lock:=0,af:=l,log:=[],base:=0,aU:=0 } vm (.slice none 0 0)/\w.heap.size<=b/\(∀ k,vm.ownBlock=some k->w.heap.size<=k)/\ai w w':=by
 have hc:=ma v l w hv (by omega)
 obtain⟨a0,c0,rfl⟩:=aM hv;clear hv;go_enter func107,ntmps107;go_wp2_with fail;refine hc.mono ?_
 rintro e W ⟨a,c,rfl,ho,hb⟩;clear hc;have HO:=ae ho;go_wp2_with fail;go_ret;refine⟨_,.slice a l.length c,rfl,⟨hnw _ _,(obs HO.out (bl _)).alloc _,bw.nil _⟩,hb.size,fun k hk=>by obtain⟨_,_,h3⟩:=bK HO.out hk;have:=h3;omega,hb.alloc hb.size _⟩
theorem Tg (b:Nat)(own:Int)(r:aR)(vm vl:Value)(w:World)(h:dh w b own r vm vl)(ok:gH r) :
  Calls prog 111 #[b] w fun e w'=>∃ a c a' c',e=.returned (.agg #[.bool false,r.ah,r.lock,.int .i64 (r.aU:Int),.slice a r.af.length c,.slice a' r.log.length c']) /\
   w'.ownsRow w.heap.size 3 1 (.slice a r.af.length c) r.af.length (aJ r.af)/\w'.ownsRow w.heap.size 42 5 (.slice a' r.log.length c') r.log.length (aJ (bk r.log))/\ai w w':=by
 obtain⟨am,cm,rfl⟩:=aM h.hm;obtain⟨al,cl,rfl⟩:=aM h.hl;have hbl:b<w.heap.size:=(aQ h.blk);have hne1:¬ b=w.heap.size:=by omega
 have hne2:¬ w.heap.size=b:=by omega
 have eC:=ok.m;have ja:=ok.l;have HR:=ae h;have HS:Hid (∀ W,ai w W->W.cell? (b,1)=some (.int .i64 r.ah)/\W.cell? (b,2)=some (.int .i64 r.lock)/\W.cell? (b,6)=some (.int .i64 (r.aU:Int))/\W.cell? (b,3)=some (.slice am r.af.length cm)/\W.cell? (b,4)=some (.slice al r.log.length cl)):=ae fun W hb =>
  ⟨aj (HR.out.below hb).blk 1,aj (HR.out.below hb).blk 2,aj (HR.out.below hb).blk 6,aj (HR.out.below hb).blk 3,aj (HR.out.below hb).blk 4⟩
 have lu:Hid (∀ W,ai w W->W.heap[w.heap.size]?=some (.cells #[.bool false,(),(),(),true,true] 46)->Calls prog 69 #[.slice am r.af.length cm] W fun e w'=>∃ a c,e=.returned (.slice a r.af.length c)/\w'.ownsRow (w.heap.size+1) 3 1 (.slice a r.af.length c) r.af.length (aJ r.af)/\ai W w'/\ai w w'/\w'.heap[w.heap.size]?=some (.cells #[.bool false,(),(),(),true,true] 46)):=ae fun W hb hB=>(ma _ r.af W (HR.out.below hb).hm (by omega)).mono (by
  rintro e w' ⟨a,c,rfl,h1,h2⟩;exact⟨a,c,rfl,obs h1 (by have:=(aQ hB);omega),h2,hb.trans (h2.mono hb.size),(h2.block _ (aQ hB)).trans hB⟩)
 have kl:Hid (∀ W,ai w W->W.heap[w.heap.size]?=some (.cells #[.bool false,(),(),(),true,true] 46)->Calls prog 147 #[.slice al r.log.length cl] W fun e w'=>∃ a c,e=.returned (.slice a r.log.length c)/\w'.ownsRow (w.heap.size+1) 42 5 (.slice a r.log.length c) r.log.length (aJ (bk r.log))/\ai W w'/\ai w w'/\w'.heap[w.heap.size]?=some (.cells #[.bool false,(),(),(),true,true] 46)):=ae fun W hb hB=>(pO _ r.log W (HR.out.below hb).hl (by omega)).mono (by
  rintro e w' ⟨a,c,rfl,h1,h2⟩;exact⟨a,c,rfl,obs h1 (by have:=(aQ hB);omega),h2,hb.trans (h2.mono hb.size),(h2.block _ (aQ hB)).trans hB⟩)
 clear h ok;go_enter func111,ntmps111;go_wp2_with fail;have hb0:=(ax w.heap.size w).alloc (aG _) (.cells #[.bool false,(),(),(),true,true] 46);have hB0:(w.alloc (.cells #[.bool false,(),(),(),true,true] 46)).heap[w.heap.size]?=some (.cells #[.bool false,(),(),(),true,true] 46):=hnw _ _;generalize w.alloc (.cells #[.bool false,(),(),(),true,true] 46)=X at *;obtain⟨s1,s2,s6,s3,s4⟩:=HS.out X hb0;have HB0:=ae hB0;clear hB0;go_region_held3 (fun w'=>w'.cell? (b,1)=some (.int .i64 r.ah)/\w'.cell? (b,2)=some (.int .i64 r.lock)/\w'.cell? (b,6)=some (.int .i64 (r.aU:Int))/\w'.cell? (b,3)=some (.slice am r.af.length cm)/\w'.cell? (b,4)=some (.slice al r.log.length cl)) (first|(simp[go_sem];done)|(simp[go_sem, *];done)|go_keep)
  (first
   | (go_at_call 69;refine (lu.out _ hb0.drew HB0.out).mono ?_;rintro e Y1 ⟨a1,c1,rfl,o1,hl1,hb1,B1⟩;obtain⟨u1,u2,u6,u3,u4⟩:=HS.out Y1 hb1;have HB1:=ae B1;have O1:=ae o1;have gM:=fun j=>aj B1 j;have gF:=fun j=>aW B1 j;clear B1 o1)
   | (go_at_call 69;refine (lu.out _ hb2 HB2.out).mono ?_;rintro e Y1 ⟨a1,c1,rfl,o1,hl1,hb1,B1⟩;obtain⟨u1,u2,u6,u3,u4⟩:=HS.out Y1 hb1;have HB1:=ae B1;have O1:=ae o1;have VD:=fun j=>aj B1 j;have VC:=fun j=>aW B1 j;clear B1 o1)
   | (go_at_call 147;refine (kl.out _ hb0.drew HB0.out).mono ?_;rintro e Y2 ⟨a2,c2,rfl,o2,hl2,hb2,B2⟩;obtain⟨v1,v2,v6,v3,v4⟩:=HS.out Y2 hb2;have HB2:=ae B2;have O2:=ae o2;have gN:=fun j=>aj B2 j;have gG:=fun j=>aW B2 j;clear B2 o2)
   | (go_at_call 147;refine (kl.out _ hb1 HB1.out).mono ?_;rintro e Y2 ⟨a2,c2,rfl,o2,hl2,hb2,B2⟩;obtain⟨v1,v2,v6,v3,v4⟩:=HS.out Y2 hb2;have HB2:=ae B2;have O2:=ae o2;have gN:=fun j=>aj B2 j;have gG:=fun j=>aW B2 j;clear B2 o2))
 all_goals go_wp2_with fail
 all_goals (
  refine dB (v:=.agg #[.bool false,r.ah,r.lock,.int .i64 (r.aU:Int),.slice a1 r.af.length c1,.slice a2 r.log.length c2]) (by simp[results,results111,go_sem,gN]) rfl ?_
  have hz:w.heap.size<w.heap.size+1:=Nat.lt_succ_self _;have RG:=aS O1.out (fun k _ hk=>hl2.block k hk);exact⟨a1,c1,a2,c2,rfl,obs (bC (bC (bC (bC (bC (bC RG hz _) hz _) hz _) hz _) hz _) hz _) (Nat.le_succ _),
      obs (bC (bC (bC (bC (bC (bC O2.out hz _) hz _) hz _) hz _) hz _) hz _) (Nat.le_succ _),by
      iterate 6 refine eE ?_ (by exact aG _) _
      exact hb2⟩)
end Go.Proofs.YtgieeeeeiggoeaaGreat
