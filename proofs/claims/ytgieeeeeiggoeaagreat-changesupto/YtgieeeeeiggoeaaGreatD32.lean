import Derived.Test.YtgieeeeeiggoeaaGreatD30
set_option maxRecDepth 100000
set_option maxHeartbeats 2000000
namespace Go.Proofs.YtgieeeeeiggoeaaGreat
open Go.RowKit Go.Shelf
open Tryz
theorem GF (b:Nat)(r:aR)(vm vl:Value)(own:Int)(p:Nat)(w:World)(h:ot w b r vm vl)(hl:r.af.length<=5)(hp:p<r.log.length)(_hb24:r.log.length<=24) :
  Calls prog 207 #[b,.int .i64 own,.int .i64 (p:Int)] w fun e w'=>∃ bD,e=.returned (bL (r.forward own (mx r.af own 1) p) (.slice none 0 0) bD)/\w'.ownsRow w.heap.size 42 5 bD 1 (aJ (bk [r.log.getD p aH.zero]))/\ai w w':=by
 obtain⟨X,hX,hbX,hM⟩:=ch w #[(),(),(),(),(),(),(),(),true,true] 134;have jm:=h.below hbX;have HN:Hid (∀ W,W=X.drew->Calls prog 209 #[b,.int .i64 own,.int .i64 1] W fun e w'=>e=.returned (.int .i64 (mx r.af own 1))/\∃ q,w'=X.drewN q):=ae fun W hW=>by
  subst hW;refine (rP b r vm vl own 1 X.drew (jm.below (ax _ _).drew) hl (.inr rfl)).mono ?_
  rintro e w' ⟨h1,q,rfl⟩;exact⟨h1,1+q,World.drewN_drew _ _⟩
 have eU:Hid (∀ o,Calls prog 209 #[b,.int .i64 own,.int .i64 1] (X.alloc o).drew fun e w'=>e=.returned (.int .i64 (mx r.af own 1))/\∃ q,w'=(X.alloc o).drewN q):=ae fun o=>by
  refine (rP b r vm vl own 1 (X.alloc o).drew (jm.below (((ax _ X).alloc (aG _) o).drew)) hl (.inr rfl)).mono ?_
  rintro e w' ⟨h1,q,rfl⟩;exact⟨h1,1+q,World.drewN_drew _ _⟩
 have hX1:=jm.c1;have ky:=jm.c4;obtain⟨al,cl,hvl,dy⟩:=jm.log;subst hvl;obtain⟨b1,o1,hal,l0,l1,l2,l3,l4⟩:=dy p hp;subst hal;have tV:Hid (∀ n v',bL (r.forward own n p) (.slice none 0 0) v'=.agg #[.int .i64 2,.int .i64 own,.int .i64 n,r.ah,(),(),.int .i64 (p:Int),(),true,v']):=ae fun _ _=>rfl;generalize r.log.getD p aH.zero=x at *;generalize mx r.af own 1=nb at *;have hp0:(0:Int)<=(p:Int):=by omega
 have hp1:(p:Int)<(r.log.length:Int):=by omega
 have gW:=fun j=>aj hM j;have fW:=fun j=>aW hM j;have hwl:w.heap.size<X.heap.size:=(aQ hM);have hn1:¬ w.heap.size=X.heap.size:=by omega
 have hn2:¬ X.heap.size=w.heap.size:=by omega
 have zC:∀ q o j,((X.drewN q).alloc o).cell? ⟨w.heap.size,j,none⟩=(#[.int .i64 0,.int .i64 0,.int .i64 0,.int .i64 0,.int .i64 0,.int .i64 0,.int .i64 0,.int .i64 0,.slice none 0 0,.slice none 0 0]:Array Value)[j]?:=fun q o j=>aj ((((ax _ (X.drewN q)).alloc (aG _) o).block _ hwl).trans hM) j;have zF:∀ q o j,((X.drewN q).alloc o).frozen? ⟨w.heap.size,j,none⟩=false:=fun q o j=>aW ((((ax _ (X.drewN q)).alloc (aG _) o).block _ hwl).trans hM) j;have z1:∀ q o,((X.drewN q).alloc o).cell? (b,1)=some (.int .i64 r.ah):=fun q o=>aF ((ax _ (X.drewN q)).alloc (aG _) o) hX1;have yC:∀ o j,(X.alloc o).cell? ⟨w.heap.size,j,none⟩=(#[.int .i64 0,.int .i64 0,.int .i64 0,.int .i64 0,.int .i64 0,.int .i64 0,.int .i64 0,.int .i64 0,.slice none 0 0,.slice none 0 0]:Array Value)[j]?:=fun o j=>aj ((((ax _ X).alloc (aG _) o).block _ hwl).trans hM) j;have yF:∀ o j,(X.alloc o).frozen? ⟨w.heap.size,j,none⟩=false:=fun o j=>aW ((((ax _ X).alloc (aG _) o).block _ hwl).trans hM) j;have y1:∀ o,(X.alloc o).cell? (b,1)=some (.int .i64 r.ah):=fun o=>aF ((ax _ X).alloc (aG _) o) hX1;have hset:∀ (U:World) (j:Nat) (v:Value),(U.setCell ⟨w.heap.size,j,none⟩ v).heap[X.heap.size]?=U.heap[X.heap.size]?:=fun U j v=>cJ U ⟨w.heap.size,j,none⟩ v X.heap.size (fun e=>hn2 e);clear h jm dy hM;go_enter func207,ntmps207;go_wp2_with fail;go_region_law (first
  | (rw[if_pos (by simp[Region.wanted])];go_simp;go_at_call 209;refine (HN.out _ rfl).mono ?_;rintro e W ⟨rfl,q,rfl⟩)
  | (rw[if_pos (by simp[Region.wanted])];go_simp;go_at_call 209;refine (eU.out _).mono ?_;rintro e W ⟨rfl,q,rfl⟩))
 all_goals (
  go_wp2_with fail;refine dB (v:=.agg #[.int .i64 2,.int .i64 own,.int .i64 nb,r.ah,(),(),.int .i64 (p:Int),(),true,.slice (some X.heap.size) 1 1]) (by simp[results,results207,go_sem,zC,yC]) rfl ?_
  refine⟨.slice (some X.heap.size) 1 1,by rw[tV.out],⟨rfl,.inr ⟨X.heap.size,1,#[.int .i64 x.client,.int .i64 x.seq,.int .i64 x.kind,.int .i64 x.key,.int .i64 x.value],rfl,Nat.le_of_lt hwl, ?_,aG _,by decide,rfl,rfl⟩⟩, ?_⟩
  ·simp only [hset]
   exact hnw _ _
  ·iterate 10 refine eE ?_ (by exact aG _) _
   first
    | exact (aV hbX q).alloc (Nat.le_of_lt hwl) _
    | exact aV (hbX.alloc (Nat.le_of_lt hwl) _) q)
end Go.Proofs.YtgieeeeeiggoeaaGreat
