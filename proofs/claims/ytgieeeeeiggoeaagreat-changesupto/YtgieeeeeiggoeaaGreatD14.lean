import Derived.Test.YtgieeeeeiggoeaaGreatD12
import Derived.BigRegion
set_option maxRecDepth 100000
set_option maxHeartbeats 4000000
namespace Go.Proofs.YtgieeeeeiggoeaaGreat
open Go.RowKit Go.Shelf
open Tryz
attribute [local go_sem] Oper.semAt_some
theorem Mu (P:aH->Bool)(a:aH)(t:List aH):kS P (a :: t)=(if P a then [(0,a)] else [])++(kS P t).map (fun y=>(y.1+1,y.2)):=by
 unfold kS lD;rw[eu,List.range_succ_eq_map,List.filterMap_cons,List.filterMap_map];have e1:qQ P (a :: t) 0=if P a then some (0,a) else none:=rfl
 have e2:(List.range t.length).filterMap (qQ P (a :: t) ∘ Nat.succ)=((List.range t.length).filterMap (qQ P t)).map (fun y=>(y.1+1,y.2)):=by
  rw[List.map_filterMap];congr 1;funext i;show qQ P (a :: t) (i+1)=_;unfold qQ;rw[show (a :: t).getD (i+1) aH.zero=t.getD i aH.zero from rfl];split<;>rfl
 rw[e1,e2];by_cases h:P a=true
 ·simp[h]
 ·simp[h]
theorem D0 (P:aH->Bool)(es:List aH):(kS P es).head?=if es.any P then some (es.findIdx P,es.getD (es.findIdx P) aH.zero) else none:=by
 induction es with
 | nil=>rfl
 | cons a t ih =>
  rw[Mu,List.any_cons,List.findIdx_cons];by_cases h:P a=true
  ·simp[h]
  ·simp only [h,Bool.false_eq_true, ↓reduceIte,fH,Bool.false_or,cond_false]
   rw[List.head?_map,ih]
   by_cases h2:t.any P=true
   ·rw[if_pos h2,if_pos h2];rfl
   ·rw[if_neg h2,if_neg h2];rfl
def g_ (c s:Int)(x:aH):Bool:=decide (x.client=c) && decide (x.seq=s)
def qw (es:List aH)(c s:Int):Int:=if es.any (g_ c s) then (es.findIdx (g_ c s):Int) else 0
def mr (c s:Int)(x:aH):Bool:=decide (x.client=c) && decide (s<x.seq)
def qh (k:Int)(x:aH):Bool:=decide (x.kind=1) && decide (x.key=k)
theorem Mk (c s:Int)(Bc Bs:Nat)(e:aH)(W:World)(hc:W.cell? (Bc,0)=some (.int .i64 c))(hs:W.cell? (Bs,0)=some (.int .i64 s)) :
  Calls prog 289 #[eP e,Bc,Bs] W fun r W'=>r=.returned (.bool (g_ c s e))/\ai W W':=by
 have d0:=fun o=>aF ((ax _ W).alloc (aG _) o) hc;have d1:=fun o=>aF ((ax _ W).alloc (aG _) o) hs;unfold eP;by_cases h1:e.client=c
 ·go_enter func289,ntmps289
  go_wp2;go_ret;exact⟨by simp[g_,h1]<;>rfl,(ax _ _).alloc (aG _) _⟩
 ·have h1d:(e.client == c)=false:=by simp[h1]
  go_enter func289,ntmps289;go_wp2;go_ret;exact⟨by simp[g_,h1]<;>rfl,(ax _ _).alloc (aG _) _⟩
theorem PM (c s:Int)(Bc Bs:Nat)(e:aH)(W:World)(hc:W.cell? (Bc,0)=some (.int .i64 c))(hs:W.cell? (Bs,0)=some (.int .i64 s)) :
  Calls prog 292 #[eP e,Bc,Bs] W fun r W'=>r=.returned (.bool (mr c s e))/\ai W W':=by
 have d0:=fun o=>aF ((ax _ W).alloc (aG _) o) hc;have d1:=fun o=>aF ((ax _ W).alloc (aG _) o) hs;unfold eP;by_cases h1:e.client=c
 ·go_enter func292,ntmps292
  go_wp2;go_ret;exact⟨by simp[mr,h1]<;>rfl,(ax _ _).alloc (aG _) _⟩
 ·have h1d:(e.client == c)=false:=by simp[h1]
  go_enter func292,ntmps292;go_wp2;go_ret;exact⟨by simp[mr,h1]<;>rfl,(ax _ _).alloc (aG _) _⟩
theorem Ke (k:Int)(Bk:Nat)(e:aH)(W:World)(hk:W.cell? (Bk,0)=some (.int .i64 k)) :
  Calls prog 298 #[eP e,Bk] W fun r W'=>r=.returned (.bool (qh k e))/\ai W W':=by
 have d0:=fun o=>aF ((ax _ W).alloc (aG _) o) hk;unfold eP;by_cases h1:e.kind=1
 ·go_enter func298,ntmps298
  go_wp2;go_ret;exact⟨by simp[qh,h1]<;>rfl,(ax _ _).alloc (aG _) _⟩
 ·have h1d:(e.kind == 1)=false:=by simp[h1]
  go_enter func298,ntmps298;go_wp2;go_ret;exact⟨by simp[qh,h1]<;>rfl,(ax _ _).alloc (aG _) _⟩
theorem zo (m:Nat)(v:Value)(gf:Nat)(gb:Array Value)(a:Option Addr)(n c:Nat)(hv:v=.slice a n c)(W:World) :
  CallsIn Fence.wide m prog 290 #[v,.func (.func gf) #[] gb] W fun r W'=>r=.returned (.func (.func 295) #[] #[W.heap.size,.pointer (some ⟨W.heap.size+1,0,none⟩)])/\W'=(W.alloc (.cells #[v] 44)).alloc (.cells #[.func (.func gf) #[] gb] 132):=by
 subst hv;refine ei.2 ?_
 go_enter func290,ntmps290;go_wp2;go_ret;exact⟨rfl,rfl⟩
theorem iI {w W:World}(hb:ai w W)(u:Value)(T:TypeId):∃ X,W.alloc (.cells #[u] T)=X/\ai w X/\X.heap.size=W.heap.size+1/\X.cell? (W.heap.size,0)=some u/\X.frozen? (W.heap.size,0)=false /\
  (∀ (k:Nat) (v:Value),W.cell? ⟨k,0,none⟩=some v->X.cell? ⟨k,0,none⟩=some v)/\(∀ (k:Nat) (v:Value),W.cell? ⟨k,0,none⟩=some v->X.frozen? ⟨k,0,none⟩=W.frozen? ⟨k,0,none⟩)/\ai W X:=by
 obtain⟨X,hX,hbX,gJ,q,f⟩:=fI W #[u] T;refine⟨X,hX,hb.trans (hbX.mono hb.size),gJ,q 0,f 0,fun k v h=>aF hbX h,fun k v h => ?_,hbX⟩
 have hk:k<W.heap.size:=by
  rcases Nat.lt_or_ge k W.heap.size with h'|h'
  ·exact h'
  ·simp[World.cell?,Array.getElem?_eq_none h'] at h
 exact hbX.frozen (p:=⟨k,0,none⟩) hk
theorem Mp (n:Nat)(hn:Hid (6<=n))(v:Value)(es:List aH)(c s:Int)(w:World)(hl:es.length<=1000)(hv:iv w v es) :
  CallsIn Fence.wide n prog 282 #[v,.int .i64 c,.int .i64 s] w fun e w'=>e=.returned (.tuple #[.int .i64 (qw es c s),.bool (es.any (g_ c s))])/\ai w w':=by
 have hv1:=hv;obtain⟨a,cc,rfl⟩:=hv1.shape;have Hh:=ae (D0 (g_ c s) es);obtain⟨N,hN⟩:∃ N,N=w.heap.size:=⟨_,rfl⟩;refine callsIn_of_wp_marks func282 rfl trivial ?_ rfl
 simp only [ntmps282,jr,eu,fG,Nat.reduceAdd,Nat.reduceSub,jG,jH,jJ,jI,fH,js];gi_wp2_with fail;refine⟨trivial,by simp[Fence.wide],(zo _ _ _ _ a es.length cc rfl _).mono ?_⟩
 rintro e W ⟨rfl,rfl⟩;obtain⟨X1,hX1,hb1,hs1,c1,f1, -, -, -⟩:=iI (ax _ w) (.int .i64 c) 3;rw[hX1];obtain⟨X2,hX2,hb2,hs2,c2,f2,k2,pc, -⟩:=iI hb1 (.int .i64 s) 3;rw[hX2];obtain⟨X3,Et,hb3,hs3,c3,f3,k3,zr, -⟩:=iI hb2 (.int .i64 0) 3;rw[Et];obtain⟨X4,ky,hb4,hs4,c4,f4,k4,wy, -⟩:=iI hb3 (.bool false) 4;rw[ky];obtain⟨X5,jV,hb5,hs5,c5,f5,k5,pQ, -⟩:=iI hb4 (.slice a es.length cc) 44;rw[jV];obtain⟨X,hX,hb,hs6,c6,f6,k6,pR, -⟩:=iI hb5 (.func (.func 289) #[] #[w.heap.size,.pointer (some ⟨w.heap.size+1,0,none⟩)]) 132;rw[hX];clear hX hX1 hX2 Et ky jV;rw[hs5,hs4,hs3,hs2,hs1] at c6 f6;rw[hs4,hs3,hs2,hs1] at c5;rw[hs3,hs2,hs1] at c4 f4;rw[hs2,hs1] at c3 f3;rw[hs1] at c2;have e1:=k6 _ _ (k5 _ _ (k4 _ _ (k3 _ _ (k2 _ _ c1))));have e2:=k6 _ _ (k5 _ _ (k4 _ _ (k3 _ _ c2)));have e3:=k6 _ _ (k5 _ _ (k4 _ _ c3));have g3:=(pR _ _ (k5 _ _ (k4 _ _ c3))).trans ((pQ _ _ (k4 _ _ c3)).trans ((wy _ _ c3).trans f3));have e4:=k6 _ _ (k5 _ _ c4);have g4:=(pR _ _ (k5 _ _ c4)).trans ((pQ _ _ c4).trans f4);have e5:=k6 _ _ c5;have hsz:X.heap.size=w.heap.size+6:=by omega
 have uc:X4.heap.size=w.heap.size+1+1+1+1:=by omega
 rw[uc];have oD:=ae (hv.below hb);clear k2 k3 k4 k5 k6 pc zr wy pQ pR c1 c2 c3 c4 c5 f1 f2 f3 f4 f5 f6 hb1 hb2 hb3 hb4 hb5 hs1 hs2 hs3 hs4 hs5 hs6 uc hv hv1;have hps:Hid (ki ((⟨w.heap.size+1+1+1+1+1,0,none⟩,.func (.func 289) #[] #[w.heap.size,.pointer (some ⟨w.heap.size+1,0,none⟩)]) :: [(⟨w.heap.size,0,none⟩,.int .i64 c),(⟨w.heap.size+1,0,none⟩,.int .i64 s)]) X):=ae (by
  intro q hq;simp only [gK,iP,or_false] at hq;rcases hq with rfl|rfl|rfl
  ·exact c6
  ·exact e1
  ·exact e2)
 gi_wp2_with fail;refine wpIn_rangeFunc_ownF rfl (by have:=hn.out;omega) (gf:=295) (lb:=#[.pointer (some ⟨w.heap.size+1+1+1+1,0,none⟩),.pointer (some ⟨w.heap.size+1+1+1+1+1,0,none⟩)]) rfl trivial (enters_of func295 (by kernel_rfl) rfl)
  (zp (n-1) (w.heap.size+1+1+1+1) (w.heap.size+1+1+1+1+1) (.slice a es.length cc) es 289 #[w.heap.size,.pointer (some ⟨w.heap.size+1,0,none⟩)] (g_ c s) [(⟨w.heap.size,0,none⟩,.int .i64 c),(⟨w.heap.size+1,0,none⟩,.int .i64 s)] X hl (enters_of func289 (by kernel_rfl) rfl)
   (fun W1 e h=>ei.2 (Mk c s w.heap.size (w.heap.size+1) e W1 (h _ fS) (h _ (List.mem_cons_of_mem _ fS)))) e5 hps.out oD.out)
  iW.trans (fun W l o o' _ hl hc _=>uM _ W l o o' hl hc) (ax _ _) (fun _=>rfl)
  (fun pre W=>(pre=[]/\W.cell? (w.heap.size+1+1,0)=some (.int .i64 0)/\W.frozen? (w.heap.size+1+1,0)=false/\W.cell? (w.heap.size+1+1+1,0)=some (.bool false)/\W.frozen? (w.heap.size+1+1+1,0)=false)/\ai w W)
  (fun c pre W=>(c=.ret/\∃ y:Nat × aH,pre=[y]/\W.cell? (w.heap.size+1+1,0)=some (.int .i64 (y.1:Int))/\W.cell? (w.heap.size+1+1+1,0)=some (.bool true))/\ai w W)
  (OwnFrom.and (Own.from (fun s A B row hs hg hr=>⟨hs.1,cell_kept hs.2.1 hg hr,(frozen_kept hs.2.1 hg hr).trans hs.2.2.1,cell_kept hs.2.2.2.1 hg hr,(frozen_kept hs.2.2.2.1 hg hr).trans hs.2.2.2.2⟩) _) (ownFrom_below (aG _) (by omega)))
  (fun c=>OwnFrom.and (Own.from (fun s A B row hs hg hr=>by obtain⟨h1,y,h2,h3,h4⟩:=hs;exact⟨h1,y,h2,cell_kept h3 hg hr,cell_kept h4 hg hr⟩) _) (ownFrom_below (aG _) (by omega)))
  ⟨⟨rfl,e3,g3,e4,g4⟩,hb⟩
  (fun x=>{ tmps:=#[.slice a es.length cc,.int .i64 c,.int .i64 s,undef,.pointer (some w.heap.size),.pointer (some ⟨w.heap.size+1,0,none⟩),.pointer (some ⟨w.heap.size+1+1,0,none⟩),.pointer (some ⟨w.heap.size+1+1+1,0,none⟩),
   .func (.func 289) #[] #[w.heap.size,.pointer (some ⟨w.heap.size+1,0,none⟩)],.int .i64 (x.1:Int),.func (.func 289) #[] #[w.heap.size,.pointer (some ⟨w.heap.size+1,0,none⟩)],.slice a es.length cc,.func (.func 289) #[] #[w.heap.size,.pointer (some ⟨w.heap.size+1,0,none⟩)],
   .func (.func 295) #[] #[.pointer (some ⟨w.heap.size+1+1+1+1,0,none⟩),.pointer (some ⟨w.heap.size+1+1+1+1+1,0,none⟩)],.int .i64 (x.1:Int),eP x.2,undef],defers:=[] }) ?assign ?bX ?done ?stop
 case assign =>
  intro l x W K hK;gi_wp2;exact hK
 case bX =>
  rintro l pre x W ⟨⟨rfl,hca,hfa,hcb,uk⟩,hB⟩ _;gi_wp2_with fail;have h2:=xP (.int .i64 (x.1:Int)) (.bool true) (by omega) hca hcb
  exact⟨(KeepsOthers.setCell _ _ _).trans (KeepsOthers.setCell _ _ _),⟨rfl,x,rfl,h2.1,h2.2⟩,(hB.setCell (p:=⟨w.heap.size+1+1,0,none⟩) (by simp;omega) _).setCell (p:=⟨w.heap.size+1+1+1,0,none⟩) (by simp;omega) _⟩
 case done =>
  rintro D ys W hD hys ⟨⟨rfl,hca,hfa,hcb,uk⟩,hB⟩ hK;have hany:Hid (qw es c s=0/\es.any (g_ c s)=false):=ae (by
   have h:=Hh.out;rw[<- hys] at h;by_cases h2:es.any (g_ c s)=true
   ·rw[if_pos h2] at h;cases h
   ·exact⟨by unfold qw;rw[if_neg h2],by simpa using h2⟩)
  gi_wp2;have hK':=((KeepsOthers.setCell W ⟨w.heap.size+1+1,0,none⟩ (.int .i64 0)).trans (KeepsOthers.setCell _ ⟨w.heap.size+1+1+1,0,none⟩ (.bool false))).same D _ hK rfl;have h2:=xP (.int .i64 0) (.bool false) (by omega) hca hcb
  refine⟨by simp,.inl ⟨_,_,rfl,run_takeDeferred hK', ?_⟩⟩
  have kW:=cell_kept h2.1 (grownBy_putObj' _ D (.deferred none)) (fun r e=>by cases e;exact⟨_,hK',rfl⟩)
  have hc6:=cell_kept h2.2 (grownBy_putObj' _ D (.deferred none)) (fun r e=>by cases e;exact⟨_,hK',rfl⟩)
  refine⟨.tuple #[(),.bool false], ?_,by rw[hany.out.1,hany.out.2],((hB.setCell (p:=⟨w.heap.size+1+1,0,none⟩) (by simp;omega) _).setCell (p:=⟨w.heap.size+1+1+1,0,none⟩) (by simp;omega) _).trans (belowK_b (w:=w) (aG _) _ D _ _ (by omega) hK' rfl rfl)⟩
  simp[results,f282,go_sem,kW,hc6]
 case stop =>
  rintro D c' pre W hD hpre ⟨⟨rfl,y,rfl,hca,hcb⟩,hB⟩ hK;have HL:Hid (qw es c s=y.1/\es.any (g_ c s)=true):=ae (by
   have h:=Hh.out;obtain⟨t,ht⟩:=hpre;rw[<- ht] at h;by_cases h2:es.any (g_ c s)=true
   ·rw[if_pos h2] at h
    injection h with h
    exact⟨by unfold qw;rw[if_pos h2,h],h2⟩
   ·rw[if_neg h2] at h;cases h)
  gi_wp2;refine⟨by simp,.inl ⟨_,_,rfl,run_takeDeferred hK, ?_⟩⟩
  have kW:=cell_kept hca (grownBy_putObj' _ D (.deferred none)) (fun r e=>by cases e;exact⟨_,hK,rfl⟩)
  have hc6:=cell_kept hcb (grownBy_putObj' _ D (.deferred none)) (fun r e=>by cases e;exact⟨_,hK,rfl⟩)
  refine⟨.tuple #[.int .i64 (y.1:Int),.bool true], ?_,by rw[HL.out.1,HL.out.2],hB.trans (belowK_b (w:=w) (aG _) W D _ _ (by omega) hK rfl rfl)⟩
  simp[results,f282,go_sem,kW,hc6]
end Go.Proofs.YtgieeeeeiggoeaaGreat
namespace Go.Proofs.YtgieeeeeiggoeaaGreat
open Go.RowKit Go.Shelf
open Tryz
attribute [local go_sem] Oper.semAt_some
def oV (pre:List (Nat × aH)):Int:=pre.foldl (fun _ y=>y.2.value) (-1)
theorem JY (key:Int)(es:List aH)(k:Nat)(hk:k<=es.length):oV (lD (qh key) es k)=oH key (es.take k):=by
 induction k with
 | zero=>rfl
 | succ k ih =>
  have hlt:k<es.length:=by omega
  rw[DZ,xN es k hlt];have ih:=ih (by omega)
  unfold oV oH at *;rw[List.foldl_append,List.foldl_append,ih];unfold qh;by_cases h:(es.getD k aH.zero).kind=1/\(es.getD k aH.zero).key=key
  ·rw[if_pos (by rw[eR h.1,eR h.2];rfl)]
   show _=if _ then _ else _
   rw[if_pos h];rfl
  ·rw[if_neg (by intro h2;apply h;simpa using h2)]
   show _=if _ then _ else _
   rw[if_neg h];rfl
theorem PC {ps:List (Addr × Value)}{W:World}{B:Nat}{cs:Array Value}{T:TypeId}(v:Value)(hB:W.heap[B]?=some (.cells cs T))(hT:T≠42)(hps:∀ q∈ps,q.1.block≠B):iW ps W (W.setCell B v):=by
 refine⟨fun k cs' T' fz hS hk => ?_,fun h q hq => ?_⟩
 ·have hne:k≠B:=by
   intro e;subst e;rw[hB] at hk;injection hk with hk
   injection hk with _ hk
   subst hk;simp[qO] at hS;exact hT hS
  rw[cJ _ _ _ k hne];exact hk
 ·rw[oK _ _ _ _ (by intro e;exact hps q hq (by rw[<- e]))]
  exact h q hq
theorem Kg (n:Nat)(hn:Hid (6<=n))(g c:Nat)(es:List aH)(P:Nat)(w:World)(hl:es.length<=1000)(hP:P<es.length)(hcap:es.length<=c)(hv:gR w g es) :
  CallsIn Fence.wide n prog 296 #[.slice (some g) es.length c,.int .i64 (P:Int)] w fun e w'=>e=.returned (.int .i64 (jj es P))/\ai w w':=by
 obtain⟨cur,fz,hg,hc⟩:=hv;obtain⟨c0,c1,c2,c3,c4⟩:=hc P hP;have Hv:Hid (gR w g es):=⟨cur,fz,hg,hc⟩;have HA:Hid (jj es P=oV (kS (qh (es.getD P aH.zero).key) (es.take P))):=ae (by
  unfold jj kS;rw[JY _ _ _ (aG _),je])
 clear hc hg c0 c1 c2 c4;generalize (es.getD P aH.zero).key=key at *;have VR:P<=c:=by omega
 have VS:(P:Int)<=(c:Int):=by omega
 refine callsIn_of_wp_marks func296 rfl trivial ?_ rfl
 simp only [ntmps296,jr,eu,fG,Nat.reduceAdd,Nat.reduceSub,jG,jH,jJ,jI,fH,js];gi_wp2_with fail;refine⟨trivial,by simp[Fence.wide],(zo _ _ _ _ (some ⟨g,0,none⟩) P c rfl _).mono ?_⟩
 rintro e W ⟨rfl,rfl⟩;obtain⟨X1,hX1,hb1,hs1,c1,f1, -, -, -⟩:=iI (ax _ w) (.int .i64 key) 3;rw[hX1];obtain⟨X2,hX2,hb2,hs2,c2,f2,k2,pc, -⟩:=iI hb1 (.int .i64 (-1)) 3;rw[hX2];obtain⟨X5,jV,hb5,hs5,c5,f5,k5,pQ, -⟩:=iI hb2 (.slice (some g) P c) 44;rw[jV];obtain⟨X,hX,hb,hs6,c6,f6,k6,pR, -⟩:=iI hb5 (.func (.func 298) #[] #[w.heap.size]) 132;rw[hX];have Jn:X.heap[w.heap.size+1]?=some (.cells #[.int .i64 (-1)] 3):=by
  rw[<- hX,j6 _ _ _ (by omega), <- jV,j6 _ _ _ (by omega), <- hX2, <- hs1]
  exact hnw _ _
 clear hX hX1 hX2 jV;rw[hs5,hs2,hs1] at c6;rw[hs2,hs1] at c5;rw[hs1] at c2;have e1:=k6 _ _ (k5 _ _ (k2 _ _ c1));have e5:=k6 _ _ c5;have hsz:X.heap.size=w.heap.size+4:=by omega
 have Es:X2.heap.size=w.heap.size+1+1:=by omega
 rw[Es];have oD:Hid (iv X (.slice (some g) P c) (es.take P)):=ae (.inr ⟨g,c,by rw[dA,Nat.min_eq_left (by omega)],(Hv.out.nM (fL.below hb)).take P⟩)
 clear k2 k5 k6 pc pQ pR c1 c2 c5 f1 f2 f5 f6 hb1 hb2 hb5 hs1 hs2 hs5 hs6 Es;have hps:Hid (ki ((⟨w.heap.size+1+1+1,0,none⟩,.func (.func 298) #[] #[w.heap.size]) :: [(⟨w.heap.size,0,none⟩,.int .i64 key)]) X):=ae (by
  intro q hq;simp only [gK,iP,or_false] at hq;rcases hq with rfl|rfl
  ·exact c6
  ·exact e1)
 gi_wp2_with fail;refine wpIn_rangeFunc_ownH rfl (by have:=hn.out;omega) (gf:=295) (lb:=#[.pointer (some ⟨w.heap.size+1+1,0,none⟩),.pointer (some ⟨w.heap.size+1+1+1,0,none⟩)]) rfl trivial (enters_of func295 (by kernel_rfl) rfl)
  (zp (n-1) (w.heap.size+1+1) (w.heap.size+1+1+1) (.slice (some g) P c) (es.take P) 298 #[w.heap.size] (qh key) [(⟨w.heap.size,0,none⟩,.int .i64 key)] X (by rw[dA];omega) (enters_of func298 (by kernel_rfl) rfl)
   (fun W1 e h=>ei.2 (Ke key w.heap.size e W1 (h _ fS))) e5 hps.out oD.out)
  iW.trans (fun W l o o' _ hl hc _=>uM _ W l o o' hl hc) (ax _ _) (fun _=>rfl)
  (fun pre W=>(Boxed W (w.heap.size+1) 3 (.int .i64 (oV pre)))/\ai w W)
  (fun _ _ _=>False)
  (OwnFrom.and (Own.from (boxed_own (w.heap.size+1) 3 (fun pre=>.int .i64 (oV pre))) _) (ownFrom_below (aG _) (by omega)))
  (fun c=>ownFrom_pure _ _)
  ⟨Jn,hb⟩
  (fun x a' W=>∃ b,W.cell? ⟨b,4,none⟩=some (.int .i64 x.2.value)/\a'={ tmps:=#[.slice (some g) es.length c,.int .i64 (P:Int),undef,undef,.int .i64 0,.pointer (some w.heap.size),.func (.func 298) #[] #[w.heap.size],
   .pointer (some ⟨w.heap.size+1,0,none⟩),undef,.pointer (some ⟨b,0,none⟩),.slice (some g) es.length c,.int .i64 (P:Int),.pointer (some ⟨g,P*5,none⟩),.pointer (some ⟨g,P*5+3,none⟩),.int .i64 key,.func (.func 298) #[] #[w.heap.size],
   .slice (some g) es.length c,.int .i64 (P:Int),.slice (some g) P c,.func (.func 298) #[] #[w.heap.size],
   .func (.func 295) #[] #[.pointer (some ⟨w.heap.size+1+1,0,none⟩),.pointer (some ⟨w.heap.size+1+1+1,0,none⟩)],.int .i64 (x.1:Int),eP x.2,undef,undef,undef],defers:=[] })
  (fun x a'=>Own.from (fun s A B row hs hg hr=>by obtain⟨b,h1,h2⟩:=hs;exact⟨b,cell_kept h1 hg hr,h2⟩) _) ?assign ?bX ?done ?stop
 case assign =>
  rintro l pre x W K ⟨hbx,hB⟩ hK;unfold eP;gi_wp2;refine hK _ _ ((KeepsOthers.alloc _ _).from _) (iW.below ((ax _ _).alloc (aG _) _)) ⟨?_,hB.alloc hB.size _⟩ ⟨W.heap.size, ?_,rfl⟩
  ·exact (j6 _ _ _ (by have:=(aQ (show W.heap[w.heap.size+1]?=_ from hbx));omega)).trans hbx
  ·rw[aj (hnw _ _)];rfl
 case bX =>
  rintro l pre x a' W hl2 - ⟨hbx,hB⟩ ⟨b,hcb,rfl⟩ _;have lG:W.heap[w.heap.size+1]?=some (.cells #[.int .i64 (oV pre)] 3):=hbx;have Ny:=au lG 0;have VW:W.frozen? (w.heap.size+1,0)=false:=aW lG 0;have HB:=ae lG;clear lG hbx;gi_wp2;refine⟨(KeepsOthers.setCell _ _ _).from _,PC _ HB.out (by decide) ?_, ?_,hB.setCell (p:=⟨w.heap.size+1,0,none⟩) (by simp) _⟩
  ·intro q hq
   simp only [gK,iP,or_false] at hq;rcases hq with rfl|rfl
   ·show w.heap.size+1+1+1≠w.heap.size+1;omega
   ·show w.heap.size≠w.heap.size+1;omega
  ·show (W.setCell _ _).heap[w.heap.size+1]?=_
   rw[bV W _ 0 _ _ _ HB.out,show oV (pre++[x])=x.2.value by simp[oV]]
   rfl
 case done =>
  rintro D ys W hD rfl ⟨hbx,hB⟩ hK;have lG:W.heap[w.heap.size+1]?=some (.cells #[.int .i64 (oV (kS (qh key) (es.take P)))] 3):=hbx;have Ny:=au lG 0;clear lG hbx;gi_wp2;refine⟨by simp,.inl ⟨_,_,rfl,run_takeDeferred hK, ?_⟩⟩
  refine⟨_, ?_,by rw[HA.out],hB.trans (belowK_b (w:=w) (aG _) W D _ _ (by omega) hK rfl rfl)⟩
  simp[results,f296,go_sem]
 case stop =>
  rintro D c' pre W hD hpre hF hK;exact hF.elim
end Go.Proofs.YtgieeeeeiggoeaaGreat
namespace Go.Proofs.YtgieeeeeiggoeaaGreat
open Go.RowKit Go.Shelf
open Tryz
attribute [local go_sem] Oper.semAt_some
def ju (n p:Nat):List (Fin n):=(List.finRange n).drop p
def nw (n p k:Nat):List (Fin n):=(ju n p).take k
theorem qS (n p:Nat):(ju n p).length=n-p:=by simp[ju]
theorem MI (n p k:Nat)(h:p+k<n):nw n p (k+1)=nw n p k++[⟨p+k,h⟩]:=by
 unfold nw;rw[nU (by rw[qS];omega)]
 congr 2;simp[ju]
theorem MH (n p k:Nat):nw n p k <+: ju n p:=List.take_prefix _ _
theorem MG (n p k:Nat)(h:p+k<=n):(nw n p k).length=k:=by unfold nw;rw[dA,qS];omega
def uY (es:List aH)(y:Fin es.length):Array Value:=#[.int .i64 (y.val:Int),eP (es.getD y.val aH.zero)]
theorem MF (n l B0 B1:Nat)(v:Value)(es:List aH)(p:Nat)(hl:es.length<=1000)(hp:p<=es.length)
  (J Jx:List (Fin es.length)->World->Prop) (W:World)
  (hY:∀ pre (y:Fin es.length) W1,J pre W1->pre.length<(ju es.length p).length->YieldAt Fence.wide (n-1) prog l (uY es y) W1 fun e W' =>
   (e=.returned (.bool true)/\J (pre++[y]) W'/\iW [(⟨B1,0,none⟩,v)] W1 W')\/(e=.returned (.bool false)/\Jx (pre++[y]) W'))
  (h0:W.cell? (B0,0)=some (.int .i64 (p:Int))) (hps:ki [(⟨B1,0,none⟩,v)] W) (hv:iv W v es) (hJ0:J [] W) :
  CallsIn Fence.wide n prog 281 #[.func (.yield l) #[] #[],B0,B1] W fun e W'=>(∃ v,e=.returned v) /\
   ((∃ ys,ys=ju es.length p/\J ys W')\/(∃ pre,pre <+: ju es.length p/\Jx pre W')):=by
 obtain⟨a,c,rfl⟩:=hv.shape;have HV:=ae hv;have HP:=ae hps;have HY:=ae hY;clear hv hY hps;have Hl:Hid ((ju es.length p).length=es.length-p):=ae (qS _ _);refine callsIn_of_wp func281 rfl trivial ?_ rfl
 simp only [ntmps281,jr,eu,fG,Nat.reduceAdd,Nat.reduceSub,jG,jH,jJ,jI,fH,js];gi_wp2_with fail;gi_loopw [4] (fun i wr=>∃ k:Nat,k<=es.length-p/\i=.int .i64 ((p:Int)+k)/\J (nw es.length p k) wr/\Hid (iv wr (.slice a es.length c) es)/\Hid (ki [(⟨B1,0,none⟩,.slice a es.length c)] wr)) (fun i _=>es.length-(intOf i).toNat)
 case atStart=>exact⟨0,bl _,by simp,hJ0,HV,HP⟩
 case round =>
  obtain⟨k,hk,rfl,ku,hR,hP⟩:=hrel;have hB1:wr.cell? (B1,0)=some (.slice a es.length c):=hP.out _ fS;by_cases hlt:p+k<es.length
  ·have wJ:=hR.out
   rcases wJ with ⟨h0, -⟩|⟨g,c',e',hrow⟩
   ·rw[h0] at hlt;simp at hlt
   cases e';obtain⟨cur,fz,hg,hc⟩:=hrow;obtain⟨c0,c1,c2,c3,c4⟩:=hc (p+k) hlt;have ht:Hid (nw es.length p (k+1)=nw es.length p k++[⟨p+k,hlt⟩]):=ae (MI es.length p k hlt);have vR:=ae (MH es.length p (k+1));obtain⟨fn,tmps,assign,bX,hy,zM⟩:=HY.out (nw es.length p k) ⟨p+k,hlt⟩ _ ku (by rw[MG _ _ _ (by omega),Hl.out];omega)
   dsimp only [uY,eP] at hy;have hcast:((p+k:Nat):Int)=(p:Int)+(k:Int):=by omega
   rw[hcast] at hy;have hk1:(p:Int)+(k:Int)<(es.length:Int):=by omega
   have hk0:(0:Int)<=(p:Int)+(k:Int):=by omega
   have hkn:((p:Int)+(k:Int)).toNat=p+k:=by omega
   clear hc hg;generalize es.getD (p+k) aH.zero=x at c0 c1 c2 c3 c4 hy;gi_wp2;refine⟨by simp[Fence.wide],zM.mono ?_⟩
   rintro e W3 (⟨rfl,hJ3,hk3⟩|⟨rfl,hJx3⟩)
   ·gi_wp2
    go_roundw
    case rel=>exact⟨k+1,by omega,by go_num,by rw[ht.out];exact hJ3,ae (hR.out.nM hk3.1),ae (hk3.2 hP.out)⟩
    case measure=>simp[intOf];omega
   ·gi_wp2
    refine dB (results_none rfl _ _ _) rfl ?_
    exact⟨⟨_,rfl⟩,.inr ⟨_,by rw[<- ht.out];exact vR.out,hJx3⟩⟩
  ·obtain rfl:k=es.length-p:=by omega
   have hk1:¬ (p:Int)+((es.length-p:Nat):Int)<(es.length:Int):=by omega
   gi_wp2;go_end0;exact⟨⟨_,rfl⟩,.inl (by rw[show nw es.length p (es.length-p)=ju es.length p from jF (by rw[qS];exact aG _)] at ku;exact ku)⟩
theorem D8 (n B0 B1:Nat)(v:Value)(es:List aH)(p:Nat)(w:World)(hl:es.length<=1000)(hp:p<=es.length)
  (h0:w.cell? (B0,0)=some (.int .i64 (p:Int))) (hps:ki [(⟨B1,0,none⟩,v)] w) (hv:iv w v es) :
  SeqStopsK Fence.wide n prog 281 #[B0,B1] (uY es) (iW [(⟨B1,0,none⟩,v)]) (fun ys=>ys=ju es.length p) (fun pre=>pre <+: ju es.length p) (ju es.length p).length w :=
 fun l J Jx W hW _ _ hY hJ0=>MF n l B0 B1 v es p hl hp J Jx W hY (aF hW h0) (hps.below hW) (hv.below hW) hJ0
theorem D7 (m:Nat)(v:Value)(p:Int)(a:Option Addr)(n c:Nat)(hv:v=.slice a n c)(W:World) :
  CallsIn Fence.wide m prog 272 #[v,.int .i64 p] W fun r W'=>r=.returned (.func (.func 281) #[] #[.pointer (some ⟨W.heap.size+1,0,none⟩),W.heap.size])/\W'=(W.alloc (.cells #[v] 44)).alloc (.cells #[.int .i64 p] 3):=by
 subst hv;refine ei.2 ?_
 go_enter func272,ntmps272;go_wp2;go_ret;exact⟨rfl,rfl⟩
end Go.Proofs.YtgieeeeeiggoeaaGreat
namespace Go.Proofs.YtgieeeeeiggoeaaGreat
open Go.RowKit Go.Shelf
open Tryz
attribute [local go_sem] Oper.semAt_some
theorem Nm (n:Nat)(hn:Hid (6<=n))(v:Value)(es:List aH)(c s:Int)(w:World)(hl:es.length<=1000)(hv:iv w v es) :
  CallsIn Fence.wide n prog 284 #[v,.int .i64 c,.int .i64 s] w fun e w'=>e=.returned (.bool (es.any (mr c s)))/\ai w w':=by
 have hv1:=hv;obtain⟨a,cc,rfl⟩:=hv1.shape;have Hh:=ae (D0 (mr c s) es);obtain⟨N,hN⟩:∃ N,N=w.heap.size:=⟨_,rfl⟩;refine callsIn_of_wp_marks func284 rfl trivial ?_ rfl
 simp only [ntmps284,jr,eu,fG,Nat.reduceAdd,Nat.reduceSub,jG,jH,jJ,jI,fH,js];gi_wp2_with fail;refine⟨trivial,by simp[Fence.wide],(zo _ _ _ _ a es.length cc rfl _).mono ?_⟩
 rintro e W ⟨rfl,rfl⟩;obtain⟨X1,hX1,hb1,hs1,c1,f1, -, -, -⟩:=iI (ax _ w) (.int .i64 c) 3;rw[hX1];obtain⟨X2,hX2,hb2,hs2,c2,f2,k2,pc, -⟩:=iI hb1 (.int .i64 s) 3;rw[hX2];obtain⟨X4,ky,hb4,hs4,c4,f4,k4,wy, -⟩:=iI hb2 (.bool false) 4;rw[ky];obtain⟨X5,jV,hb5,hs5,c5,f5,k5,pQ, -⟩:=iI hb4 (.slice a es.length cc) 44;rw[jV];obtain⟨X,hX,hb,hs6,c6,f6,k6,pR, -⟩:=iI hb5 (.func (.func 292) #[] #[w.heap.size,.pointer (some ⟨w.heap.size+1,0,none⟩)]) 132;rw[hX];clear hX hX1 hX2 ky jV;rw[hs5,hs4,hs2,hs1] at c6 f6;rw[hs4,hs2,hs1] at c5;rw[hs2,hs1] at c4 f4;rw[hs1] at c2;have e1:=k6 _ _ (k5 _ _ (k4 _ _ (k2 _ _ c1)));have e2:=k6 _ _ (k5 _ _ (k4 _ _ c2));have e4:=k6 _ _ (k5 _ _ c4);have g4:=(pR _ _ (k5 _ _ c4)).trans ((pQ _ _ c4).trans f4);have e5:=k6 _ _ c5;have hsz:X.heap.size=w.heap.size+5:=by omega
 have uc:X4.heap.size=w.heap.size+1+1+1:=by omega
 rw[uc];have oD:=ae (hv.below hb);clear k2 k4 k5 k6 pc wy pQ pR c1 c2 c4 c5 f1 f2 f4 f5 f6 hb1 hb2 hb4 hb5 hs1 hs2 hs4 hs5 hs6 uc hv hv1;have hps:Hid (ki ((⟨w.heap.size+1+1+1+1,0,none⟩,.func (.func 292) #[] #[w.heap.size,.pointer (some ⟨w.heap.size+1,0,none⟩)]) :: [(⟨w.heap.size,0,none⟩,.int .i64 c),(⟨w.heap.size+1,0,none⟩,.int .i64 s)]) X):=ae (by
  intro q hq;simp only [gK,iP,or_false] at hq;rcases hq with rfl|rfl|rfl
  ·exact c6
  ·exact e1
  ·exact e2)
 gi_wp2_with fail;refine wpIn_rangeFunc_ownF rfl (by have:=hn.out;omega) (gf:=295) (lb:=#[.pointer (some ⟨w.heap.size+1+1+1,0,none⟩),.pointer (some ⟨w.heap.size+1+1+1+1,0,none⟩)]) rfl trivial (enters_of func295 (by kernel_rfl) rfl)
  (zp (n-1) (w.heap.size+1+1+1) (w.heap.size+1+1+1+1) (.slice a es.length cc) es 292 #[w.heap.size,.pointer (some ⟨w.heap.size+1,0,none⟩)] (mr c s) [(⟨w.heap.size,0,none⟩,.int .i64 c),(⟨w.heap.size+1,0,none⟩,.int .i64 s)] X hl (enters_of func292 (by kernel_rfl) rfl)
   (fun W1 e h=>ei.2 (PM c s w.heap.size (w.heap.size+1) e W1 (h _ fS) (h _ (List.mem_cons_of_mem _ fS)))) e5 hps.out oD.out)
  iW.trans (fun W l o o' _ hl hc _=>uM _ W l o o' hl hc) (ax _ _) (fun _=>rfl)
  (fun pre W=>(pre=[]/\W.cell? (w.heap.size+1+1,0)=some (.bool false)/\W.frozen? (w.heap.size+1+1,0)=false)/\ai w W)
  (fun c pre W=>(c=.ret/\∃ y:Nat × aH,pre=[y]/\W.cell? (w.heap.size+1+1,0)=some (.bool true))/\ai w W)
  (OwnFrom.and (Own.from (fun s A B row hs hg hr=>⟨hs.1,cell_kept hs.2.1 hg hr,(frozen_kept hs.2.1 hg hr).trans hs.2.2⟩) _) (ownFrom_below (aG _) (by omega)))
  (fun c=>OwnFrom.and (Own.from (fun s A B row hs hg hr=>by obtain⟨h1,y,h2,h3⟩:=hs;exact⟨h1,y,h2,cell_kept h3 hg hr⟩) _) (ownFrom_below (aG _) (by omega)))
  ⟨⟨rfl,e4,g4⟩,hb⟩
  (fun x=>{ tmps:=#[.slice a es.length cc,.int .i64 c,.int .i64 s,undef,.pointer (some w.heap.size),.pointer (some ⟨w.heap.size+1,0,none⟩),.pointer (some ⟨w.heap.size+1+1,0,none⟩),
   .func (.func 292) #[] #[w.heap.size,.pointer (some ⟨w.heap.size+1,0,none⟩)],.func (.func 292) #[] #[w.heap.size,.pointer (some ⟨w.heap.size+1,0,none⟩)],.slice a es.length cc,.func (.func 292) #[] #[w.heap.size,.pointer (some ⟨w.heap.size+1,0,none⟩)],
   .func (.func 295) #[] #[.pointer (some ⟨w.heap.size+1+1+1,0,none⟩),.pointer (some ⟨w.heap.size+1+1+1+1,0,none⟩)],.int .i64 (x.1:Int),eP x.2],defers:=[] }) ?assign ?bX ?done ?stop
 case assign =>
  intro l x W K hK;gi_wp2
  simpa using hK
 case bX =>
  rintro l pre x W ⟨⟨rfl,hcb,uk⟩,hB⟩ _;gi_wp2_with fail;exact⟨KeepsOthers.setCell _ _ _,⟨rfl,x,rfl,World.cell?_setCell_same' _ _ _ (by rw[hcb];rfl)⟩,hB.setCell (p:=⟨w.heap.size+1+1,0,none⟩) (by simp;omega) _⟩
 case done =>
  rintro D ys W hD hys ⟨⟨rfl,hcb,uk⟩,hB⟩ hK;have hany:Hid (es.any (mr c s)=false):=ae (by
   have h:=Hh.out;rw[<- hys] at h;by_cases h2:es.any (mr c s)=true
   ·rw[if_pos h2] at h;cases h
   ·simpa using h2)
  gi_wp2;have hK':=(KeepsOthers.setCell W ⟨w.heap.size+1+1,0,none⟩ (.bool false)).same D _ hK rfl;refine⟨by simp,.inl ⟨_,_,rfl,run_takeDeferred hK', ?_⟩⟩
  have kW:=cell_kept (World.cell?_setCell_same' W ⟨w.heap.size+1+1,0,none⟩ (.bool false) (by rw[hcb];rfl)) (grownBy_putObj' _ D (.deferred none)) (fun r e=>by cases e;exact⟨_,hK',rfl⟩)
  refine⟨.bool false, ?_,by rw[hany.out],(hB.setCell (p:=⟨w.heap.size+1+1,0,none⟩) (by simp;omega) _).trans (belowK_b (w:=w) (aG _) _ D _ _ (by omega) hK' rfl rfl)⟩
  simp[results,f284,go_sem,kW]
 case stop =>
  rintro D c' pre W hD hpre ⟨⟨rfl,y,rfl,hcb⟩,hB⟩ hK;have HL:Hid (es.any (mr c s)=true):=ae (by
   have h:=Hh.out;obtain⟨t,ht⟩:=hpre;rw[<- ht] at h;by_cases h2:es.any (mr c s)=true
   ·exact h2
   ·rw[if_neg h2] at h;cases h)
  gi_wp2;refine⟨by simp,.inl ⟨_,_,rfl,run_takeDeferred hK, ?_⟩⟩
  have kW:=cell_kept hcb (grownBy_putObj' _ D (.deferred none)) (fun r e=>by cases e;exact⟨_,hK,rfl⟩)
  refine⟨.bool true, ?_,by rw[HL.out],hB.trans (belowK_b (w:=w) (aG _) W D _ _ (by omega) hK rfl rfl)⟩
  simp[results,f284,go_sem,kW]
end Go.Proofs.YtgieeeeeiggoeaaGreat
namespace Go.Proofs.YtgieeeeeiggoeaaGreat
open Go.RowKit Go.Shelf
open Tryz
variable {w:World}
def bd (w:World)(v:Value)(l:List Int):Prop:=w.ownsRow 0 3 1 v l.length (aJ l)
def bw (w:World)(v:Value)(es:List aH):Prop:=w.ownsRow 0 42 5 v es.length (aJ (bk es))
structure dh (w:World)(b:Nat)(own:Int)(r:aR)(vm vl:Value):Prop where
 blk:w.heap[b]?=some (.cells #[.int .i64 own,r.ah,r.lock,vm,vl,.int .i64 (r.base:Int),.int .i64 (r.aU:Int)] 219)
 hm:bd w vm r.af
 hl:bw w vl r.log
structure gH (r:aR):Prop where
 m:r.af.length<=5
 l:r.log.length<=24
 c:r.aU<=r.log.length
theorem dh.below {w':World}{b:Nat}{own:Int}{r:aR}{vm vl:Value}(h:dh w b own r vm vl)(hb:ai w w'):dh w' b own r vm vl :=
 ⟨(hb.block b (aQ h.blk)).trans h.blk,aS h.hm fun k _ hk=>hb.block k hk,aS h.hl fun k _ hk=>hb.block k hk⟩
theorem rK {base size n:Nat}{e:TypeId}{v:Value}{xs:List Value}(h:w.ownsRow base e size v n xs):∃ a c,v=.slice a n c/\n<=c:=by
 rcases h.2 with ⟨rfl,rfl⟩|⟨g,cap,cur,rfl,_,_,hn,_⟩
 ·exact⟨_,_,rfl,aG _⟩
 ·exact⟨_,_,rfl,hn⟩
theorem sL (b:Nat)(own:Int)(r:aR)(vm vl:Value)(w:World)(h:dh w b own r vm vl)(ok:gH r) :
  Calls prog 263 #[b] w fun e w'=>e=.returned (.bool (r.live own))/\∃ q,w'=w.drewN q:=by
 have c0:=aj h.blk 0;have c1:=aj h.blk 1;have c2:=aj h.blk 2;have c3:=aj h.blk 3;have HC:Hid (∀ W,ai w W->Calls prog 121 #[vm,.int .i64 own] W fun e w'=>e=.returned (.bool (decide (own∈r.af)))/\w'=W):=ae fun W hb=>DA vm r.af own W ((bJ.cM h.hm).below hb) (by have:=ok.m;omega)
 obtain⟨am,cm,rfl⟩:=aM h.hm;have HL:Hid (r.live own=(decide (own∈r.af) && decide (r.lock<=r.ah))):=ae rfl;clear h ok;generalize decide (own∈r.af)=Ph at *;generalize r.live own=lv at *;go_enter func263,ntmps263;go_wp2_with fail;cases Ph with
 | false =>
  have:lv=false:=by rw[HL.out];rfl
  subst this;go_quiet ((go_at_call 121;refine (HC.out _ (aV (ax _ _) _)).mono ?_;rintro e w9 ⟨rfl,rfl⟩;exact⟨rfl,_,rfl⟩))
  go_wp2;go_ret;exact⟨rfl,_,rfl⟩
 | true =>
  have:lv=decide (r.lock<=r.ah):=by rw[HL.out];rfl
  subst this;go_quiet ((go_at_call 121;refine (HC.out _ (aV (ax _ _) _)).mono ?_;rintro e w9 ⟨rfl,rfl⟩;exact⟨rfl,_,rfl⟩))
  go_wp2;go_ret;exact⟨rfl,_,rfl⟩
theorem tI (b:Nat)(own:Int)(r:aR)(vm vl:Value)(w:World)(h:dh w b own r vm vl)(ok:gH r) :
  Calls prog 270 #[b] w fun e w'=>e=.returned (.tuple #[.int .i64 ((bS r.af own).getD 0),.bool (bS r.af own).isSome])/\ai w w':=by
 have c0:=aj h.blk 0;have c3:=aj h.blk 3;obtain⟨am,cm,rfl,hcap⟩:=rK h.hm;have HC:Hid (∀ W,ai w W->Calls prog 280 #[.slice am r.af.length cm,.int .i64 own] W fun e w'=>e=.returned (.tuple #[.int .i64 ((bS r.af own).getD 0),.bool (bS r.af own).isSome])/\ai w w'/\w'.cell? (b,0)=some (.int .i64 own)/\w'.cell? (b,3)=some (.slice am r.af.length cm)):=ae fun W hb=>(Rl am cm r.af own W (by have:=ok.m;omega) hcap ((bJ.cM h.hm).below hb)).mono (by
  rintro e w' ⟨rfl,hb'⟩;have hbb:=hb.trans (hb'.mono hb.size);exact⟨rfl,hbb,aF hbb c0,aF hbb c3⟩)
 clear h ok;generalize (bS r.af own).getD 0=x at *;generalize (bS r.af own).isSome=y at *;go_enter func270,ntmps270;go_wp2_with fail;go_region_held3 (fun w'=>w'.cell? (b,0)=some (.int .i64 own)/\w'.cell? (b,3)=some (.slice am r.af.length cm)) (first|(simp[go_sem];done)|(simp[go_sem, *];done)|go_keep) (first|(go_at_call 280;refine (HC.out _ (by first|exact ax _ _|exact (ax _ _).drew)).mono ?_;rintro e w9 ⟨rfl,gT,g0,g3⟩))
 all_goals
  go_wp2_with fail;go_ret2;exact⟨rfl,gT⟩
theorem CU (b:Nat)(own:Int)(r:aR)(vm vl:Value)(w:World)(h:dh w b own r vm vl)(ok:gH r) :
  Calls prog 275 #[b] w fun e w'=>e=.returned (.tuple #[.int .i64 ((dY r.af own).getD 0),.bool (dY r.af own).isSome])/\ai w w':=by
 have c0:=aj h.blk 0;have c3:=aj h.blk 3;obtain⟨am,cm,rfl, -⟩:=rK h.hm;have HC:Hid (∀ W,ai w W->Calls prog 285 #[.slice am r.af.length cm,.int .i64 own] W fun e w'=>e=.returned (.tuple #[.int .i64 ((dY r.af own).getD 0),.bool (dY r.af own).isSome])/\ai w w'/\w'.cell? (b,0)=some (.int .i64 own)/\w'.cell? (b,3)=some (.slice am r.af.length cm)):=ae fun W hb=>(Si am cm r.af own W (by have:=ok.m;omega) ((bJ.cM h.hm).below hb)).mono (by
  rintro e w' ⟨rfl,hb'⟩;have hbb:=hb.trans (hb'.mono hb.size);exact⟨rfl,hbb,aF hbb c0,aF hbb c3⟩)
 clear h ok;generalize (dY r.af own).getD 0=x at *;generalize (dY r.af own).isSome=y at *;go_enter func275,ntmps275;go_wp2_with fail;go_region_held3 (fun w'=>w'.cell? (b,0)=some (.int .i64 own)/\w'.cell? (b,3)=some (.slice am r.af.length cm)) (first|(simp[go_sem];done)|(simp[go_sem, *];done)|go_keep) (first|(go_at_call 285;refine (HC.out _ (by first|exact ax _ _|exact (ax _ _).drew)).mono ?_;rintro e w9 ⟨rfl,gT,g0,g3⟩))
 all_goals
  go_wp2_with fail;go_ret2;exact⟨rfl,gT⟩
theorem Ft (b:Nat)(own:Int)(r:aR)(vm vl:Value)(w:World)(h:dh w b own r vm vl)(ok:gH r) :
  Calls prog 264 #[b] w fun e w'=>e=.returned (.bool (!(bS r.af own).isSome))/\ai w w':=by
 have hb:=tI b own r vm vl w h ok;clear h ok;generalize (bS r.af own).getD 0=x at *;generalize (bS r.af own).isSome=y at *;go_enter func264,ntmps264;go_wp2_with fail;refine hb.mono ?_
 rintro e w1 ⟨rfl,hb1⟩;go_wp2_with fail;go_ret;exact⟨rfl,hb1⟩
theorem Fq (b:Nat)(own:Int)(r:aR)(vm vl:Value)(w:World)(h:dh w b own r vm vl) :
  Calls prog 277 #[b] w fun e w'=>e=.returned (.bool (decide ((24:Int)<=(r.log.length:Int))))/\w'=w:=by
 have c4:=aj h.blk 4;obtain⟨al,cl,rfl⟩:=aM h.hl;clear h;go_enter func277,ntmps277;go_wp2_with fail;go_ret;exact⟨rfl,rfl⟩
def bL (m:aK)(vm vl:Value):Value:=.agg #[m.kind,m.src,m.dst,m.ah,m.ak,m.aO,m.pos,m.value,vm,vl]
theorem Fs (b:Nat)(own:Int)(r:aR)(vm vl:Value)(m:aK)(mm ml:Value)(w:World)(h:dh w b own r vm vl)(ok:gH r) :
  Calls prog 276 #[b,bL m mm ml] w fun e w'=>e=.returned (.bool (r.live own && decide (m.ah=r.ah)))/\ai w w':=by
 have HC:Hid (∀ W,ai w W->Calls prog 263 #[b] W fun e w'=>e=.returned (.bool (r.live own))/\∃ q,w'=W.drewN q):=ae fun W hb=>sL b own r vm vl W (h.below hb) ok;have c1:∀ o,(w.alloc o).cell? (b,1)=some (.int .i64 r.ah):=fun o=>aF ((ax _ w).alloc (aG _) o) (aj h.blk 1);clear h ok;unfold bL;have HD:Hid ((r.live own && decide (m.ah=r.ah))=(r.live own && (m.ah == r.ah))):=ae rfl;rw[HD.out];generalize r.live own=lv at *;go_enter func276,ntmps276;go_wp2_with fail;cases lv with
 | false =>
  go_quiet ((go_at_call 263;refine (HC.out _ (aV ((ax _ _).alloc (aG _) _) _)).mono ?_;rintro e w9 ⟨rfl,q9,rfl⟩;exact⟨rfl,_,fi _ _ _⟩))
  go_wp2;go_ret;exact⟨rfl,aV ((ax _ _).alloc (aG _) _) _⟩
 | true =>
  go_quiet ((go_at_call 263;refine (HC.out _ (aV ((ax _ _).alloc (aG _) _) _)).mono ?_;rintro e w9 ⟨rfl,q9,rfl⟩;exact⟨rfl,_,fi _ _ _⟩))
  go_wp2;go_ret;exact⟨rfl,aV ((ax _ _).alloc (aG _) _) _⟩
theorem Nk (k f t ep ba vo po va:Int)(am al:Option Addr)(lm cm ll cl:Nat)(w:World)(hno:¬ (1<=k/\k<=16/\lm<=5/\ll<=24)) :
  Calls prog 122 #[.agg #[.int .i64 k,.int .i64 f,.int .i64 t,.int .i64 ep,.int .i64 ba,.int .i64 vo,.int .i64 po,.int .i64 va,.slice am lm cm,.slice al ll cl]] w fun e w'=>e=.returned (.bool false)/\ai w w':=by
 have hb:∀ o o',ai w ((w.alloc o).alloc o'):=fun o o'=>((ax _ _).alloc (aG _) _).alloc (by simp) _
 by_cases hk:1<=k/\k<=16
 ·have hk':Hid (j7 k=true):=ae (by unfold j7;simp[hk.1,hk.2])
  by_cases h3:5<lm
  ·clear hno hk
   go_enter func122,ntmps122;go_wp2_with fail;refine (sK _ _).mono ?_
   rintro e W' ⟨rfl,rfl⟩;rw[hk'.out];go_wp2_with fail;exact dB (v:=.bool false) (by simp[results,results122,go_sem]) rfl ⟨rfl,hb _ _⟩
  ·have h4:24<ll:=by omega
   clear hno hk;go_enter func122,ntmps122;go_wp2_with fail;refine (sK _ _).mono ?_
   rintro e W' ⟨rfl,rfl⟩;rw[hk'.out];go_wp2_with fail;exact dB (v:=.bool false) (by simp[results,results122,go_sem]) rfl ⟨rfl,hb _ _⟩
 ·have hk':Hid (j7 k=false):=ae (by
   unfold j7;by_cases h1:1<=k<;>by_cases h2:k<=16<;>simp_all)
  clear hno hk;go_enter func122,ntmps122;go_wp2_with fail;refine (sK _ _).mono ?_
  rintro e W' ⟨rfl,rfl⟩;rw[hk'.out];go_wp2_with fail;exact dB (v:=.bool false) (by simp[results,results122,go_sem]) rfl ⟨rfl,hb _ _⟩
end Go.Proofs.YtgieeeeeiggoeaaGreat
