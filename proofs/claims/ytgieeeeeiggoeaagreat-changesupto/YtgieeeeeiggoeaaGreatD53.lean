import Derived.Test.YtgieeeeeiggoeaaGreatD51
set_option maxRecDepth 100000
set_option maxHeartbeats 16000000
namespace Go.Proofs.YtgieeeeeiggoeaaGreat
open Go.RowKit Go.Shelf
open Tryz
set_option linter.unusedVariables false in
theorem T2 {w0 w:World}{B M T:Nat}{ps:List Pr}(o:dN)(h:bZ w0 w B (.int .i64 63230) M ps)(hs:pI ps T M o)(hk:o.kind=2\/o.kind=4\/o.kind=5\/o.kind=6\/o.kind=7\/o.kind=9\/o.kind=10) :
  Calls prog 23 #[B,.agg #[o.kind,o.cl,o.n,o.i,o.e.client,o.e.seq,o.e.kind,o.e.key,o.e.value,.slice o.a o.len o.cap]] w fun e w'=>e=.returned (.bool true)/\∃ ps',bZ w0 w' B (.int .i64 63230) (M+8) ps'/\(∀ p∈ps',Kept p.c (T+1))/\ps.length<=ps'.length/\ps'.length<=ps.length+1:=by
 obtain⟨X,hX,hbX,dx⟩:=ch w #[o.kind,o.cl,o.n,o.i,o.e.client,o.e.seq,o.e.kind,o.e.key,o.e.value,.slice o.a o.len o.cap] 71;have m0:=au dx 0;have m1:=au dx 1;have m2:=au dx 2;have gM:=fun j=>aj dx j;have dR:=h.below hbX;have c5:=dR.mask;have HL:=ae dR;have HS:=ae hs;obtain⟨aC,cC,r0,rC⟩:=dR.row;have hpr:=Bj o.cl (ps.length:Int) (by have:=hs.pos;omega)
 obtain⟨j,hjp⟩:∃ j:Nat,lO o.cl (ps.length:Int)=(j:Int):=⟨(lO o.cl (ps.length:Int)).toNat,by omega⟩
 have hjl:j<ps.length:=by omega
 obtain⟨p,hj⟩:∃ p,ps[j]?=some p:=⟨_,bU hjl⟩;have hpm:p∈ps:=dU hj;obtain⟨gC,hga,rj⟩:=rC j p hj;subst hga;have HP:Hid (∀ q,Calls prog 44 #[o.cl,.int .i64 (ps.length:Int)] (X.drewN q) fun e w'=>e=.returned (.int .i64 (j:Int))/\w'=X.drewN q):=ae fun q=>by
  rw[<- hjp];exact Bl o.cl (ps.length:Int) (X.drewN q) (by have:=hs.pos;omega) (by have:=hs.len;omega) hs.cl.1 hs.cl.2
 have hj1:(j:Int)<(ps.length:Int):=by omega
 have hj0:(0:Int)<=(j:Int):=by omega
 have HO:Hid (∀ q,Calls prog 42 #[p.q,.agg #[o.kind,o.cl,o.n,o.i,o.e.client,o.e.seq,o.e.kind,o.e.key,o.e.value,.slice o.a o.len o.cap]] (X.drewN q) fun e w'=>e=.returned (.bool true)/\∃ ps',bZ w0 w' B (.int .i64 63230) (M+8) ps'/\(∀ p∈ps',Kept p.c (T+1))/\ps.length<=ps'.length/\ps'.length<=ps.length+1):=ae fun q=>by
  have nE:=dR.below (aV (ax X.heap.size X) q);refine (FD o nE hj hs.kept (by have:=hs.t;omega) hs.fit (by omega)).mono ?_
  rintro e w' ⟨rfl,ps',h1,h2,h3, -⟩;exact⟨rfl,ps',h1.less (by omega),h2,by omega,by omega⟩
 clear h dR hs dx hpr hjp rC hj;rcases hk with hk|hk|hk|hk|hk|hk|hk
 all_goals (
  rw[hk] at m0 hX gM HO |-;go_enter func23,ntmps23;go_wp2_with fail;go_quiet (fail);go_wp2_with fail;go_upto_region 5 with fail
  go_cut [3,5] (fun p3 p5 wx=>p3=.pointer (some w.heap.size)/\p5=.pointer (some p.q)/\∃ q,wx=X.drewN q)
  case first =>
   go_region_law (first|(rw[if_pos (by simp[Region.wanted])];go_simp;go_at_call 44;refine (HP.out _).mono ?_;rintro e W1 ⟨rfl,rfl⟩))
   all_goals (
    go_wp2_with fail;go_meet;exact⟨rfl,rfl,_,rfl⟩)
  case rest =>
   obtain⟨rfl,rfl,q,rfl⟩:=hcut;go_wp2_with fail;refine (HO.out q).mono ?_
   rintro e W ⟨rfl,hq⟩;have HQ:=ae hq;clear hq;go_wp2_with fail;go_ret;exact⟨rfl,HQ.out⟩)
end Go.Proofs.YtgieeeeeiggoeaaGreat
