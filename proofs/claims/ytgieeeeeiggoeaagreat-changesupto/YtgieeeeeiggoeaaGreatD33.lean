import Derived.Test.YtgieeeeeiggoeaaGreatD30
set_option maxRecDepth 100000
set_option maxHeartbeats 2000000
namespace Go.Proofs.YtgieeeeeiggoeaaGreat
open Go.RowKit Go.Shelf
open Tryz
theorem GI (b:Nat)(r:aR)(vm vl:Value)(own:Int)(p:Nat)(w:World)(h:ot w b r vm vl)(hp:p<r.log.length)(sC:r.log.length<=24)(hcl:0<=(r.log.getD p aH.zero).client/\(r.log.getD p aH.zero).client<=1000) :
  Calls prog 220 #[b,.int .i64 own,.int .i64 (p:Int)] w fun e w'=>e=.returned (bL (r.dm own p) (.slice none 0 0) (.slice none 0 0))/\ai w w':=by
 obtain⟨X,hX,hbX,hM⟩:=ch w #[(),(),(),(),(),(),(),(),true,true] 134;have jm:=h.below hbX;obtain⟨al,cl,hvl,dy⟩:=jm.log;subst hvl;obtain⟨b1,o1,hal,l0,l1,l2,l3,l4⟩:=dy p hp;subst hal;have ky:=jm.c4;have Ib:Hid (∀ W,ai X W->Calls prog 221 #[.slice (some ⟨b1,o1,none⟩) r.log.length cl,.int .i64 (p:Int)] W fun e w'=>e=.returned (.int .i64 (jj r.log p))/\∃ q,w'=W.drewN q):=ae fun W hb=>Ss _ r.log p W (jm.below hb).log hp sC;have tV:Hid (bL (r.dm own p) (.slice none 0 0) (.slice none 0 0)=.agg #[.int .i64 4,.int .i64 own,.int .i64 (300+(r.log.getD p aH.zero).client),(),(),(),.int .i64 (r.log.getD p aH.zero).seq,.int .i64 (jj r.log p),true,true]):=ae rfl;generalize r.log.getD p aH.zero=x at *;generalize jj r.log p=an at *;have hwr:IntKind.i64.wrap (300+x.client)=300+x.client:=by rw[dV];omega
 obtain⟨Y,hY,bt,kx⟩:=ch X #[x.client,x.seq,x.kind,x.key,x.value] 42;have hp0:(0:Int)<=(p:Int):=by omega
 have hp1:(p:Int)<(r.log.length:Int):=by omega
 have hwl:w.heap.size<X.heap.size:=(aQ hM);have dx:=(bt.block _ hwl).trans hM;have gW:=fun j=>aj dx j;have fW:=fun j=>aW dx j;have e0:=au kx 0;have e1:=au kx 1;have y4:=aF bt ky;have HA:Hid (∀ W,W=Y.drew->Calls prog 221 #[.slice (some ⟨b1,o1,none⟩) r.log.length cl,.int .i64 (p:Int)] W fun e w'=>e=.returned (.int .i64 an)/\∃ q,w'=Y.drewN q):=ae fun W hW=>by
  subst hW;refine (Ib.out Y.drew bt.drew).mono ?_
  rintro e w' ⟨h1,q,rfl⟩;exact⟨h1,1+q,World.drewN_drew _ _⟩
 have hbW:ai w Y:=hbX.trans (bt.mono hbX.size);clear h jm dy hM dx kx;go_enter func220,ntmps220;go_wp2_with fail;go_region_law (first|(rw[if_pos (by simp[Region.wanted])];go_simp;go_at_call 221;refine (HA.out _ rfl).mono ?_;rintro e W ⟨rfl,q,rfl⟩))
 all_goals (
  go_wp2_with fail;refine dB (v:=.agg #[.int .i64 4,.int .i64 own,.int .i64 (300+x.client),(),(),(),x.seq,.int .i64 an,true,true]) (by simp[results,results220,go_sem,gW]) rfl ?_
  refine⟨by rw[tV.out], ?_⟩
  iterate 10 refine eE ?_ (by exact aG _) _
  exact aV hbW q)
end Go.Proofs.YtgieeeeeiggoeaaGreat
