import Derived.Test.YtgieeeeeiggoeaaGreatD13
set_option maxRecDepth 100000
set_option maxHeartbeats 8000000
namespace Go.Proofs.YtgieeeeeiggoeaaGreat
open Go.RowKit
open Tryz
theorem KL (B:Nat)(aI aL aT aA:Option Addr)(NI NL NT NA cI cL cT cA:Nat)(x0 x5:Value)(w:World)(hB:w.heap[B]?=some (.cells #[x0,.slice aI NI cI,.slice aL NL cL,.slice aT NT cT,.slice aA NA cA,x5] 67))
  (hI:∀ i,i<NI->∃ b n v,aI=some ⟨b,0,none⟩/\w.cell? ⟨b,i,none⟩=some v/\n<=2000000000/\bJ w v (List.replicate n (-1000-(i:Int) / 4)))
  (hL:∀ i,i<NL->∃ b n v,aL=some ⟨b,0,none⟩/\w.cell? ⟨b,i,none⟩=some v/\n<=2000000000/\eM w v (List.replicate n (iN (-1000-(i:Int) / 4))))
  (hT:∀ i,i<NT->∃ b n cx ag,aT=some ⟨b,0,none⟩/\w.cell? ⟨b,i,none⟩=some (.slice ag n cx)/\n<=2000000000/\∀ j,j<n->∃ g,ag=some ⟨g,0,none⟩/\w.cell? ⟨g,j,none⟩=some (.string (bs (pt (i / 4)))))
  (hA:∀ i,i<NA->∃ b n cx ag,aA=some ⟨b,0,none⟩/\w.cell? ⟨b,i,none⟩=some (.slice ag n cx)/\n<=2000000000/\∀ j,j<n->∃ g,ag=some ⟨g,0,none⟩/\w.cell? ⟨g,j*3,none⟩=some (.int .i64 (-1000-(i:Int) / 4))/\w.cell? ⟨g,j*3+1,none⟩=some (.int .i64 0)/\w.cell? ⟨g,j*3+2,none⟩=some (.int .i64 0))
  (VO:NI<=2000000000) (VP:NL<=2000000000) (VQ:NT<=2000000000) (VN:NA<=2000000000) :
  Calls prog 24 #[.pointer (some ⟨B,1,none⟩)] w fun e w'=>e=.returned (.bool true)/\ai w w':=by
 have q0:w.cell? (B,1)=some (.slice aI NI cI):=Joins.cell_of_block hB 1;have q1:w.cell? (B,2)=some (.slice aL NL cL):=Joins.cell_of_block hB 2;have q2:w.cell? (B,3)=some (.slice aT NT cT):=Joins.cell_of_block hB 3;have q3:w.cell? (B,4)=some (.slice aA NA cA):=Joins.cell_of_block hB 4;have HI:=ae hI;have HL:=ae hL;have HT:=ae hT;have Ih:=ae hA;clear hI hL hT hA hB;go_enter func24,ntmps24;go_wp2_with fail;go_loopw [3] (fun i wr=>∃ k q:Nat,k<=NI/\i=.int .i64 k/\wr=w.drewN q) (fun i _=>NI-(intOf i).toNat)
 case atStart=>exact⟨0,0,bl _,rfl,rfl⟩
 case round =>
  obtain⟨k,q,hk,rfl,rfl⟩:=hrel;have hl0:(0:Int)<=(k:Int):=by omega
  by_cases hlt:k<NI
  ·obtain⟨b,n,v,rfl,c1,hn,hv⟩:=HI.out k hlt
   have hl1:(k:Int)<(NI:Int):=by omega
   have hwk:IntKind.i64.wrap ((k:Int) / 4)=(k:Int) / 4:=nk (k / 4) (by omega)
   obtain⟨x,cx,hvv,hx⟩:=hv;rw[List.length_replicate] at hvv hx;subst hvv;have HX:=ae hx;clear hx;go_wp2_with fail;go_loopw [4] (fun j wr=>∃ m q:Nat,m<=n/\j=.int .i64 m/\wr=w.drewN q) (fun j _=>n-(intOf j).toNat)
   case atStart=>exact⟨0,q,bl _,rfl,rfl⟩
   case round =>
    obtain⟨m,q',hm,rfl,rfl⟩:=hrel;have hm0:(0:Int)<=(m:Int):=by omega
    by_cases hlm:m<n
    ·obtain⟨b2,o2,rfl,c2⟩:=HX.out m hlm
     have hm1:(m:Int)<(n:Int):=by omega
     have e2:(List.replicate n (-1000-(k:Int) / 4)).getD m 0=(-1000-(k:Int) / 4):=by simp[List.getD,hlm]
     rw[e2] at c2;clear e2;go_wp2_with fail;go_quiet ((go_at_call 49;refine (xn ((k:Int) / 4) _ (by omega) (by omega)).mono ?_;rintro e w9 ⟨rfl,rfl⟩;exact⟨rfl,_,rfl⟩))
     go_wp2_with fail;exact⟨⟨m+1,_,by omega,by go_num,rfl⟩,by simp[intOf];omega⟩
    ·go_wp2_with fail
     exact⟨⟨k+1,q',by omega,by go_num,rfl⟩,by simp[intOf];omega⟩
  ·clear HI
   go_wp2_with fail;clear q0;go_loopw [5] (fun i wr=>∃ k:Nat,k<=NL/\i=.int .i64 k/\ai w wr) (fun i _=>NL-(intOf i).toNat)
   case atStart=>exact⟨0,bl _,rfl,aV (ax _ _) _⟩
   case round =>
    obtain⟨k,hk,rfl,hb⟩:=hrel;have r1:=aF hb q1;have r2:=aF hb q2;have r3:=aF hb q3;have hl0:(0:Int)<=(k:Int):=by omega
    by_cases hlt:k<NL
    ·obtain⟨b,n,v,rfl,c1,hn,hv⟩:=HL.out k hlt
     have hl1:(k:Int)<(NL:Int):=by omega
     have hwk:IntKind.i64.wrap ((k:Int) / 4)=(k:Int) / 4:=nk (k / 4) (by omega)
     obtain⟨x,cx,hvv,hx⟩:=hv;rw[List.length_replicate] at hvv hx;subst hvv;have HX:=ae hx;clear hx r2 r3;have pN:=aF hb c1;go_wp2_with fail;clear r1 pN;go_loopw [6] (fun j wr=>∃ m:Nat,m<=n/\j=.int .i64 m/\ai w wr) (fun j _=>n-(intOf j).toNat)
     case atStart=>exact⟨0,bl _,rfl,hb⟩
     case round =>
      clear hb;obtain⟨m,hm,rfl,hb⟩:=hrel;have r1:=aF hb q1;have pN:=aF hb c1;have hm0:(0:Int)<=(m:Int):=by omega
      by_cases hlm:m<n
      ·obtain⟨b2,o2,rfl,d0,d1,d2,d3,d4⟩:=HX.out m hlm
       have hm1:(m:Int)<(n:Int):=by omega
       have e2:(List.replicate n (iN (-1000-(k:Int) / 4))).getD m aH.zero=iN (-1000-(k:Int) / 4):=by simp[List.getD,hlm]
       rw[e2] at d0 d1 d2 d3 d4;dsimp only [iN] at d0 d1 d2 d3 d4;clear e2;have f0:=aF hb d0;have f1:=aF hb d1;have f2:=aF hb d2;have f3:=aF hb d3;have f4:=aF hb d4;clear q1 q2 q3 c1 d0 d1 d2 d3 d4;go_wp2_with fail;go_region_held3 (fun w'=>w'.cell? (B,2)=some (.slice (some ⟨b,0,none⟩) NL cL)/\w'.cell? ⟨b,k,none⟩=some (.slice (some ⟨b2,o2,none⟩) n cx)/\w'.cell? ⟨b2,o2+m*5,none⟩=some (.int .i64 (-1000-(k:Int) / 4))/\w'.cell? ⟨b2,o2+m*5+1,none⟩=some (.int .i64 0)/\w'.cell? ⟨b2,o2+m*5+2,none⟩=some (.int .i64 0)/\w'.cell? ⟨b2,o2+m*5+3,none⟩=some (.int .i64 0)/\w'.cell? ⟨b2,o2+m*5+4,none⟩=some (.int .i64 0)/\ai w w')
        (first|exact⟨r1,pN,f0,f1,f2,f3,f4,hb.drew⟩|(go_split_ands;exact⟨aF hbn (by assumption),aF hbn (by assumption),aF hbn (by assumption),aF hbn (by assumption),aF hbn (by assumption),aF hbn (by assumption),aF hbn (by assumption),Below.trans (by assumption) (hbn.mono (Below.size (by assumption)))⟩))
        ((go_at_call 50;refine (FI ((k:Int) / 4) _ (by omega) (by omega)).mono ?_;rintro e wn ⟨rfl,hbn⟩))
       go_split_ands;go_wp2_with fail;exact⟨⟨m+1,by omega,by go_num,by assumption⟩,by simp[intOf];omega⟩
      ·go_wp2_with fail
       exact⟨⟨k+1,by omega,by go_num,hb⟩,by simp[intOf];omega⟩
    ·clear HL
     go_wp2_with fail;go_loopw [7] (fun i wr=>∃ k:Nat,k<=NT/\i=.int .i64 k/\ai w wr) (fun i _=>NT-(intOf i).toNat)
     case atStart=>exact⟨0,bl _,rfl,hb⟩
     case round =>
      clear hb r1 r2 r3;obtain⟨k,hk,rfl,hb⟩:=hrel;have r2:=aF hb q2;have r3:=aF hb q3;have hl0:(0:Int)<=(k:Int):=by omega
      by_cases hlt:k<NT
      ·obtain⟨b,n,cx,ag,rfl,c1,hn,hx⟩:=HT.out k hlt
       have hl1:(k:Int)<(NT:Int):=by omega
       have hwk:IntKind.i64.wrap ((k:Int) / 4)=(k:Int) / 4:=nk (k / 4) (by omega)
       have HX:=ae hx;clear hx r3;go_wp2_with fail;refine (FJ _ _ (k / 4) (by omega) (by omega)).mono ?_
       rintro e W2 ⟨rfl,hbW⟩;generalize pt (k / 4)=mk at *;have hb2:=hb.trans (hbW.mono hb.size);clear r2;go_wp2_with fail;go_loopw [9] (fun j wr=>∃ m:Nat,m<=n/\j=.int .i64 m/\wr=W2) (fun j _=>n-(intOf j).toNat)
       case atStart=>exact⟨0,bl _,rfl,rfl⟩
       case round =>
        obtain⟨m,hm,rfl,rfl⟩:=hrel;have r2:=aF hb2 q2;have pN:=aF hb2 c1;have hm0:(0:Int)<=(m:Int):=by omega
        by_cases hlm:m<n
        ·obtain⟨g,rfl,DE⟩:=HX.out m hlm
         have d0:=aF hb2 DE;clear DE;have hm1:(m:Int)<(n:Int):=by omega
         clear q1 q2 q3 c1;go_wp2_with fail;exact⟨⟨m+1,by omega,by go_num,by trivial⟩,by simp[intOf];omega⟩
        ·go_wp2_with fail
         exact⟨⟨k+1,by omega,by go_num,hb2⟩,by simp[intOf];omega⟩
      ·clear HT
       go_wp2_with fail;go_loopw [10] (fun i wr=>∃ k:Nat,k<=NA/\i=.int .i64 k/\ai w wr) (fun i _=>NA-(intOf i).toNat)
       case atStart=>exact⟨0,bl _,rfl,hb⟩
       case round =>
        clear hb r2 r3;obtain⟨k,hk,rfl,hb⟩:=hrel;have r3:=aF hb q3;have hl0:(0:Int)<=(k:Int):=by omega
        by_cases hlt:k<NA
        ·obtain⟨b,n,cx,ag,rfl,c1,hn,hx⟩:=Ih.out k hlt
         have hl1:(k:Int)<(NA:Int):=by omega
         have hwk:IntKind.i64.wrap ((k:Int) / 4)=(k:Int) / 4:=nk (k / 4) (by omega)
         have HX:=ae hx;clear hx;have pN:=aF hb c1;go_wp2_with fail;clear r3 pN;go_loopw [11] (fun j wr=>∃ m:Nat,m<=n/\j=.int .i64 m/\ai w wr) (fun j _=>n-(intOf j).toNat)
         case atStart=>exact⟨0,bl _,rfl,hb⟩
         case round =>
          clear hb;obtain⟨m,hm,rfl,hb⟩:=hrel;have r3:=aF hb q3;have pN:=aF hb c1;have hm0:(0:Int)<=(m:Int):=by omega
          by_cases hlm:m<n
          ·obtain⟨g,rfl,d0,d1,d2⟩:=HX.out m hlm
           have hm1:(m:Int)<(n:Int):=by omega
           have f0:=aF hb d0;have f1:=aF hb d1;have f2:=aF hb d2;clear q1 q2 q3 c1 d0 d1 d2;go_wp2_with fail;go_region_held3 (fun w'=>w'.cell? (B,4)=some (.slice (some ⟨b,0,none⟩) NA cA)/\w'.cell? ⟨b,k,none⟩=some (.slice (some ⟨g,0,none⟩) n cx)/\w'.cell? ⟨g,m*3,none⟩=some (.int .i64 (-1000-(k:Int) / 4))/\w'.cell? ⟨g,m*3+1,none⟩=some (.int .i64 0)/\w'.cell? ⟨g,m*3+2,none⟩=some (.int .i64 0)/\ai w w')
            (first|exact⟨r3,pN,f0,f1,f2,hb.drew⟩|(go_split_ands;exact⟨aF hbn (by assumption),aF hbn (by assumption),aF hbn (by assumption),aF hbn (by assumption),aF hbn (by assumption),Below.trans (by assumption) (hbn.mono (Below.size (by assumption)))⟩))
            ((go_at_call 52;refine (FH ((k:Int) / 4) _ (by omega) (by omega)).mono ?_;rintro e wn ⟨rfl,hbn⟩))
           go_split_ands;go_wp2_with fail;exact⟨⟨m+1,by omega,by go_num,by assumption⟩,by simp[intOf];omega⟩
          ·go_wp2_with fail
           exact⟨⟨k+1,by omega,by go_num,hb⟩,by simp[intOf];omega⟩
        ·go_wp2_with fail
         go_ret;exact⟨rfl,hb⟩
end Go.Proofs.YtgieeeeeiggoeaaGreat
