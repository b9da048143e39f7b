import Derived.Test.YtgieeeeeiggoeaaGreatC34
import Derived.Test.YtgieeeeeiggoeaaGreatC35
set_option maxRecDepth 100000
set_option maxHeartbeats 8000000
namespace Go.Proofs.YtgieeeeeiggoeaaGreat
open Go.RowKit
theorem bkWhole_any (B:Nat)(aI aL aT aA:Option Addr)(NI NL NT NA cI cL cT cA:Nat)(x0 x5:Value)(w:World)(hB:w.heap[B]?=some (.cells #[x0,.slice aI NI cI,.slice aL NL cL,.slice aT NT cT,.slice aA NA cA,x5] 67))
  (hI:∀ i,i<NI→∃ b n v,aI=some ⟨b,0,none⟩∧w.cell? ⟨b,i,none⟩=some v∧n≤2000000000∧IntsAt w v (List.replicate n (-1000-(i:Int) / 4)))
  (hL:∀ i,i<NL→∃ b n v,aL=some ⟨b,0,none⟩∧w.cell? ⟨b,i,none⟩=some v∧n≤2000000000∧LogAt w v (List.replicate n (markE (-1000-(i:Int) / 4))))
  (hT:∀ i,i<NT→∃ b n cx ag,aT=some ⟨b,0,none⟩∧w.cell? ⟨b,i,none⟩=some (.slice ag n cx)∧n≤2000000000∧∀ j,j<n→∃ g,ag=some ⟨g,0,none⟩∧w.cell? ⟨g,j,none⟩=some (.string (bs (markT (i / 4)))))
  (hA:∀ i,i<NA→∃ b n cx ag,aA=some ⟨b,0,none⟩∧w.cell? ⟨b,i,none⟩=some (.slice ag n cx)∧n≤2000000000∧∀ j,j<n→∃ g,ag=some ⟨g,0,none⟩∧w.cell? ⟨g,j*3,none⟩=some (.int .i64 (-1000-(i:Int) / 4))∧w.cell? ⟨g,j*3+1,none⟩=some (.int .i64 0)∧w.cell? ⟨g,j*3+2,none⟩=some (.int .i64 0))
  (hNI:NI≤2000000000) (hNL:NL≤2000000000) (hNT:NT≤2000000000) (hNA:NA≤2000000000) :
  Calls Tryz.prog 24 #[.pointer (some ⟨B,1,none⟩)] w fun e w'=>e=.returned (.bool true)∧Below w.heap.size w w':=by
 have q0:w.cell? ⟨B,1,none⟩=some (.slice aI NI cI):=Joins.cell_of_block hB 1
 have q1:w.cell? ⟨B,2,none⟩=some (.slice aL NL cL):=Joins.cell_of_block hB 2
 have q2:w.cell? ⟨B,3,none⟩=some (.slice aT NT cT):=Joins.cell_of_block hB 3
 have q3:w.cell? ⟨B,4,none⟩=some (.slice aA NA cA):=Joins.cell_of_block hB 4
 have HI:=hideA hI;have HL:=hideA hL;have HT:=hideA hT;have HAn:=hideA hA;clear hI hL hT hA hB;go_enter Tryz.func24,Tryz.ntmps24
 go_wp2_with fail;go_loopw [3] (fun i wr=>∃ k q:Nat,k≤NI∧i=.int .i64 k∧wr=w.drewN q) (fun i _=>NI-(intOf i).toNat)
 case atStart=>exact⟨0,0,Nat.zero_le _,rfl,rfl⟩
 case round =>
  obtain⟨k,q,hk,rfl,rfl⟩:=hrel;have hl0:(0:Int)≤(k:Int):=by omega
  by_cases hlt:k<NI
  ·obtain⟨b,n,v,rfl,c1,hn,hv⟩:=HI.out k hlt
   have hl1:(k:Int)<(NI:Int):=by omega
   have hwk:IntKind.i64.wrap ((k:Int) / 4)=(k:Int) / 4:=wrap_i64_nat (k / 4) (by omega)
   obtain⟨x,cx,hvv,hx⟩:=hv;rw[List.length_replicate] at hvv hx
   subst hvv;have HX:=hideA hx;clear hx;go_wp2_with fail;go_loopw [4] (fun j wr=>∃ m q:Nat,m≤n∧j=.int .i64 m∧wr=w.drewN q) (fun j _=>n-(intOf j).toNat)
   case atStart=>exact⟨0,q,Nat.zero_le _,rfl,rfl⟩
   case round =>
    obtain⟨m,q',hm,rfl,rfl⟩:=hrel;have hm0:(0:Int)≤(m:Int):=by omega
    by_cases hlm:m<n
    ·obtain⟨b2,o2,rfl,c2⟩:=HX.out m hlm
     have hm1:(m:Int)<(n:Int):=by omega
     have e2:(List.replicate n (-1000-(k:Int) / 4)).getD m 0=(-1000-(k:Int) / 4):=by simp[List.getD,hlm]
     rw[e2] at c2
     clear e2;go_wp2_with fail;go_quiet ((go_at_call 49;refine (markInt_any ((k:Int) / 4) _ (by omega) (by omega)).mono ?_;rintro e w9 ⟨rfl,rfl⟩;exact⟨rfl,_,rfl⟩))
     go_wp2_with fail;exact⟨⟨m+1,_,by omega,by go_num,rfl⟩,by simp[intOf];omega⟩
    ·go_wp2_with fail
     exact⟨⟨k+1,q',by omega,by go_num,rfl⟩,by simp[intOf];omega⟩
  ·clear HI
   go_wp2_with fail;clear q0;go_loopw [5] (fun i wr=>∃ k:Nat,k≤NL∧i=.int .i64 k∧Below w.heap.size w wr) (fun i _=>NL-(intOf i).toNat)
   case atStart=>exact⟨0,Nat.zero_le _,rfl,below_drewN (Below.refl _ _) _⟩
   case round =>
    obtain⟨k,hk,rfl,hb⟩:=hrel;have r1:=cell_later hb q1
    have r2:=cell_later hb q2
    have r3:=cell_later hb q3
    have hl0:(0:Int)≤(k:Int):=by omega
    by_cases hlt:k<NL
    ·obtain⟨b,n,v,rfl,c1,hn,hv⟩:=HL.out k hlt
     have hl1:(k:Int)<(NL:Int):=by omega
     have hwk:IntKind.i64.wrap ((k:Int) / 4)=(k:Int) / 4:=wrap_i64_nat (k / 4) (by omega)
     obtain⟨x,cx,hvv,hx⟩:=hv;rw[List.length_replicate] at hvv hx
     subst hvv;have HX:=hideA hx;clear hx r2 r3;have c1r:=cell_later hb c1
     go_wp2_with fail;clear r1 c1r;go_loopw [6] (fun j wr=>∃ m:Nat,m≤n∧j=.int .i64 m∧Below w.heap.size w wr) (fun j _=>n-(intOf j).toNat)
     case atStart=>exact⟨0,Nat.zero_le _,rfl,hb⟩
     case round =>
      clear hb;obtain⟨m,hm,rfl,hb⟩:=hrel;have r1:=cell_later hb q1
      have c1r:=cell_later hb c1
      have hm0:(0:Int)≤(m:Int):=by omega
      by_cases hlm:m<n
      ·obtain⟨b2,o2,rfl,d0,d1,d2,d3,d4⟩:=HX.out m hlm
       have hm1:(m:Int)<(n:Int):=by omega
       have e2:(List.replicate n (markE (-1000-(k:Int) / 4))).getD m Ent.zero=markE (-1000-(k:Int) / 4):=by simp[List.getD,hlm]
       rw[e2] at d0 d1 d2 d3 d4
       dsimp only [markE] at d0 d1 d2 d3 d4
       clear e2;have f0:=cell_later hb d0
       have f1:=cell_later hb d1
       have f2:=cell_later hb d2
       have f3:=cell_later hb d3
       have f4:=cell_later hb d4
       clear q1 q2 q3 c1 d0 d1 d2 d3 d4;go_wp2_with fail;go_region_held3 (fun w'=>w'.cell? ⟨B,2,none⟩=some (.slice (some ⟨b,0,none⟩) NL cL)∧w'.cell? ⟨b,k,none⟩=some (.slice (some ⟨b2,o2,none⟩) n cx)∧w'.cell? ⟨b2,o2+m*5,none⟩=some (.int .i64 (-1000-(k:Int) / 4))∧w'.cell? ⟨b2,o2+m*5+1,none⟩=some (.int .i64 0)∧w'.cell? ⟨b2,o2+m*5+2,none⟩=some (.int .i64 0)∧w'.cell? ⟨b2,o2+m*5+3,none⟩=some (.int .i64 0)∧w'.cell? ⟨b2,o2+m*5+4,none⟩=some (.int .i64 0)∧Below w.heap.size w w')
        (first|exact⟨r1,c1r,f0,f1,f2,f3,f4,hb.drew⟩|(go_split_ands;exact⟨cell_later hbn (by assumption),cell_later hbn (by assumption),cell_later hbn (by assumption),cell_later hbn (by assumption),cell_later hbn (by assumption),cell_later hbn (by assumption),cell_later hbn (by assumption),Below.trans (by assumption) (hbn.mono (Below.size (by assumption)))⟩))
        ((go_at_call 50;refine (markEntry_any ((k:Int) / 4) _ (by omega) (by omega)).mono ?_;rintro e wn ⟨rfl,hbn⟩))
       go_split_ands
       go_wp2_with fail;exact⟨⟨m+1,by omega,by go_num,by assumption⟩,by simp[intOf];omega⟩
      ·go_wp2_with fail
       exact⟨⟨k+1,by omega,by go_num,hb⟩,by simp[intOf];omega⟩
    ·clear HL
     go_wp2_with fail;go_loopw [7] (fun i wr=>∃ k:Nat,k≤NT∧i=.int .i64 k∧Below w.heap.size w wr) (fun i _=>NT-(intOf i).toNat)
     case atStart=>exact⟨0,Nat.zero_le _,rfl,hb⟩
     case round =>
      clear hb r1 r2 r3;obtain⟨k,hk,rfl,hb⟩:=hrel;have r2:=cell_later hb q2
      have r3:=cell_later hb q3
      have hl0:(0:Int)≤(k:Int):=by omega
      by_cases hlt:k<NT
      ·obtain⟨b,n,cx,ag,rfl,c1,hn,hx⟩:=HT.out k hlt
       have hl1:(k:Int)<(NT:Int):=by omega
       have hwk:IntKind.i64.wrap ((k:Int) / 4)=(k:Int) / 4:=wrap_i64_nat (k / 4) (by omega)
       have HX:=hideA hx;clear hx r3;go_wp2_with fail;refine (markText_int _ _ (k / 4) (by omega) (by omega)).mono ?_
       rintro e W2 ⟨rfl,hbW⟩;generalize markT (k / 4)=mk at *
       have hb2:=hb.trans (hbW.mono hb.size)
       clear r2;go_wp2_with fail;go_loopw [9] (fun j wr=>∃ m:Nat,m≤n∧j=.int .i64 m∧wr=W2) (fun j _=>n-(intOf j).toNat)
       case atStart=>exact⟨0,Nat.zero_le _,rfl,rfl⟩
       case round =>
        obtain⟨m,hm,rfl,rfl⟩:=hrel;have r2:=cell_later hb2 q2
        have c1r:=cell_later hb2 c1
        have hm0:(0:Int)≤(m:Int):=by omega
        by_cases hlm:m<n
        ·obtain⟨g,rfl,d0_⟩:=HX.out m hlm
         have d0:=cell_later hb2 d0_
         clear d0_;have hm1:(m:Int)<(n:Int):=by omega
         clear q1 q2 q3 c1;go_wp2_with fail;exact⟨⟨m+1,by omega,by go_num,by trivial⟩,by simp[intOf];omega⟩
        ·go_wp2_with fail
         exact⟨⟨k+1,by omega,by go_num,hb2⟩,by simp[intOf];omega⟩
      ·clear HT
       go_wp2_with fail;go_loopw [10] (fun i wr=>∃ k:Nat,k≤NA∧i=.int .i64 k∧Below w.heap.size w wr) (fun i _=>NA-(intOf i).toNat)
       case atStart=>exact⟨0,Nat.zero_le _,rfl,hb⟩
       case round =>
        clear hb r2 r3;obtain⟨k,hk,rfl,hb⟩:=hrel;have r3:=cell_later hb q3
        have hl0:(0:Int)≤(k:Int):=by omega
        by_cases hlt:k<NA
        ·obtain⟨b,n,cx,ag,rfl,c1,hn,hx⟩:=HAn.out k hlt
         have hl1:(k:Int)<(NA:Int):=by omega
         have hwk:IntKind.i64.wrap ((k:Int) / 4)=(k:Int) / 4:=wrap_i64_nat (k / 4) (by omega)
         have HX:=hideA hx;clear hx;have c1r:=cell_later hb c1
         go_wp2_with fail;clear r3 c1r;go_loopw [11] (fun j wr=>∃ m:Nat,m≤n∧j=.int .i64 m∧Below w.heap.size w wr) (fun j _=>n-(intOf j).toNat)
         case atStart=>exact⟨0,Nat.zero_le _,rfl,hb⟩
         case round =>
          clear hb;obtain⟨m,hm,rfl,hb⟩:=hrel;have r3:=cell_later hb q3
          have c1r:=cell_later hb c1
          have hm0:(0:Int)≤(m:Int):=by omega
          by_cases hlm:m<n
          ·obtain⟨g,rfl,d0,d1,d2⟩:=HX.out m hlm
           have hm1:(m:Int)<(n:Int):=by omega
           have f0:=cell_later hb d0
           have f1:=cell_later hb d1
           have f2:=cell_later hb d2
           clear q1 q2 q3 c1 d0 d1 d2;go_wp2_with fail;go_region_held3 (fun w'=>w'.cell? ⟨B,4,none⟩=some (.slice (some ⟨b,0,none⟩) NA cA)∧w'.cell? ⟨b,k,none⟩=some (.slice (some ⟨g,0,none⟩) n cx)∧w'.cell? ⟨g,m*3,none⟩=some (.int .i64 (-1000-(k:Int) / 4))∧w'.cell? ⟨g,m*3+1,none⟩=some (.int .i64 0)∧w'.cell? ⟨g,m*3+2,none⟩=some (.int .i64 0)∧Below w.heap.size w w')
            (first|exact⟨r3,c1r,f0,f1,f2,hb.drew⟩|(go_split_ands;exact⟨cell_later hbn (by assumption),cell_later hbn (by assumption),cell_later hbn (by assumption),cell_later hbn (by assumption),cell_later hbn (by assumption),Below.trans (by assumption) (hbn.mono (Below.size (by assumption)))⟩))
            ((go_at_call 52;refine (markAnswer_any ((k:Int) / 4) _ (by omega) (by omega)).mono ?_;rintro e wn ⟨rfl,hbn⟩))
           go_split_ands
           go_wp2_with fail;exact⟨⟨m+1,by omega,by go_num,by assumption⟩,by simp[intOf];omega⟩
          ·go_wp2_with fail
           exact⟨⟨k+1,by omega,by go_num,hb⟩,by simp[intOf];omega⟩
        ·go_wp2_with fail
         go_ret;exact⟨rfl,hb⟩
end Go.Proofs.YtgieeeeeiggoeaaGreat
namespace Go.Proofs.YtgieeeeeiggoeaaGreat
open Go.RowKit Go.Shelf
structure Bk where
 lI:List (Value × Nat)
 lL:List (Value × Nat)
 lT:List (Value × Nat)
 lA:List (Value × Nat)
def Bk.own (b:Bk)(vI vL vT vA:Value)(k:Nat):Prop :=
 vI.ownBlock=some k∨vL.ownBlock=some k∨vT.ownBlock=some k∨vA.ownBlock=some k∨(∃ p∈b.lI,p.1.ownBlock=some k)∨(∃ p∈b.lL,p.1.ownBlock=some k)∨(∃ p∈b.lT,p.1.ownBlock=some k)∨∃ p∈b.lA,p.1.ownBlock=some k
structure BookIn (w:World)(B base:Nat)(x0 x5:Value)(b:Bk)(vI vL vT vA:Value):Prop where
 blk:w.heap[B]?=some (.cells #[x0,vI,vL,vT,vA,x5] 67)
 rI:w.ownsRow base 29 1 vI b.lI.length (b.lI.map Prod.fst)
 rL:w.ownsRow base 44 1 vL b.lL.length (b.lL.map Prod.fst)
 rT:w.ownsRow base 111 1 vT b.lT.length (b.lT.map Prod.fst)
 rA:w.ownsRow base 91 1 vA b.lA.length (b.lA.map Prod.fst)
 eI:∀ (i:Nat) (p:Value × Nat),b.lI[i]?=some p→p.2≤2000000000∧w.ownsRow base 3 1 p.1 p.2 (ints (List.replicate p.2 (-1000-(i:Int) / 4)))
 eL:∀ (i:Nat) (p:Value × Nat),b.lL[i]?=some p→p.2≤2000000000∧w.ownsRow base 42 5 p.1 p.2 (ints (entsNums (List.replicate p.2 (markE (-1000-(i:Int) / 4)))))
 eT:∀ (i:Nat) (p:Value × Nat),b.lT[i]?=some p→p.2≤2000000000∧w.ownsRow base 9 1 p.1 p.2 (strs (List.replicate p.2 (markT (i / 4))))
 eA:∀ (i:Nat) (p:Value × Nat),b.lA[i]?=some p→p.2≤2000000000∧w.ownsRow base 113 3 p.1 p.2 (ints (ansNums (List.replicate p.2 (markAn (-1000-(i:Int) / 4)))))
 bb:B<base
 bs:base≤w.heap.size
 fours:b.lI.length % 4=0∧b.lL.length % 4=0∧b.lT.length % 4=0∧b.lA.length % 4=0
theorem BookIn.keep {w w':World}{B base:Nat}{x0 x5:Value}{b:Bk}{vI vL vT vA:Value}(h:BookIn w B base x0 x5 b vI vL vT vA)(hs:w.heap.size≤w'.heap.size)(hk:∀ k,k=B∨b.own vI vL vT vA k→w'.heap[k]?=w.heap[k]?):BookIn w' B base x0 x5 b vI vL vT vA where
 blk:=(hk B (.inl rfl)).trans h.blk
 rI:=oon h.rI fun k e=>hk k (.inr (.inl e))
 rL:=oon h.rL fun k e=>hk k (.inr (.inr (.inl e)))
 rT:=oon h.rT fun k e=>hk k (.inr (.inr (.inr (.inl e))))
 rA:=oon h.rA fun k e=>hk k (.inr (.inr (.inr (.inr (.inl e)))))
 eI:=fun i p hp=>⟨(h.eI i p hp).1,oon (h.eI i p hp).2 fun k e=>hk k (.inr (.inr (.inr (.inr (.inr (.inl ⟨p,List.mem_of_getElem? hp,e⟩))))))⟩
 eL:=fun i p hp=>⟨(h.eL i p hp).1,oon (h.eL i p hp).2 fun k e=>hk k (.inr (.inr (.inr (.inr (.inr (.inr (.inl ⟨p,List.mem_of_getElem? hp,e⟩)))))))⟩
 eT:=fun i p hp=>⟨(h.eT i p hp).1,oon (h.eT i p hp).2 fun k e=>hk k (.inr (.inr (.inr (.inr (.inr (.inr (.inr (.inl ⟨p,List.mem_of_getElem? hp,e⟩))))))))⟩
 eA:=fun i p hp=>⟨(h.eA i p hp).1,oon (h.eA i p hp).2 fun k e=>hk k (.inr (.inr (.inr (.inr (.inr (.inr (.inr (.inr ⟨p,List.mem_of_getElem? hp,e⟩))))))))⟩
 bb:=h.bb
 bs:=Nat.le_trans h.bs hs
 fours:=h.fours
theorem BookIn.whole {w:World}{B base:Nat}{x0 x5:Value}{b:Bk}{vI vL vT vA:Value}(h:BookIn w B base x0 x5 b vI vL vT vA)(h1:b.lI.length≤2000000000)(h2:b.lL.length≤2000000000)(h3:b.lT.length≤2000000000)(h4:b.lA.length≤2000000000) :
  Calls Tryz.prog 24 #[.pointer (some ⟨B,1,none⟩)] w fun e w'=>e=.returned (.bool true)∧Below w.heap.size w w':=by
 obtain⟨aI,cI,hI⟩:=osh h.rI
 obtain⟨aL,cL,hL⟩:=osh h.rL
 obtain⟨aT,cT,hT⟩:=osh h.rT
 obtain⟨aA,cA,hA⟩:=osh h.rA
 subst hI hL hT hA
 have at_:∀ {e:TypeId} {a:Option Addr} {c:Nat} {l:List (Value × Nat)},w.ownsRow base e 1 (.slice a l.length c) l.length (l.map Prod.fst)→∀ i,i<l.length→∃ b' p,l[i]?=some p∧a=some ⟨b',0,none⟩∧w.cell? ⟨b',i,none⟩=some p.1:=by
  intro e a c l ho i hi;obtain⟨g,cap,hv, -, -⟩:=ho.form (by omega)
  cases hv
  refine⟨g,l[i],List.getElem?_eq_getElem hi,rfl, ?_⟩
  rw[World.ownsRow.cellAt ho i (by omega),List.getElem?_map,List.getElem?_eq_getElem hi]
  rfl
 refine bkWhole_any B aI aL aT aA b.lI.length b.lL.length b.lT.length b.lA.length cI cL cT cA x0 x5 w h.blk (fun i hi => ?_) (fun i hi => ?_) (fun i hi => ?_) (fun i hi => ?_) h1 h2 h3 h4
 ·obtain⟨b',p,hp,ha,hc⟩:=at_ h.rI i hi
  refine⟨b',p.2,p.1,ha,hc,(h.eI i p hp).1,IntsAt.of_owns (base:=base) ?_⟩
  rw[List.length_replicate];exact (h.eI i p hp).2
 ·obtain⟨b',p,hp,ha,hc⟩:=at_ h.rL i hi
  refine⟨b',p.2,p.1,ha,hc,(h.eL i p hp).1,LogAt.of_owns (base:=base) ?_⟩
  rw[List.length_replicate];exact (h.eL i p hp).2
 ·obtain⟨b',p,hp,ha,hc⟩:=at_ h.rT i hi
  have ho:=(h.eT i p hp).2
  obtain⟨a9,c9,hv9⟩:=osh ho
  rw[hv9] at hc ho
  refine⟨b',p.2,c9,a9,ha,hc,(h.eT i p hp).1,fun j hj => ?_⟩
  obtain⟨g,cap,hv, -, -⟩:=ho.form (by omega)
  cases hv
  refine⟨g,rfl, ?_⟩
  rw[World.ownsRow.cellAt ho j (by omega)]
  unfold strs
  rw[List.getElem?_map,List.getElem?_replicate,if_pos hj]
  rfl
 ·obtain⟨b',p,hp,ha,hc⟩:=at_ h.rA i hi
  have ho:=(h.eA i p hp).2
  obtain⟨a9,c9,hv9⟩:=osh ho
  rw[hv9] at hc ho
  refine⟨b',p.2,c9,a9,ha,hc,(h.eA i p hp).1,fun j hj => ?_⟩
  obtain⟨g,cap,hv, -, -⟩:=ho.form (by omega)
  cases hv
  have cc:∀ t,t<3→∀ z,(markAn (-1000-(i:Int) / 4)).nums[t]?=some z→w.cell? ⟨g,j*3+t,none⟩=some (.int .i64 z):=by
   intro t ht z hz;rw[World.ownsRow.cellAt ho (j*3+t) (by omega)]
   unfold ints
   rw[List.getElem?_map,ansNums_at _ j t (markAn (-1000-(i:Int) / 4)) (by rw[List.getElem?_replicate,if_pos hj]) ht,hz]
   rfl
  exact⟨g,rfl,cc 0 (by omega) _ rfl,cc 1 (by omega) _ rfl,cc 2 (by omega) _ rfl⟩
theorem four_at {l l4:List (Value × Nat)}{a0 a1 a2 a3:Value × Nat}(h4:l4=[a0,a1,a2,a3])(i:Nat)(p:Value × Nat)(h:(l++l4)[i]?=some p):l[i]?=some p∨∃ t,t<4∧i=l.length+t∧l4[t]?=some p:=by
 by_cases hi:i<l.length
 ·rw[List.getElem?_append_left hi] at h
  exact .inl h
 ·right
  rw[List.getElem?_append_right (by omega)] at h
  have:=(List.getElem?_eq_some_iff.1 h).1
  subst h4;simp only [List.length_cons,List.length_nil] at this
  exact⟨i-l.length,by omega,by omega,h⟩
theorem mark_at {N t:Nat}(h:N % 4=0)(ht:t<4):(((N+t:Nat):Int) / 4)=(N:Int) / 4:=by omega
theorem BookIn.keepInts {w:World}{B base bv:Nat}{x0 x5:Value}{b:Bk}{vI vL vT vA:Value}(h:BookIn w B base x0 x5 b vI vL vT vA)(v:Value)(l:List Int)(hv:w.ownsRow bv 3 1 v l.length (ints l))(hb1:base≤bv)(hb2:bv≤w.heap.size)
  (hf:∀ k,v.ownBlock=some k→¬ b.own vI vL vT vA k) (hN:b.lI.length≤1000000000) (hl:l.length≤1000000000) :
  Calls Tryz.prog 100 #[.pointer (some ⟨B,1,none⟩),v] w fun e w'=>e=.returned (.tuple #[])∧∃ vI' l4,l4.length=4∧BookIn w' B base x0 x5 { b with lI:=b.lI++l4 } vI' vL vT vA∧Moved w w' (fun k=>k=B∨v.ownBlock=some k∨vI.ownBlock=some k) ∧
   ∀ k,({ b with lI:=b.lI++l4 }:Bk).own vI' vL vT vA k→b.own vI vL vT vA k∨bv≤k:=by
 have hbb:=h.bb
 refine (bkInts_any B base bv b.lI.length x0 x5 v vI vL vT vA (b.lI.map Prod.fst) l w h.blk h.bb (by omega) h.bs hb2 hv h.rI hN hl).mono ?_
 rintro e w' ⟨rfl,v1,v2,v3,vI',hblk,hrow,o0,o1,o2,o3,hM,hg⟩;have hs:=hM.size
 have keep:∀ {base size n:Nat} {e:TypeId} {u:Value} {xs:List Value},w.ownsRow base e size u n xs→e≠67→e≠29→(∀ k,u.ownBlock=some k→v.ownBlock≠some k)→w'.ownsRow base e size u n xs:=fun ho h1 h2 h3=>hM.owns ho fun k hk hS=>by
  rcases hS with q|q|q
  ·exact bty h.blk ho h1 (q ▸ hk)
  ·exact h3 k hk q
  ·exact otw ho h.rI h2 k hk q
 have hlen:(b.lI++[(v,l.length),(v1,l.length+1),(v2,l.length+2),(v3,l.length+3)]).length=b.lI.length+4:=by simp
 refine⟨rfl,vI',[(v,l.length),(v1,l.length+1),(v2,l.length+2),(v3,l.length+3)],rfl, ?_,hM, ?_⟩
 ·refine⟨hblk, ?_,keep h.rL (by decide) (by decide) (fun k hk hv=>hf k hv (.inr (.inl hk))),keep h.rT (by decide) (by decide) (fun k hk hv=>hf k hv (.inr (.inr (.inl hk)))),keep h.rA (by decide) (by decide) (fun k hk hv=>hf k hv (.inr (.inr (.inr (.inl hk))))),fun i p hp => ?_,fun i p hp => ?_,fun i p hp => ?_,fun i p hp => ?_,h.bb,Nat.le_trans h.bs hs, ?_⟩
  ·rw[hlen,List.map_append]
   exact hrow
  ·rcases four_at rfl i p hp with hp'|⟨t,ht,hi,hp'⟩
   ·exact⟨(h.eI i p hp').1,keep (h.eI i p hp').2 (by decide) (by decide) (fun k hk hv=>hf k hv (.inr (.inr (.inr (.inr (.inl ⟨p,List.mem_of_getElem? hp',hk⟩))))))⟩
   ·rw[hi,mark_at h.fours.1 ht]
    rcases (by omega:t=0∨t=1∨t=2∨t=3) with q|q|q|q<;>subst q<;>(simp at hp';subst hp')
    ·exact⟨by show l.length≤_;omega,obs o0 hb1⟩
    ·exact⟨by show l.length+1≤_;omega,obs o1 hb1⟩
    ·exact⟨by show l.length+2≤_;omega,obs o2 hb1⟩
    ·exact⟨by show l.length+3≤_;omega,obs o3 hb1⟩
  ·exact⟨(h.eL i p hp).1,keep (h.eL i p hp).2 (by decide) (by decide) (fun k hk hv=>hf k hv (.inr (.inr (.inr (.inr (.inr (.inl ⟨p,List.mem_of_getElem? hp,hk⟩)))))))⟩
  ·exact⟨(h.eT i p hp).1,keep (h.eT i p hp).2 (by decide) (by decide) (fun k hk hv=>hf k hv (.inr (.inr (.inr (.inr (.inr (.inr (.inl ⟨p,List.mem_of_getElem? hp,hk⟩))))))))⟩
  ·exact⟨(h.eA i p hp).1,keep (h.eA i p hp).2 (by decide) (by decide) (fun k hk hv=>hf k hv (.inr (.inr (.inr (.inr (.inr (.inr (.inr ⟨p,List.mem_of_getElem? hp,hk⟩))))))))⟩
  ·obtain⟨f1,f2,f3,f4⟩:=h.fours
   refine⟨?_,f2,f3,f4⟩
   rw[hlen];omega
 ·intro k hk
  rcases hk with q|q|q|q|q|q|q|q
  ·rcases hg k q with e|e
   ·exact .inl (.inl e)
   ·exact .inr (by omega)
  ·exact .inl (.inr (.inl q))
  ·exact .inl (.inr (.inr (.inl q)))
  ·exact .inl (.inr (.inr (.inr (.inl q))))
  ·obtain⟨p,hp,hpk⟩:=q
   rcases List.mem_append.1 hp with hp|hp
   ·exact .inl (.inr (.inr (.inr (.inr (.inl ⟨p,hp,hpk⟩)))))
   ·right
    simp at hp
    rcases hp with rfl|rfl|rfl|rfl
    ·exact (o0.lt k hpk).1
    ·exact (o1.lt k hpk).1
    ·exact (o2.lt k hpk).1
    ·exact (o3.lt k hpk).1
  ·exact .inl (.inr (.inr (.inr (.inr (.inr (.inl q))))))
  ·exact .inl (.inr (.inr (.inr (.inr (.inr (.inr (.inl q)))))))
  ·exact .inl (.inr (.inr (.inr (.inr (.inr (.inr (.inr q)))))))
theorem BookIn.keepLog {w:World}{B base bv:Nat}{x0 x5:Value}{b:Bk}{vI vL vT vA:Value}(h:BookIn w B base x0 x5 b vI vL vT vA)(v:Value)(l:List Ent)(hv:w.ownsRow bv 42 5 v l.length (ints (entsNums l)))(hb1:base≤bv)(hb2:bv≤w.heap.size)
  (hf:∀ k,v.ownBlock=some k→¬ b.own vI vL vT vA k) (hN:b.lL.length≤1000000000) (hl:l.length≤1000000000) :
  Calls Tryz.prog 101 #[.pointer (some ⟨B,1,none⟩),v] w fun e w'=>e=.returned (.tuple #[])∧∃ u' l4,l4.length=4∧BookIn w' B base x0 x5 { b with lL:=b.lL++l4 } vI u' vT vA∧Moved w w' (fun k=>k=B∨v.ownBlock=some k∨vL.ownBlock=some k) ∧
   ∀ k,({ b with lL:=b.lL++l4 }:Bk).own vI u' vT vA k→b.own vI vL vT vA k∨bv≤k:=by
 have hbb:=h.bb
 refine (bkLog_any B base bv b.lL.length x0 x5 v vL vI vT vA (b.lL.map Prod.fst) l w h.blk h.bb (by omega) h.bs hb2 hv h.rL hN hl).mono ?_
 rintro e w' ⟨rfl,v1,v2,v3,u',hblk,hrow,o0,o1,o2,o3,hM,hg⟩;have hs:=hM.size
 have keep:∀ {base size n:Nat} {e:TypeId} {u:Value} {xs:List Value},w.ownsRow base e size u n xs→e≠67→e≠44→(∀ k,u.ownBlock=some k→v.ownBlock≠some k)→w'.ownsRow base e size u n xs:=fun ho h1 h2 h3=>hM.owns ho fun k hk hS=>by
  rcases hS with q|q|q
  ·exact bty h.blk ho h1 (q ▸ hk)
  ·exact h3 k hk q
  ·exact otw ho h.rL h2 k hk q
 have hlen:(b.lL++[(v,l.length),(v1,l.length+1),(v2,l.length+2),(v3,l.length+3)]).length=b.lL.length+4:=by simp
 refine⟨rfl,u',[(v,l.length),(v1,l.length+1),(v2,l.length+2),(v3,l.length+3)],rfl, ?_,hM, ?_⟩
 ·refine⟨hblk,keep h.rI (by decide) (by decide) (fun k hk hv=>hf k hv (.inl hk)), ?_,keep h.rT (by decide) (by decide) (fun k hk hv=>hf k hv (.inr (.inr (.inl hk)))),keep h.rA (by decide) (by decide) (fun k hk hv=>hf k hv (.inr (.inr (.inr (.inl hk))))),fun i p hp => ?_,fun i p hp => ?_,fun i p hp => ?_,fun i p hp => ?_,h.bb,Nat.le_trans h.bs hs, ?_⟩
  ·rw[hlen,List.map_append]
   exact hrow
  ·exact⟨(h.eI i p hp).1,keep (h.eI i p hp).2 (by decide) (by decide) (fun k hk hv=>hf k hv (.inr (.inr (.inr (.inr (.inl ⟨p,List.mem_of_getElem? hp,hk⟩))))))⟩
  ·rcases four_at rfl i p hp with hp'|⟨t,ht,hi,hp'⟩
   ·exact⟨(h.eL i p hp').1,keep (h.eL i p hp').2 (by decide) (by decide) (fun k hk hv=>hf k hv (.inr (.inr (.inr (.inr (.inr (.inl ⟨p,List.mem_of_getElem? hp',hk⟩)))))))⟩
   ·rw[hi,mark_at h.fours.2.1 ht]
    rcases (by omega:t=0∨t=1∨t=2∨t=3) with q|q|q|q<;>subst q<;>(simp at hp';subst hp')
    ·exact⟨by show l.length≤_;omega,obs o0 hb1⟩
    ·exact⟨by show l.length+1≤_;omega,obs o1 hb1⟩
    ·exact⟨by show l.length+2≤_;omega,obs o2 hb1⟩
    ·exact⟨by show l.length+3≤_;omega,obs o3 hb1⟩
  ·exact⟨(h.eT i p hp).1,keep (h.eT i p hp).2 (by decide) (by decide) (fun k hk hv=>hf k hv (.inr (.inr (.inr (.inr (.inr (.inr (.inl ⟨p,List.mem_of_getElem? hp,hk⟩))))))))⟩
  ·exact⟨(h.eA i p hp).1,keep (h.eA i p hp).2 (by decide) (by decide) (fun k hk hv=>hf k hv (.inr (.inr (.inr (.inr (.inr (.inr (.inr ⟨p,List.mem_of_getElem? hp,hk⟩))))))))⟩
  ·obtain⟨f1,f2,f3,f4⟩:=h.fours
   refine⟨f1, ?_,f3,f4⟩
   rw[hlen];omega
 ·intro k hk
  rcases hk with q|q|q|q|q|q|q|q
  ·exact .inl (.inl q)
  ·rcases hg k q with e|e
   ·exact .inl (.inr (.inl e))
   ·exact .inr (by omega)
  ·exact .inl (.inr (.inr (.inl q)))
  ·exact .inl (.inr (.inr (.inr (.inl q))))
  ·exact .inl (.inr (.inr (.inr (.inr (.inl q)))))
  ·obtain⟨p,hp,hpk⟩:=q
   rcases List.mem_append.1 hp with hp|hp
   ·exact .inl (.inr (.inr (.inr (.inr (.inr (.inl ⟨p,hp,hpk⟩))))))
   ·right
    simp at hp
    rcases hp with rfl|rfl|rfl|rfl
    ·exact (o0.lt k hpk).1
    ·exact (o1.lt k hpk).1
    ·exact (o2.lt k hpk).1
    ·exact (o3.lt k hpk).1
  ·exact .inl (.inr (.inr (.inr (.inr (.inr (.inr (.inl q)))))))
  ·exact .inl (.inr (.inr (.inr (.inr (.inr (.inr (.inr (q))))))))
theorem mark_nat {N t:Nat}(h:N % 4=0)(ht:t<4):(N+t) / 4=N / 4:=by omega
theorem BookIn.keepTexts {w:World}{B base bv:Nat}{x0 x5:Value}{b:Bk}{vI vL vT vA:Value}(h:BookIn w B base x0 x5 b vI vL vT vA)(v:Value)(l:List (List UInt8))(hv:w.ownsRow bv 9 1 v l.length (strs l))(hb1:base≤bv)(hb2:bv≤w.heap.size)
  (hf:∀ k,v.ownBlock=some k→¬ b.own vI vL vT vA k) (hN:b.lT.length≤1000000000) (hl:l.length≤1000000000) :
  Calls Tryz.prog 92 #[.pointer (some ⟨B,1,none⟩),v] w fun e w'=>e=.returned (.tuple #[])∧∃ u' l4,l4.length=4∧BookIn w' B base x0 x5 { b with lT:=b.lT++l4 } vI vL u' vA∧Moved w w' (fun k=>k=B∨v.ownBlock=some k∨vT.ownBlock=some k) ∧
   ∀ k,({ b with lT:=b.lT++l4 }:Bk).own vI vL u' vA k→b.own vI vL vT vA k∨bv≤k:=by
 have hbb:=h.bb
 refine (bkTexts_any B base bv b.lT.length x0 x5 v vT vI vL vA (b.lT.map Prod.fst) l w h.blk h.bb (by omega) h.bs hb2 hv h.rT hN hl).mono ?_
 rintro e w' ⟨rfl,v1,v2,v3,u',hblk,hrow,o0,o1,o2,o3,hM,hg⟩;have hs:=hM.size
 have keep:∀ {base size n:Nat} {e:TypeId} {u:Value} {xs:List Value},w.ownsRow base e size u n xs→e≠67→e≠111→(∀ k,u.ownBlock=some k→v.ownBlock≠some k)→w'.ownsRow base e size u n xs:=fun ho h1 h2 h3=>hM.owns ho fun k hk hS=>by
  rcases hS with q|q|q
  ·exact bty h.blk ho h1 (q ▸ hk)
  ·exact h3 k hk q
  ·exact otw ho h.rT h2 k hk q
 have hlen:(b.lT++[(v,l.length),(v1,l.length+1),(v2,l.length+2),(v3,l.length+3)]).length=b.lT.length+4:=by simp
 refine⟨rfl,u',[(v,l.length),(v1,l.length+1),(v2,l.length+2),(v3,l.length+3)],rfl, ?_,hM, ?_⟩
 ·refine⟨hblk,keep h.rI (by decide) (by decide) (fun k hk hv=>hf k hv (.inl hk)),keep h.rL (by decide) (by decide) (fun k hk hv=>hf k hv (.inr (.inl hk))), ?_,keep h.rA (by decide) (by decide) (fun k hk hv=>hf k hv (.inr (.inr (.inr (.inl hk))))),fun i p hp => ?_,fun i p hp => ?_,fun i p hp => ?_,fun i p hp => ?_,h.bb,Nat.le_trans h.bs hs, ?_⟩
  ·rw[hlen,List.map_append]
   exact hrow
  ·exact⟨(h.eI i p hp).1,keep (h.eI i p hp).2 (by decide) (by decide) (fun k hk hv=>hf k hv (.inr (.inr (.inr (.inr (.inl ⟨p,List.mem_of_getElem? hp,hk⟩))))))⟩
  ·exact⟨(h.eL i p hp).1,keep (h.eL i p hp).2 (by decide) (by decide) (fun k hk hv=>hf k hv (.inr (.inr (.inr (.inr (.inr (.inl ⟨p,List.mem_of_getElem? hp,hk⟩)))))))⟩
  ·rcases four_at rfl i p hp with hp'|⟨t,ht,hi,hp'⟩
   ·exact⟨(h.eT i p hp').1,keep (h.eT i p hp').2 (by decide) (by decide) (fun k hk hv=>hf k hv (.inr (.inr (.inr (.inr (.inr (.inr (.inl ⟨p,List.mem_of_getElem? hp',hk⟩))))))))⟩
   ·rw[hi,mark_nat h.fours.2.2.1 ht]
    rcases (by omega:t=0∨t=1∨t=2∨t=3) with q|q|q|q<;>subst q<;>(simp at hp';subst hp')
    ·exact⟨by show l.length≤_;omega,obs o0 hb1⟩
    ·exact⟨by show l.length+1≤_;omega,obs o1 hb1⟩
    ·exact⟨by show l.length+2≤_;omega,obs o2 hb1⟩
    ·exact⟨by show l.length+3≤_;omega,obs o3 hb1⟩
  ·exact⟨(h.eA i p hp).1,keep (h.eA i p hp).2 (by decide) (by decide) (fun k hk hv=>hf k hv (.inr (.inr (.inr (.inr (.inr (.inr (.inr ⟨p,List.mem_of_getElem? hp,hk⟩))))))))⟩
  ·obtain⟨f1,f2,f3,f4⟩:=h.fours
   refine⟨f1,f2, ?_,f4⟩
   rw[hlen];omega
 ·intro k hk
  rcases hk with q|q|q|q|q|q|q|q
  ·exact .inl (.inl q)
  ·exact .inl (.inr (.inl q))
  ·rcases hg k q with e|e
   ·exact .inl (.inr (.inr (.inl e)))
   ·exact .inr (by omega)
  ·exact .inl (.inr (.inr (.inr (.inl q))))
  ·exact .inl (.inr (.inr (.inr (.inr (.inl q)))))
  ·exact .inl (.inr (.inr (.inr (.inr (.inr (.inl q))))))
  ·obtain⟨p,hp,hpk⟩:=q
   rcases List.mem_append.1 hp with hp|hp
   ·exact .inl (.inr (.inr (.inr (.inr (.inr (.inr (.inl ⟨p,hp,hpk⟩)))))))
   ·right
    simp at hp
    rcases hp with rfl|rfl|rfl|rfl
    ·exact (o0.lt k hpk).1
    ·exact (o1.lt k hpk).1
    ·exact (o2.lt k hpk).1
    ·exact (o3.lt k hpk).1
  ·exact .inl (.inr (.inr (.inr (.inr (.inr (.inr (.inr (q))))))))
theorem BookIn.keepAns {w:World}{B base bv:Nat}{x0 x5:Value}{b:Bk}{vI vL vT vA:Value}(h:BookIn w B base x0 x5 b vI vL vT vA)(v:Value)(l:List Ans)(hv:w.ownsRow bv 113 3 v l.length (ints (ansNums l)))(hb1:base≤bv)(hb2:bv≤w.heap.size)
  (hf:∀ k,v.ownBlock=some k→¬ b.own vI vL vT vA k) (hN:b.lA.length≤1000000000) (hl:l.length≤1000000000) :
  Calls Tryz.prog 105 #[.pointer (some ⟨B,1,none⟩),v] w fun e w'=>e=.returned (.tuple #[])∧∃ u' l4,l4.length=4∧BookIn w' B base x0 x5 { b with lA:=b.lA++l4 } vI vL vT u'∧Moved w w' (fun k=>k=B∨v.ownBlock=some k∨vA.ownBlock=some k) ∧
   ∀ k,({ b with lA:=b.lA++l4 }:Bk).own vI vL vT u' k→b.own vI vL vT vA k∨bv≤k:=by
 have hbb:=h.bb
 refine (bkAns_any B base bv b.lA.length x0 x5 v vA vI vL vT (b.lA.map Prod.fst) l w h.blk h.bb (by omega) h.bs hb2 hv h.rA hN hl).mono ?_
 rintro e w' ⟨rfl,v1,v2,v3,u',hblk,hrow,o0,o1,o2,o3,hM,hg⟩;have hs:=hM.size
 have keep:∀ {base size n:Nat} {e:TypeId} {u:Value} {xs:List Value},w.ownsRow base e size u n xs→e≠67→e≠91→(∀ k,u.ownBlock=some k→v.ownBlock≠some k)→w'.ownsRow base e size u n xs:=fun ho h1 h2 h3=>hM.owns ho fun k hk hS=>by
  rcases hS with q|q|q
  ·exact bty h.blk ho h1 (q ▸ hk)
  ·exact h3 k hk q
  ·exact otw ho h.rA h2 k hk q
 have hlen:(b.lA++[(v,l.length),(v1,l.length+1),(v2,l.length+2),(v3,l.length+3)]).length=b.lA.length+4:=by simp
 refine⟨rfl,u',[(v,l.length),(v1,l.length+1),(v2,l.length+2),(v3,l.length+3)],rfl, ?_,hM, ?_⟩
 ·refine⟨hblk,keep h.rI (by decide) (by decide) (fun k hk hv=>hf k hv (.inl hk)),keep h.rL (by decide) (by decide) (fun k hk hv=>hf k hv (.inr (.inl hk))),keep h.rT (by decide) (by decide) (fun k hk hv=>hf k hv (.inr (.inr (.inl hk)))), ?_,fun i p hp => ?_,fun i p hp => ?_,fun i p hp => ?_,fun i p hp => ?_,h.bb,Nat.le_trans h.bs hs, ?_⟩
  ·rw[hlen,List.map_append]
   exact hrow
  ·exact⟨(h.eI i p hp).1,keep (h.eI i p hp).2 (by decide) (by decide) (fun k hk hv=>hf k hv (.inr (.inr (.inr (.inr (.inl ⟨p,List.mem_of_getElem? hp,hk⟩))))))⟩
  ·exact⟨(h.eL i p hp).1,keep (h.eL i p hp).2 (by decide) (by decide) (fun k hk hv=>hf k hv (.inr (.inr (.inr (.inr (.inr (.inl ⟨p,List.mem_of_getElem? hp,hk⟩)))))))⟩
  ·exact⟨(h.eT i p hp).1,keep (h.eT i p hp).2 (by decide) (by decide) (fun k hk hv=>hf k hv (.inr (.inr (.inr (.inr (.inr (.inr (.inl ⟨p,List.mem_of_getElem? hp,hk⟩))))))))⟩
  ·rcases four_at rfl i p hp with hp'|⟨t,ht,hi,hp'⟩
   ·exact⟨(h.eA i p hp').1,keep (h.eA i p hp').2 (by decide) (by decide) (fun k hk hv=>hf k hv (.inr (.inr (.inr (.inr (.inr (.inr (.inr ⟨p,List.mem_of_getElem? hp',hk⟩))))))))⟩
   ·rw[hi,mark_at h.fours.2.2.2 ht]
    rcases (by omega:t=0∨t=1∨t=2∨t=3) with q|q|q|q<;>subst q<;>(simp at hp';subst hp')
    ·exact⟨by show l.length≤_;omega,obs o0 hb1⟩
    ·exact⟨by show l.length+1≤_;omega,obs o1 hb1⟩
    ·exact⟨by show l.length+2≤_;omega,obs o2 hb1⟩
    ·exact⟨by show l.length+3≤_;omega,obs o3 hb1⟩
  ·obtain⟨f1,f2,f3,f4⟩:=h.fours
   refine⟨f1,f2,f3, ?_⟩
   rw[hlen];omega
 ·intro k hk
  rcases hk with q|q|q|q|q|q|q|q
  ·exact .inl (.inl q)
  ·exact .inl (.inr (.inl q))
  ·exact .inl (.inr (.inr (.inl q)))
  ·rcases hg k q with e|e
   ·exact .inl (.inr (.inr (.inr (.inl e))))
   ·exact .inr (by omega)
  ·exact .inl (.inr (.inr (.inr (.inr (.inl q)))))
  ·exact .inl (.inr (.inr (.inr (.inr (.inr (.inl q))))))
  ·exact .inl (.inr (.inr (.inr (.inr (.inr (.inr (.inl q)))))))
  ·obtain⟨p,hp,hpk⟩:=q
   rcases List.mem_append.1 hp with hp|hp
   ·exact .inl (.inr (.inr (.inr (.inr (.inr (.inr (.inr (⟨p,hp,hpk⟩))))))))
   ·right
    simp at hp
    rcases hp with rfl|rfl|rfl|rfl
    ·exact (o0.lt k hpk).1
    ·exact (o1.lt k hpk).1
    ·exact (o2.lt k hpk).1
    ·exact (o3.lt k hpk).1
end Go.Proofs.YtgieeeeeiggoeaaGreat
