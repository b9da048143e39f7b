import Derived.Test.YtgieeeeeiggoeaaGreatC02
import Derived.Test.YtgieeeeeiggoeaaGreatC07
namespace Go.Proofs.YtgieeeeeiggoeaaGreat
def Gh.first (n:Nat):Gh :=
 {n:=n,asked:=fun _=>False,prop:=fun _ _=>none,voted:=fun _ _ _=>False,promR:=fun _ _ _ _=>False,prepd:=fun _ _=>False
  hist:=fun i e=>if 0≤i∧i<n∧e=0 then some [] else none,seen:=0 }
theorem first_cfg {n:Nat}{E:Int}{v:List Int × List Ent}(h:(Gh.first n).cfg E v):E=0∧v=(firstInts n,[]):=by
 rcases h with q|⟨_,b,_,_,_,q,_⟩
 ·exact q
 ·exact q.elim
theorem first_H (n:Nat)(i:Int):(Gh.first n).H i 0 []=[]:=by
 unfold Gh.H Gh.first
 simp only []
 split<;>rfl
theorem mem_firstInts {n:Nat}{i:Int}(h0:0≤i)(h1:i<n):i∈firstInts n:=by
 simp only [firstInts,List.mem_map,List.mem_range]
 exact⟨i.toNat,by omega,by show Int.ofNat _=_;simp;omega⟩
theorem first_rep {n:Nat}{i:Int}(h0:0≤i)(h1:i<n):(Clu.first n).rep i=Rep.first n:=by
 unfold Clu.rep Clu.first
 simp only []
 rw[List.getD,List.getElem?_replicate,if_pos (by omega)]
 rfl
theorem first_acc {n:Nat}{a:Int}(h:isAcc a):(Clu.first n).acc a=Acc.first n:=by
 unfold isAcc at h
 unfold Clu.acc Clu.first
 simp only []
 rw[List.getD,List.getElem?_replicate,if_pos (by omega)]
 rfl
theorem first_mas {n:Nat}{a:Int}(h:isMas a):(Clu.first n).mas a=Mas.still true 0:=by
 unfold isMas at h
 unfold Clu.mas Clu.first
 simp only []
 rw[List.getD,List.getElem?_replicate,if_pos (by omega)]
 rfl
theorem first_isRep {n:Nat}{i:Int}:(Clu.first n).isRep i↔0≤i∧i<n:=by
 unfold Clu.isRep Clu.first
 simp
theorem first_inv (n:Nat)(h:1≤n):Inv (Gh.first n) (stOf (Clu.first n)):=by
 have hcf:(Gh.first n).cfg 0 (firstInts n,[]):=.inl ⟨rfl,rfl⟩
 have hcom:(Gh.first n).com 0 []:=⟨_,_,hcf,(first_H n _).symm⟩
 exact
  {npos:=h
   voteAcc:=fun q=>q.elim
   votes:=by
    intro a ha E;rw[stOf_A ha,first_acc ha];exact⟨Int.le_refl _,fun q=>absurd q (by show ¬ (0:Int) ≤ -1;omega)⟩
   prom:=fun q=>q.elim
   prepd:=fun q=>q.elim
   propd:=fun q=>absurd q (by show ¬ (none:Option (List Int × List Ent)).isSome=true;simp)
   prop:=fun q=>by cases q
   mas:=by
    intro k hk;have hS:(stOf (Clu.first n)).S k=Mas.still true 0:=by rw[stOf_S hk,first_mas hk]
    exact
     {does:=by rw[hS];exact Nat.zero_le _
      bal:=by rw[hS];intro q;exact absurd rfl q
      want:=by rw[hS];intro q;exact absurd rfl q
      cameI:=by rw[hS];intro x hx;cases hx
      old:=by rw[hS];intro q;exact absurd q (by show ¬ 2≤0;decide)
      prep:=by rw[hS];intro q;exact absurd q (by show ¬ 3≤0;decide)
      logs:=by rw[hS];intro q;exact absurd q (by show ¬ 0=3;decide)
      prop:=by rw[hS];intro q;exact absurd q (by show ¬ 4≤0;decide)
      cfg:=by rw[hS];intro q;exact absurd q (by show ¬ 5≤0;decide) }
   reg:=by
    intro a ha;rw[stOf_A ha,first_acc ha];exact⟨[],hcf⟩
   rep:=by
    intro i h0 h1;have h1':i<n:=h1
    rw[stOf_R (first_isRep.2 ⟨h0,h1'⟩),first_rep h0 h1']
    refine⟨if_pos ⟨h0,h1',rfl⟩,by show (0:Int)≤0+1;omega,Nat.le_refl _,[],hcf,rfl,[],hcom,Nat.le_refl _⟩
   hist:=by
    intro i e l q;have q':(if 0≤i∧i<(n:Int)∧e=0 then some ([]:List Ent) else none)=some l:=q
    split at q'
    ·rename_i hc
     injection q' with q'
     subst q';obtain⟨c1,c2,rfl⟩:=hc;refine⟨c1,c2, ?_,⟨_,_,hcf,mem_firstInts c1 c2,List.prefix_refl _⟩,List.Pairwise.nil,fun x hx=>(by cases hx),Nat.zero_le _⟩
     rw[stOf_R (first_isRep.2 ⟨c1,c2⟩),first_rep c1 c2]
     exact Int.le_refl _
    ·cases q'
   chain:=by
    intro e mems l0 hc a x y _ _;obtain⟨rfl,hv⟩:=first_cfg hc
    injection hv with h1 h2
    subst h2;rw[first_H,first_H];exact List.prefix_refl _ }
theorem first_good (n:Nat)(h:1≤n)(h5:n≤5):Good (Clu.first n) 0 (Gh.first n):=by
 have hl:(Clu.first n).reps.length=n:=by unfold Clu.first;simp
 refine⟨?_,by unfold Clu.first;simp,fun f hf=>by cases hf⟩
 exact
  {n1:=by rw[hl];exact h
   n5:=by rw[hl];exact h5
   a3:=rfl,m2:=rfl
   n:=hl.symm
   E0:=Int.le_refl _
   R:=by
    intro i hi;obtain⟨h0,h1⟩:=first_isRep.1 hi
    rw[first_rep h0 h1,hl];exact⟨⟨Int.le_refl _,Int.le_refl _⟩,⟨Int.le_refl _,Int.le_refl _⟩,firstInts_ok n h,entsOk_nil,Nat.le_refl _,Nat.le_refl _,Nat.le_refl _⟩
   A:=by
    intro a ha;rw[first_acc ha,hl];refine⟨⟨Int.le_refl _,Int.le_refl _⟩,firstInts_ok n h, ?_⟩
    intro e;exact⟨by show (-1:Int) ≤ -1∧(-1:Int)≤2001;omega,by show (-1:Int) ≤ -1∧(-1:Int)≤2001;omega,.inl rfl,fun q=>absurd q (by show ¬ (0:Int) ≤ -1;omega),entsOk_nil⟩
   S:=by
    intro k hk;rw[first_mas hk];exact masStill_wf true (by omega) (Int.le_refl _)
   budget:=by rw[first_mas (by unfold isMas;omega),first_mas (by unfold isMas;omega)];decide
   inv:=first_inv n h }
end Go.Proofs.YtgieeeeeiggoeaaGreat
