import Derived.Test.YtgieeeeeiggoeaaGreatQ17
import Derived.Lib.SmallJoins
import Derived.BigRegion
namespace Go.Proofs.YtgieeeeeiggoeaaGreat
open Go.RowKit
section
variable {P : Program} (w : World)
theorem run_append_keeps (t ty : TypeId) (base : Nat) (e : TypeId) (i : TypeInfo) (z : Value) (size bytes : Nat) (ht : P.underlying t = some (.slice e)) (hi : P.info? e = some i) (hz : i.zero = some z)
  (hsize : i.size = size) (hby : i.bytes = bytes) (hzs : z.cells.size = size) (hsz : 0 < size)
  (v : Value) (n : Nat) (xs : List Value) (hown : w.ownsRow base e size v n xs)
  (ad : Addr) (m c : Nat) (news : List Value) (hl : news.length = m * size) (hnews : ∀ j u,news[j]? = some u → w.cell? (ad.add j) = some u) (h1 : ∀ u ∈ news,u.oneCell' = true)
  (hm : 0 < m) (h63 : n + m ≤ maxLen) (hbytes : (n + m) * bytes ≤ 140737488355328) (hbase : base ≤ w.heap.size) :
  ∃ g cap w',(Builtin.append_ #[t,t] ty #[v, .slice (some ad) m c]).run P w = .ok (.slice (some ⟨g,0,none⟩) (n + m) cap) w' ∧
   w'.ownsRow base e size (.slice (some ⟨g,0,none⟩) (n + m) cap) (n + m) (xs ++ news) ∧ w.grownBy w' v.ownBlock ∧ w'.ownsRow base e size v n xs ∧ (v.ownBlock = some g ∨ g = w.heap.size) := by
 obtain ⟨g,cap,w',hr,h2,h3,h4,h5⟩ := run_append_lies (P := P) w t ty base e i z size bytes ht hi hz hsize hby hzs hsz v n xs hown ad m c news hl hnews h1 hm h63 hbytes hbase _ rfl
 refine ⟨g,cap,w',hr,h2,h3, ?_,h4⟩
 have hsmall : n + m ≤ 9223372036854775807 := by simp only [maxLen] at h63; omega
 rcases hown.2 with ⟨rfl,rfl⟩ | ⟨g0,cap0,cur,rfl,hbg,hg,hnc,hcm,hcs,htake⟩
 ·exact ⟨hown.1, .inl ⟨rfl,rfl⟩⟩
 ·by_cases hroom : n + m ≤ cap0
  ·have hfit : n * i.size + news.length ≤ cur.size := by rw [hl,hcs,hsize, ← Nat.add_mul]; exact Nat.mul_le_mul_right _ hroom
   have hr2 := run_append_room (P := P) w t ty e i ht hi g0 n cap0 cur hg ad m c news (by rw [hsize]; exact hl) hnews h1 hroom hfit
   rw [hr2] at hr
   injection hr with hv hw
   subst hw
   refine ⟨hown.1, .inr ⟨g0,cap0,_,rfl,hbg,setRow_heap w g0 cur _ e _ hg,hnc,hcm, ?_, ?_⟩⟩
   ·simp only [List.size_toArray,List.length_append,List.length_take,List.length_drop,Array.length_toList]
    omega
   ·have hlen : xs.length = n * size := hown.1
    rw [hsize,htake,List.append_assoc]
    simp only []
    rw [← hlen]
    exact List.take_left
  ·have holds : ∀ j u,xs[j]? = some u → w.cell? ((⟨g0,0,none⟩ : Addr).add j) = some u := hown.cells (g := g0) rfl
   have hr2 := run_append_grow (P := P) w t ty e i z ht hi hz ⟨g0,0,none⟩ n cap0 xs (by rw [hsize]; exact hown.1) holds ad m c news (by rw [hsize]; exact hl) hnews (by omega) (by omega) (growslice_fits (by omega) (by rw [hby]; exact hbytes))
   rw [hr2] at hr
   injection hr with hv hw
   subst hw
   refine ⟨hown.1, .inr ⟨g0,cap0,cur,rfl,hbg, ?_,hnc,hcm,hcs,htake⟩⟩
   rw [Below.heap_alloc w.drew _ g0 (Array.getElem?_eq_some_iff.1 hg).1]
   exact hg
theorem wpList_append_keeps {ops : Array Oper} {rest : List Oper} {o : Oper} {a : Act} {Q : Exit → Act → World → Prop} (hgd : o.guard = none) (s x : Operand) (t : TypeId)
  (ho : o.op = .call { callee := .builtin .append,args := #[s,x],argTypes := #[t,t] })
  (base : Nat) (e : TypeId) (i : TypeInfo) (z : Value) (size bytes : Nat) (ht : P.underlying t = some (.slice e)) (hi : P.info? e = some i) (hz : i.zero = some z)
  (hsize : i.size = size) (hby : i.bytes = bytes) (hzs : z.cells.size = size) (hsz : 0 < size)
  (v : Value) (n : Nat) (xs : List Value) (hs : a.eval s = v) (hown : w.ownsRow base e size v n xs)
  (ad : Addr) (m c : Nat) (news : List Value) (hx : a.eval x = .slice (some ad) m c) (hl : news.length = m * size) (hnews : ∀ j u,news[j]? = some u → w.cell? (ad.add j) = some u) (h1 : ∀ u ∈ news,u.oneCell' = true)
  (hm : 0 < m) (h63 : n + m ≤ maxLen) (hbytes : (n + m) * bytes ≤ 140737488355328) (hbase : base ≤ w.heap.size)
  (h : ∀ g cap w',w'.ownsRow base e size (.slice (some ⟨g,0,none⟩) (n + m) cap) (n + m) (xs ++ news) → w.grownBy w' v.ownBlock → w'.ownsRow base e size v n xs → (v.ownBlock = some g ∨ g = w.heap.size) → wpList P ops Q rest (a.put o.dst (.slice (some ⟨g,0,none⟩) (n + m) cap)) w') : wpList P ops Q (o :: rest) a w := by
 refine wpList_plain hgd fun _ hK => ?_
 obtain ⟨g,cap,w',hr,h2,h3,h4,h5⟩ := run_append_keeps (P := P) w t o.type base e i z size bytes ht hi hz hsize hby hzs hsz v n xs hown ad m c news hl hnews h1 hm h63 hbytes hbase
 unfold Oper.wp execOp
 simp only [ho,resolve,invoke,builtin,Sem.run_bind,Sem.run_pure,Result.andThen_ok,List.map_toArray,List.map_cons,List.map_nil,hs,hx,hr]
 exact hK _ _ (h g cap w' h2 h3 h4 h5)
end
structure Moved (w w' : World) (S : Nat → Prop) : Prop where
 os : w'.os = w.os
 tape : w'.tape = w.tape
 output : w'.output = w.output
 size : w.heap.size ≤ w'.heap.size
 block : ∀ k,k < w.heap.size → ¬ S k → w'.heap[k]? = w.heap[k]?
theorem Moved.refl (w : World) (S : Nat → Prop) : Moved w w S := ⟨rfl,rfl,rfl,Nat.le_refl _,fun _ _ _ => rfl⟩
theorem Moved.trans {w w1 w2 : World} {S S' : Nat → Prop} (h : Moved w w1 S) (h' : Moved w1 w2 S') (hs : ∀ k,k < w.heap.size → S' k → S k) : Moved w w2 S :=
 ⟨h'.os.trans h.os,h'.tape.trans h.tape,h'.output.trans h.output,Nat.le_trans h.size h'.size,fun k hk hS => (h'.block k (Nat.lt_of_lt_of_le hk h.size) (fun h2 => hS (hs k hk h2))).trans (h.block k hk hS)⟩
theorem Moved.grown {w w1 w2 : World} {S : Nat → Prop} {row : Option Nat} (h : Moved w w1 S) (h' : w1.grownBy w2 row) (hs : ∀ k,k < w.heap.size → row = some k → S k) : Moved w w2 S :=
 h.trans (S' := fun k => row = some k) ⟨h'.os,h'.tape,h'.output,h'.size,fun k hk hS => h'.block k hk (fun e => hS e.symm)⟩ hs
theorem Moved.alloc {w w1 : World} {S : Nat → Prop} (h : Moved w w1 S) (o : Obj) : Moved w (w1.alloc o) S :=
 h.trans (S' := fun _ => False) ⟨rfl,rfl,rfl,by simp,fun k hk _ => Below.heap_alloc _ _ k hk⟩ (fun _ _ h => h.elim)
theorem Moved.setCell {w w1 : World} {S : Nat → Prop} (h : Moved w w1 S) (p : Addr) (hp : S p.block) (u : Value) : Moved w (w1.setCell p u) S :=
 h.trans (S' := fun k => k = p.block) ⟨rfl,rfl,rfl,by simp,fun k _ hS => Below.heap_setCell _ _ _ k hS⟩ (fun k _ e => e ▸ hp)
theorem Moved.drew {w w1 : World} {S : Nat → Prop} (h : Moved w w1 S) : Moved w w1.drew S := ⟨h.os,h.tape,h.output,h.size,h.block⟩
theorem Moved.below {w w1 w2 : World} {S : Nat → Prop} (h : Moved w w1 S) (h' : Below w1.heap.size w1 w2) : Moved w w2 S :=
 h.trans (S' := fun _ => False) ⟨h'.os,h'.tape,h'.output,h'.size,fun k hk _ => h'.block k hk⟩ (fun _ _ h => h.elim)
theorem Moved.to_below {w w' : World} {S : Nat → Prop} {B : Nat} (h : Moved w w' S) (hS : ∀ k,S k → B ≤ k) (hB : B ≤ w.heap.size) : Below B w w' :=
 ⟨h.os,h.tape,h.output,h.size,fun k hk => h.block k (Nat.lt_of_lt_of_le hk hB) (fun hs => by have := hS k hs; omega)⟩
theorem Moved.owns {w w' : World} {S : Nat → Prop} {base size n : Nat} {e : TypeId} {v : Value} {xs : List Value} (h : Moved w w' S) (ho : w.ownsRow base e size v n xs) (hv : ∀ k,v.ownBlock = some k → ¬ S k) : w'.ownsRow base e size v n xs := by
 refine ⟨ho.1, ?_⟩
 rcases ho.2 with h0 | ⟨g,cap,cur,rfl,hb,hg,rest⟩
 ·exact .inl h0
 ·exact .inr ⟨g,cap,cur,rfl,hb,(h.block g (Array.getElem?_eq_some_iff.1 hg).1 (hv g rfl)).trans hg,rest⟩
theorem owns_two {w : World} {b1 b2 s1 s2 n1 n2 : Nat} {e1 e2 : TypeId} {v1 v2 : Value} {xs1 xs2 : List Value} (h1 : w.ownsRow b1 e1 s1 v1 n1 xs1) (h2 : w.ownsRow b2 e2 s2 v2 n2 xs2) (he : e1 ≠ e2) : ∀ k,v1.ownBlock = some k → v2.ownBlock ≠ some k := by
 intro k hk hk2
 rcases h1.2 with ⟨rfl,_⟩ | ⟨g1,_,_,rfl,_,hg1,_⟩
 ·cases hk
 ·rcases h2.2 with ⟨rfl,_⟩ | ⟨g2,_,_,rfl,_,hg2,_⟩
  ·cases hk2
  ·have e1' : g1 = k := by simpa [Value.ownBlock] using hk
   have e2' : g2 = k := by simpa [Value.ownBlock] using hk2
   subst e1' e2'
   rw [hg1] at hg2
   injection hg2 with h
   injection h with _ h
   exact he h
end Go.Proofs.YtgieeeeeiggoeaaGreat
namespace Go.Proofs.YtgieeeeeiggoeaaGreat
open Go.RowKit
theorem wpList_keeps_int {w : World} {ops : Array Oper} {rest : List Oper} {o : Oper} {a : Act} {Q : Exit → Act → World → Prop} (hgd : o.guard = none) (s x : Operand)
  (ho : o.op = .call { callee := .builtin .append,args := #[s,x],argTypes := #[29,29] })
  (base : Nat) (v : Value) (l : List Int) (hs : a.eval s = v) (hown : w.ownsRow base 3 1 v l.length (ints l))
  (g c : Nat) (z : Int) (hx : a.eval x = .slice (some ⟨g,0,none⟩) 1 c) (hnew : w.cell? ⟨g,0,none⟩ = some (.int .i64 z))
  (h63 : l.length ≤ 2000000000) (hbase : base ≤ w.heap.size)
  (h : ∀ g' cap w',w'.ownsRow base 3 1 (.slice (some ⟨g',0,none⟩) (l.length + 1) cap) (l ++ [z]).length (ints (l ++ [z])) → w.grownBy w' v.ownBlock → w'.ownsRow base 3 1 v l.length (ints l) → (v.ownBlock = some g' ∨ g' = w.heap.size) → wpList Tryz.prog ops Q rest (a.put o.dst (.slice (some ⟨g',0,none⟩) (l.length + 1) cap)) w') :
  wpList Tryz.prog ops Q (o :: rest) a w := by
 obtain ⟨i0,hi,hz0,hz1,hz2⟩ := info_parts infoInt
 refine wpList_append_keeps w hgd s x 29 ho base 3 i0 _ 1 8 Tryz.underlying29 hi hz0 hz1 hz2 rfl (by decide) v l.length (ints l) hs hown ⟨g,0,none⟩ 1 c (ints [z]) hx rfl ?_ (ints_one _) (by omega) (by unfold maxLen; omega) (by omega) hbase ?_
 ·intro j u hj
  have hj0 : j = 0 := by
   have := (List.getElem?_eq_some_iff.1 hj).1
   rw [ints_length] at this
   simp at this
   exact this
  subst hj0
  have e : (⟨g,0,none⟩ : Addr).add 0 = ⟨g,0,none⟩ := by unfold Addr.add; simp
  rw [e,hnew]
  simpa [ints] using hj
 ·intro g' cap w' h1 h2 h3 h4
  refine h g' cap w' ?_ h2 h3 h4
  rw [ints_append,List.length_append]
  exact h1
def Fix.nums (f : Fix) : List Int := [f.e.client,f.e.seq,f.e.kind,f.e.key,f.e.value,f.epoch]
def fixNums (l : List Fix) : List Int := l.flatMap Fix.nums
theorem fixNums_append (l m : List Fix) : fixNums (l ++ m) = fixNums l ++ fixNums m := by simp [fixNums]
theorem fixNums_at (l : List Fix) (i j : Nat) (hi : i < l.length) (hj : j < 6) : (fixNums l)[i * 6 + j]? = (l.getD i Fix.zero).nums[j]? := by
 induction l generalizing i with
 | nil => simp at hi
 | cons a t ih =>
  have e : fixNums (a :: t) = a.nums ++ fixNums t := by simp [fixNums]
  have hl : a.nums.length = 6 := rfl
  rw [e]
  cases i with
  | zero =>
   rw [List.getElem?_append_left (by omega)]
   simp
  | succ i =>
   rw [List.getElem?_append_right (by omega),hl,show (i + 1) * 6 + j - 6 = i * 6 + j by omega,ih i (by simpa using hi)]
   simp
theorem fixNums_set (l : List Fix) (i : Nat) (hi : i < l.length) (y : Int) : (fixNums l).set (i * 6 + 5) y = fixNums (l.set i ⟨(l.getD i Fix.zero).e,y⟩) := by
 induction l generalizing i with
 | nil => simp at hi
 | cons a t ih =>
  have e : fixNums (a :: t) = a.nums ++ fixNums t := by simp [fixNums]
  have hl : a.nums.length = 6 := rfl
  rw [e]
  cases i with
  | zero =>
   rw [List.set_append_left _ _ (by omega)]
   simp [fixNums,Fix.nums]
  | succ i =>
   rw [List.set_append_right _ _ (by omega),hl,show (i + 1) * 6 + 5 - 6 = i * 6 + 5 by omega,ih i (by simpa using hi)]
   simp [fixNums]
theorem fixRow_of {w : World} {base g cap : Nat} {fixed : List Fix} (h : w.ownsRow base 176 6 (.slice (some ⟨g,0,none⟩) fixed.length cap) fixed.length (ints (fixNums fixed))) : FixRow w g fixed := by
 intro i hi
 have at_ : ∀ j,j < 6 → ∀ z,(fixed.getD i Fix.zero).nums[j]? = some z → w.cell? ⟨g,i * 6 + j,none⟩ = some (.int .i64 z) := by
  intro j hj z hz
  rw [World.ownsRow.cellAt h (i * 6 + j) (by show i * 6 + j < fixed.length * 6; omega)]
  unfold ints
  rw [List.getElem?_map,fixNums_at _ _ _ hi hj,hz]
  rfl
 exact ⟨at_ 0 (by omega) _ rfl,at_ 1 (by omega) _ rfl,at_ 2 (by omega) _ rfl,at_ 3 (by omega) _ rfl,at_ 4 (by omega) _ rfl,at_ 5 (by omega) _ rfl⟩
theorem infoFix : (Tryz.prog.info? 176).map (fun i => (i.zero,i.size,i.bytes)) = some (some (.agg #[.int .i64 0, .int .i64 0, .int .i64 0, .int .i64 0, .int .i64 0, .int .i64 0]),6,48) := by kernel_rfl
def fixTo (fixed : List Fix) (s : Rep) (k : Nat) : List Fix := ((List.range k).foldl (commit1 s) (fixed,true)).1
theorem fixTo_succ {fixed : List Fix} {s : Rep} {k : Nat} (h : ((List.range k).foldl (commit1 s) (fixed,true)).2 = true) (h' : ((List.range (k + 1)).foldl (commit1 s) (fixed,true)).2 = true) :
  (k < (fixTo fixed s k).length → ((fixTo fixed s k).getD k Fix.zero).e = s.log.getD k Ent.zero ∧ fixTo fixed s (k + 1) = if s.epoch < ((fixTo fixed s k).getD k Fix.zero).epoch then (fixTo fixed s k).set k ⟨((fixTo fixed s k).getD k Fix.zero).e,s.epoch⟩ else fixTo fixed s k) ∧
  (¬ k < (fixTo fixed s k).length → fixTo fixed s (k + 1) = fixTo fixed s k ++ [⟨s.log.getD k Ent.zero,s.epoch⟩] ∧ ∀ f ∈ fixTo fixed s k,isReq (s.log.getD k Ent.zero) f.e = false) := by
 unfold fixTo
 rw [List.range_succ,List.foldl_append,List.foldl_cons,List.foldl_nil] at h' ⊢
 generalize (List.range k).foldl (commit1 s) (fixed,true) = st at *
 obtain ⟨F,ag⟩ := st
 simp only [] at h
 subst h
 unfold commit1 at h' ⊢
 by_cases hlt : k < F.length
 ·simp only [if_pos hlt,Bool.true_and,decide_eq_true_eq] at h' ⊢
  exact ⟨fun _ => ⟨h',trivial⟩,fun q => absurd hlt q⟩
 ·simp only [if_neg hlt,Bool.true_and,Bool.not_eq_true',List.any_eq_false] at h' ⊢
  exact ⟨fun q => absurd q hlt,fun _ => ⟨trivial,fun f hf => by simpa using h' f hf⟩⟩
theorem owns_nek {w : World} {base size n p : Nat} {e T : TypeId} {v : Value} {xs : List Value} {cs : Array Value} (h : w.ownsRow base e size v n xs) (hp : w.heap[p]? = some (.cells cs T)) (he : e ≠ T) : v.ownBlock ≠ some p := by
 intro hk
 rcases h.2 with ⟨rfl,_⟩ | ⟨g,cap,cur,rfl,_,hg,_⟩
 ·cases hk
 ·have e' : g = p := by simpa [Value.ownBlock] using hk
  subst e'
  rw [hp] at hg
  injection hg with hg
  injection hg with _ hg
  exact he hg.symm
theorem set_same {cs : Array Value} {j : Nat} {v : Value} (h : cs[j]? = some v) : cs.setIfInBounds j v = cs := by
 obtain ⟨h3,h4⟩ := Array.getElem?_eq_some_iff.1 h
 apply Array.ext
 ·simp
 ·intro i h5 h6
  rw [Array.getElem_setIfInBounds]
  split
  ·rename_i q; subst q; exact h4.symm
  ·rfl
theorem step_append_fix {w : World} {ops : Array Oper} {o : Oper} {a : Act} {K : Act → World → Prop} {Q : Exit → Act → World → Prop} {E : Prop} (hgd : o.guard = none) (s x : Operand)
  (ho : o.op = .call { callee := .builtin .append,args := #[s,x],argTypes := #[36,36] })
  (base : Nat) (v : Value) (l : List Fix) (hs : a.eval s = v) (hown : w.ownsRow base 176 6 v l.length (ints (fixNums l)))
  (g c : Nat) (z : Fix) (hx : a.eval x = .slice (some ⟨g,0,none⟩) 1 c) (hnew : w.heap[g]? = some (.cells #[.int .i64 z.e.client, .int .i64 z.e.seq, .int .i64 z.e.kind, .int .i64 z.e.key, .int .i64 z.e.value, .int .i64 z.epoch] 176))
  (h63 : l.length ≤ 1000000) (hbase : base ≤ w.heap.size)
  (h : ∀ g' cap w',w'.ownsRow base 176 6 (.slice (some ⟨g',0,none⟩) (l.length + 1) cap) (l ++ [z]).length (ints (fixNums (l ++ [z]))) → w.grownBy w' v.ownBlock → (v.ownBlock = some g' ∨ g' = w.heap.size) → K (a.put o.dst (.slice (some ⟨g',0,none⟩) (l.length + 1) cap)) w') :
  if Region.wanted o (yielded ops a.tmps) = true then Oper.wp Tryz.prog o a w K Q else E := by
 obtain ⟨i0,hi,hz0,hz1,hz2⟩ := info_parts infoFix
 refine step_append_lies w hgd s x 36 ho base 176 i0 _ 6 48 Tryz.underlying36 hi hz0 hz1 hz2 rfl (by decide) v l.length (ints (fixNums l)) hs hown ⟨g,0,none⟩ 1 c (ints z.nums) hx rfl ?_ (ints_one _) (by omega) (by unfold maxLen; omega) (by omega) hbase _ rfl ?_
 ·exact World.news_of_block hnew
 ·intro g' cap w' h1 h2 h3 _
  refine h g' cap w' ?_ h2 h3
  rw [fixNums_append,show fixNums [z] = z.nums by simp [fixNums],ints_append,List.length_append]
  exact h1
theorem cell_lt {w : World} {b o : Nat} {v : Value} (h : w.cell? ⟨b,o,none⟩ = some v) : b < w.heap.size := by
 by_cases hb : b < w.heap.size
 ·exact hb
 ·exfalso
  have : w.heap[b]? = none := Array.getElem?_eq_none (by omega)
  simp [World.cell?,this] at h
theorem set_set (cs : Array Value) (j : Nat) (u v : Value) : (cs.setIfInBounds j u).setIfInBounds j v = cs.setIfInBounds j v := Array.setIfInBounds_setIfInBounds u
theorem Moved.drewN {w w1 : World} {S : Nat → Prop} (h : Moved w w1 S) (n : Nat) : Moved w (w1.drewN n) S := ⟨h.os,h.tape,h.output,h.size,h.block⟩
theorem setCell_same {w : World} {p j : Nat} {cs : Array Value} {T : TypeId} {v : Value} (hp : w.heap[p]? = some (.cells cs T)) (hv : cs[j]? = some v) : w.setCell ⟨p,j,none⟩ v = w := by
 rw [setCell_eq_setRow w p j cs T _ v hp,set_same hv]
 obtain ⟨h1,h2⟩ := Array.getElem?_eq_some_iff.1 hp
 unfold World.setRow
 have : (w.heap.modify p fun x => match x with
   | .cells _ t fr => .cells cs t fr
   | o => o) = w.heap := by
  apply Array.ext
  ·simp
  ·intro i h3 h4
   rw [Array.getElem_modify]
   split
   ·rename_i q
    subst q
    rw [h2]
   ·rfl
 exact congrArg (fun h => { w with heap := h }) this
set_option maxHeartbeats 4000000 in
set_option maxRecDepth 100000 in
theorem commits_any (p : Nat) (cs : Array Value) (vF : Value) (fixed : List Fix) (s : Rep) (vm vl : Value) (w : World) (hp : w.heap[p]? = some (.cells cs 40)) (hsz : cs.size = 14) (h3 : cs[3]? = some vF) (h10 : cs[10]? = some (.bool true))
  (hrow : w.ownsRow 0 176 6 vF fixed.length (ints (fixNums fixed))) (hvl : w.ownsRow 0 42 5 vl s.log.length (ints (entsNums s.log))) (hcl : s.commit ≤ s.log.length) (hlen : s.log.length ≤ 24)
  (hall : ∀ k,k ≤ s.commit → ((List.range k).foldl (commit1 s) (fixed,true)).2 = true) :
  Calls Tryz.prog 55 #[.pointer (some ⟨p,0,none⟩), .agg #[.bool s.up, .int .i64 s.epoch, .int .i64 s.lock, .int .i64 (s.commit : Int),vm,vl]] w fun e w' => e = .returned (.tuple #[]) ∧ ∃ vF',w'.heap[p]? = some (.cells (cs.setIfInBounds 3 vF') 40) ∧
   w'.ownsRow 0 176 6 vF' (fixTo fixed s s.commit).length (ints (fixNums (fixTo fixed s s.commit))) ∧ Moved w w' (fun k => k = p ∨ vF.ownBlock = some k) ∧ (∀ k,vF'.ownBlock = some k → vF.ownBlock = some k ∨ w.heap.size ≤ k) := by
 have hps := (Array.getElem?_eq_some_iff.1 hp).1
 obtain ⟨al,cl,rfl⟩ := owns_shape hvl
 obtain ⟨W,hW,hb0,hszW,q,fz⟩ := boxed w #[.bool s.up, .int .i64 s.epoch, .int .i64 s.lock, .int .i64 (s.commit : Int),vm, .slice al s.log.length cl] 46
 have q1 : W.cell? ⟨w.heap.size,1,none⟩ = some (.int .i64 s.epoch) := q 1
 have q3 : W.cell? ⟨w.heap.size,3,none⟩ = some (.int .i64 (s.commit : Int)) := q 3
 have q5 : W.cell? ⟨w.heap.size,5,none⟩ = some (.slice al s.log.length cl) := q 5
 have hpW : W.heap[p]? = some (.cells cs 40) := (hb0.block p hps).trans hp
 have hrW := owns_kept hrow fun k _ hk => hb0.block k hk
 have hlW := owns_kept hvl fun k _ hk => hb0.block k hk
 have HA := hideA hall
 have hvF : ∀ k,vF.ownBlock = some k → k < w.heap.size := fun k hk => (hrow.lt k hk).2
 have HQ : Hid (W.cell? ⟨w.heap.size,1,none⟩ = some (.int .i64 s.epoch) ∧ W.cell? ⟨w.heap.size,3,none⟩ = some (.int .i64 (s.commit : Int)) ∧ W.cell? ⟨w.heap.size,5,none⟩ = some (.slice al s.log.length cl)) := ⟨q1,q3,q5⟩
 clear hall hp hrow hvl q fz q1 q3 q5
 go_enter Tryz.func55,Tryz.ntmps55
 go_wp2_with fail
 clear hW
 go_loopw [4] (fun i wr => ∃ (k : Nat) (v : Value),k ≤ s.commit ∧ i = .int .i64 k ∧ wr.heap[p]? = some (.cells (cs.setIfInBounds 3 v) 40) ∧ wr.ownsRow 0 176 6 v (fixTo fixed s k).length (ints (fixNums (fixTo fixed s k))) ∧
   Moved W wr (fun k => k = p ∨ vF.ownBlock = some k) ∧ (∀ k,v.ownBlock = some k → vF.ownBlock = some k ∨ W.heap.size ≤ k)) (fun i _ => s.commit - (intOf i).toNat)
 case atStart =>
  exact ⟨0,vF,Nat.zero_le _,rfl,by rw [set_same h3]; exact hpW,hrW,Moved.refl _ _,fun k hk => .inl hk⟩
 case round =>
  obtain ⟨k,v,hk,rfl,hpr,hrr,hmv,hnew⟩ := hrel
  have hbox : wr.heap[w.heap.size]? = W.heap[w.heap.size]? := hmv.block _ (by omega) (by rintro (e | e); omega; have := hvF _ e; omega)
  have hq : ∀ j u,W.cell? ⟨w.heap.size,j,none⟩ = some u → wr.cell? ⟨w.heap.size,j,none⟩ = some u := fun j u h => (World.cell?_of_block (a := ⟨w.heap.size,j,none⟩) hbox).trans h
  have q1 := hq _ _ HQ.out.1
  have q3 := hq _ _ HQ.out.2.1
  have q5 := hq _ _ HQ.out.2.2
  have cF : wr.cell? ⟨p,3,none⟩ = some v := by rw [Joins.cell_of_block hpr 3]; simp [hsz]
  have cA : wr.cell? ⟨p,10,none⟩ = some (.bool true) := by rw [Joins.cell_of_block hpr 10]; simpa using h10
  have fA : wr.frozen? ⟨p,10,none⟩ = false := Joins.unfrozen_of_block hpr 10
  have fF : wr.frozen? ⟨p,3,none⟩ = false := Joins.unfrozen_of_block hpr 3
  have hlr : wr.ownsRow 0 42 5 (.slice al s.log.length cl) s.log.length (ints (entsNums s.log)) := hmv.owns hlW (by
   rintro j hj (e | e)
   ·subst e; exact owns_nek hlW hpW (by decide) hj
   ·exact owns_two hlW hrW (by decide) j hj e)
  clear hq
  by_cases hlt : k < s.commit
  ·have hF := fixTo_succ (HA.out k hk) (HA.out (k + 1) (by omega))
   obtain ⟨a2,cc2,ev2,hlg⟩ := LogAt.of_owns hlr
   cases ev2
   obtain ⟨b2,o2,rfl,l0,l1,l2,l3,l4⟩ := hlg k (by omega)
   clear hlg
   have hk2 : (k : Int) < (s.log.length : Int) := by omega
   have hk1 : (k : Int) < (s.commit : Int) := by omega
   obtain ⟨av,cv,rfl⟩ := owns_shape hrr
   by_cases hkF : k < (fixTo fixed s k).length
   ·obtain ⟨hF1,hF2⟩ := hF.1 hkF
    obtain ⟨g,cap,hvv,hg1,hg2⟩ := hrr.form (by omega)
    cases hvv
    obtain ⟨c0,c1,c2,c3,c4,c5⟩ := fixRow_of hrr k hkF
    have hk3 : (k : Int) < ((fixTo fixed s k).length : Int) := by omega
    rw [← hF1] at l0 l1 l2 l3 l4
    have hns := hideA (fixNums_set (fixTo fixed s k) k hkF s.epoch)
    generalize ((fixTo fixed s k).getD k Fix.zero).e = x at *
    generalize ((fixTo fixed s k).getD k Fix.zero).epoch = y at *
    have HF2 := hideA hF2
    clear hF hF1 hF2
    have hst := setCell_same hpr (j := 10) (v := .bool true) (by simpa using h10)
    by_cases hy : s.epoch < y
    ·have hst5 := hrr.stored (k * 6 + 5) (.int .i64 s.epoch)
     have f5 := hrr.frozenAt (k * 6 + 5)
     have Hst5 := hideA hst5
     clear hst5
     go_wp2_with fail
     go_region
     go_wp2_with fail
     go_quiet (fail)
     go_wp2_with fail
     go_region
     go_wp2_with fail
     have hgp : p ≠ g := fun e => owns_nek hrr hpr (by decide) (by rw [e]; rfl)
     refine ⟨⟨k + 1, .slice (some ⟨g,0,none⟩) (fixTo fixed s k).length cv,by omega,by go_num, ?_, ?_, ?_,hnew⟩,by simp [intOf]; omega⟩
     ·exact (Below.heap_setCell _ _ _ p hgp).trans hpr
     ·rw [HF2.out,if_pos hy,List.length_set, ← hns.out, ← ints_set]
      exact Hst5.out.1
     ·exact (hmv.grown (row := some g) Hst5.out.2 (fun j hj e => .inr ((hnew j e).resolve_right (by omega)))).drewN _
    ·have hyd : decide (s.epoch < y) = false := decide_eq_false hy
     go_wp2_with fail
     go_region
     go_wp2_with fail
     go_quiet (fail)
     go_wp2_with fail
     exact ⟨⟨k + 1, .slice (some ⟨g,0,none⟩) (fixTo fixed s k).length cv,by omega,by go_num,hpr,by rw [HF2.out,if_neg (by omega)]; exact hrr,hmv.drewN _,hnew⟩,by simp [intOf]; omega⟩
   ·obtain ⟨hF1,hF2⟩ := hF.2 hkF
    have HF1 := hideA hF1
    have HF2 := hideA hF2
    have hkn : ¬ (k : Int) < ((fixTo fixed s k).length : Int) := by omega
    have hFl : (fixTo fixed s k).length ≤ 24 := by omega
    have Hl : Hid (wr.cell? ⟨b2,o2 + k * 5,none⟩ = some (.int .i64 (s.log.getD k Ent.zero).client) ∧ wr.cell? ⟨b2,o2 + k * 5 + 1,none⟩ = some (.int .i64 (s.log.getD k Ent.zero).seq)) := ⟨l0,l1⟩
    generalize s.log.getD k Ent.zero = z at *
    clear hF hF1 hF2
    go_wp2_with fail
    go_loopw [5] (fun j w2 => ∃ m d : Nat,m ≤ (fixTo fixed s k).length ∧ j = .int .i64 m ∧ w2 = wr.drewN d) (fun j _ => (fixTo fixed s k).length - (intOf j).toNat)
    case atStart => exact ⟨0,0,Nat.zero_le _,rfl,rfl⟩
    case round =>
     obtain ⟨m,d,hm,rfl,rfl⟩ := hrel
     by_cases hlm : m < (fixTo fixed s k).length
     ·obtain ⟨g,cap,hvv,hg1,hg2⟩ := hrr.form (by omega)
      cases hvv
      obtain ⟨c0,c1, -, -, -, -⟩ := fixRow_of hrr m hlm
      have hm1 : (m : Int) < ((fixTo fixed s k).length : Int) := by omega
      have hno := HF2.out ((fixTo fixed s k).getD m Fix.zero) (by rw [List.getD,List.getElem?_eq_getElem hlm]; exact List.getElem_mem hlm)
      generalize ((fixTo fixed s k).getD m Fix.zero).e = x at *
      unfold isReq at hno
      by_cases hcl : x.client = z.client
      ·have hse : (x.seq == z.seq) = false := by
        rw [decide_eq_true hcl,Bool.true_and,decide_eq_false_iff_not] at hno
        simpa using hno
       clear hno
       rw [hcl] at c0
       go_wp2_with fail
       go_quiet (fail)
       go_wp2_with fail
       exact ⟨⟨m + 1,_,by omega,by go_num,rfl⟩,by simp [intOf]; omega⟩
      ·have hce : (x.client == z.client) = false := by simpa using hcl
       clear hno
       go_wp2_with fail
       go_quiet (fail)
       go_wp2_with fail
       exact ⟨⟨m + 1,_,by omega,by go_num,rfl⟩,by simp [intOf]; omega⟩
     ·have hmn : ¬ (m : Int) < ((fixTo fixed s k).length : Int) := by omega
      have hpl : p < wr.heap.size := (Array.getElem?_eq_some_iff.1 hpr).1
      have hwl : w.heap.size < wr.heap.size := by have := hmv.size; omega
      have hbl : b2 < wr.heap.size := cell_lt l0
      have inA : ∀ {b o : Nat} {u : Value},b < wr.heap.size → wr.cell? ⟨b,o,none⟩ = some u → ∀ (n : Nat) (x : Obj),((wr.drewN n).alloc x).cell? ⟨b,o,none⟩ = some u := fun {b o u} hb hc n x => (World.cell?_of_block (a := ⟨b,o,none⟩) (Below.heap_alloc (wr.drewN n) x b hb)).trans hc
      have aF := inA hpl cF
      have a1 := inA hwl q1
      have a5 := inA hwl q5
      have g0 := inA hbl l0
      have g1 := inA hbl l1
      have g2 := inA hbl l2
      have g3 := inA hbl l3
      have g4 := inA hbl l4
      clear inA
      go_wp2_with fail
      go_region_law (first | (refine step_append_fix (by rfl) _ _ (by rfl) 0 (.slice av (fixTo fixed s k).length cv) (fixTo fixed s k) (by rfl) (by exact hrr.alloc _) wr.heap.size 1 ⟨z,s.epoch⟩ (by rfl) (by exact heap_new _ _) (by omega) (by simp) ?_; intro g' cap' w1 ho1 hg1 hlie; have hp1 : w1.heap[p]? = some (.cells (cs.setIfInBounds 3 (.slice av (fixTo fixed s k).length cv)) 40) := (hg1.block p (by simp; omega) (fun e => owns_nek hrr hpr (by decide) e.symm)).trans ((Below.heap_alloc _ _ p hpl).trans hpr); have cF' : w1.cell? ⟨p,3,none⟩ = some (.slice av (fixTo fixed s k).length cv) := (by rw [Joins.cell_of_block hp1 3]; simp [hsz]); have fF' : w1.frozen? ⟨p,3,none⟩ = false := Joins.unfrozen_of_block hp1 3))
      all_goals
       go_wp2_with fail
       refine ⟨⟨k + 1, .slice (some ⟨g',0,none⟩) ((fixTo fixed s k).length + 1) cap',by omega,by go_num, ?_, ?_, ?_, ?_⟩,by simp [intOf]; omega⟩
       ·exact (Joins.block_setCell (i := 3) hp1 _).trans (by rw [set_set])
       ·rw [HF1.out]
        exact ((Moved.refl w1 (fun j => j = p)).setCell ⟨p,3,none⟩ rfl _).owns ho1 (fun j hj e => owns_nek ho1 hp1 (by decide) (e ▸ hj))
       ·exact (((hmv.drewN _).alloc _).grown hg1 (fun j hj e => .inr ((hnew j e).resolve_right (by omega)))).setCell _ (.inl rfl) _
       ·intro j hj
        have hgj : g' = j := by simpa [Value.ownBlock] using hj
        have hms := hmv.size
        rcases hlie with e | e
        ·exact hnew j (by rw [← hgj]; exact e)
        ·right
         rw [← hgj,e]
         simp
         omega
  ·go_wp2_with fail
   go_end0
   obtain rfl : k = s.commit := by omega
   exact ⟨rfl,v,hpr,hrr,(((Moved.refl w _).below hb0).trans hmv (fun _ _ h => h)),fun j hj => (hnew j hj).imp id (fun h => by omega)⟩
end Go.Proofs.YtgieeeeeiggoeaaGreat
