import Derived.Test.YtgieeeeeiggoeaaGreatQ19
import Derived.Test.YtgieeeeeiggoeaaGreatQ17
import Derived.Shelf.RegionOpenPlain
import Derived.Deep.RegionLaw
import Derived.Lib.SliceRun
import Derived.Test.YtgieeeeeiggoeaaGreatQ32
namespace Go.Proofs.YtgieeeeeiggoeaaGreat
open Go.RowKit Go.Shelf
theorem heap_setCells (g : Nat) (T : TypeId) : ∀ (vs : List Value) (o : Nat) (w : World) (cs : Array Value),w.heap[g]? = some (.cells cs T) → o + vs.length ≤ cs.size →
  ∃ cs',(w.setCells g o vs).heap[g]? = some (.cells cs' T) ∧ cs'.toList = cs.toList.take o ++ vs ++ cs.toList.drop (o + vs.length)
 | [],o,w,cs,h,_ => ⟨cs,h,by simp⟩
 | v :: r,o,w,cs,h,hl => by
  simp only [List.length_cons] at hl
  have h1 := heap_setCell_same w g o cs T v h
  obtain ⟨cs',h2,h3⟩ := heap_setCells g T r (o + 1) _ _ h1 (by simp; omega)
  refine ⟨cs',h2, ?_⟩
  rw [h3]
  have e : (cs.setIfInBounds o v).toList = cs.toList.set o v := by simp
  rw [e,List.take_set,List.drop_set]
  have ho : o < cs.toList.length := by simp; omega
  rw [if_pos (by omega)]
  rw [List.take_succ_eq_append_getElem ho,List.set_append_right _ _ (by simp; omega)]
  simp
  rw [show min o cs.size = o by simp at ho; omega,Nat.sub_self]
  simp
  congr 1
  omega
theorem moved_setCells (g : Nat) : ∀ (vs : List Value) (o : Nat) (w : World),(w.setCells g o vs).os = w.os ∧ (w.setCells g o vs).tape = w.tape ∧ (w.setCells g o vs).output = w.output ∧ (w.setCells g o vs).heap.size = w.heap.size ∧ ∀ k,k ≠ g → (w.setCells g o vs).heap[k]? = w.heap[k]?
 | [],_,_ => ⟨rfl,rfl,rfl,rfl,fun _ _ => rfl⟩
 | v :: r,o,w => by
  obtain ⟨a,b,c,d,e⟩ := moved_setCells g r (o + 1) (w.setCell ⟨g,o,none⟩ v)
  exact ⟨a,b,c,by rw [World.setCells,d]; simp,fun k hk => (e k hk).trans (Below.heap_setCell _ _ _ k hk)⟩
structure OneTurned (w w' : World) (g : Nat) : Prop where
 os : w'.os = w.os
 tape : w'.tape = w.tape
 output : w'.output = w.output
 size : w'.heap.size = w.heap.size
 block : ∀ k,k ≠ g → w'.heap[k]? = w.heap[k]?
theorem eraseIdx_parts {α : Type} (l : List α) (i : Nat) : l.eraseIdx i = l.take i ++ l.drop (i + 1) := List.eraseIdx_eq_take_drop_succ l i
set_option maxRecDepth 1000000 in
set_option maxHeartbeats 4000000 in
theorem delete_ints (base g n cap i : Nat) (xs : List Value) (w : World) (hown : w.ownsRow base 3 1 (.slice (some ⟨g,0,none⟩) n cap) n xs) (h1 : ∀ u ∈ xs,u.oneCell' = true) (hin : i < n) :
  Calls Tryz.prog 242 #[.slice (some ⟨g,0,none⟩) n cap, .int .i64 (i : Int), .int .i64 ((i : Int) + 1)] w fun e w' => e = .returned (.slice (some ⟨g,0,none⟩) (n - 1) cap) ∧
   w'.ownsRow base 3 1 (.slice (some ⟨g,0,none⟩) (n - 1) cap) (n - 1) (xs.eraseIdx i) ∧ OneTurned w w' g := by
 obtain ⟨hxl,hrow⟩ := hown
 rcases hrow with ⟨h0,_⟩ | ⟨g',cap',cur,hv,hb,hg,hnc,hcm,hcs,htk⟩
 ·cases h0
 cases hv
 rw [Nat.mul_one] at hxl hcs htk
 have hcell : ∀ j,j < cap → w.cell? ⟨g,j,none⟩ = cur[j]? := fun j _ => cell_of_heap hg j
 have hfro : ∀ j,w.frozen? ⟨g,j,none⟩ = false := fun j => frozen_of_heap hg j
 have hgl : ∀ j,j < n → cur[j]? = xs[j]? := by
  intro j hj
  rw [← htk,List.getElem?_take_of_lt hj,Array.getElem?_toList]
 obtain ⟨i0,hi0,hz0,hz1,hz2⟩ := info_parts infoInt
 obtain ⟨news,hnews⟩ : ∃ news,news = xs.drop (i + 1) := ⟨_,rfl⟩
 have hlen : news.length = n - (i + 1) := by rw [hnews]; simp; omega
 obtain ⟨A,hA,hsrc⟩ : ∃ A : Addr,(if cap = i + 1 then some (⟨g,0,none⟩ : Addr) else some ⟨g,i + 1,none⟩) = some A ∧ Hid (∀ t u,news[t]? = some u → w.drew.cell? (A.add t) = some u) := by
  by_cases h : cap = i + 1
  ·refine ⟨⟨g,0,none⟩,by simp [h],fun t u hu => ?_⟩
   have h0 : news.length = 0 := by rw [hlen]; omega
   rw [List.length_eq_zero_iff.1 h0] at hu
   simp at hu
  ·refine ⟨⟨g,i + 1,none⟩,by simp [h],fun t u hu => ?_⟩
   have ht : t < n - (i + 1) := by
    have := (List.getElem?_eq_some_iff.1 hu).1
    rwa [hlen] at this
   rw [Addr.add_lit]
   show w.cell? _ = _
   rw [hcell _ (by omega),hgl _ (by omega)]
   rw [hnews,List.getElem?_drop] at hu
   exact hu
 have s1 : Hid (news.length = (n - (i + 1)) * 1) := by rw [Nat.mul_one]; exact hlen
 have s2 : Hid (∀ u ∈ news,u.oneCell' = true) := by
  intro u hu
  rw [hnews] at hu
  exact h1 u (List.mem_of_mem_drop hu)
 have s3 : Hid (∀ t,t < news.length → (w.drew.cell? ⟨g,0 + i * 1 + t,none⟩).isSome = true ∧ w.drew.frozen? ⟨g,0 + i * 1 + t,none⟩ = false) := by
  intro t ht
  rw [hlen] at ht
  refine ⟨?_,hfro _⟩
  show (w.cell? _).isSome = true
  rw [hcell _ (by omega),Array.getElem?_eq_getElem (by omega)]
  rfl
 obtain ⟨W1,hW1⟩ : ∃ W1,W1 = w.drew.setCells g (0 + i * 1) news := ⟨_,rfl⟩
 have hgd : w.drew.heap[g]? = some (.cells cur 3) := hg
 obtain ⟨cs1,hc1,hl1⟩ := heap_setCells g 3 news (0 + i * 1) w.drew cur hgd (by omega)
 rw [← hW1] at hc1
 have hs1 : cs1.size = cap := by
  rw [← Array.length_toList,hl1]
  simp only [List.length_append,List.length_take,List.length_drop,Array.length_toList]
  omega
 have hcl : ∀ ty,(Builtin.clear_ #[29] ty #[.slice (some ⟨g,i + (n - (i + 1)),none⟩) (n - (i + (n - (i + 1)))) (cap - (i + (n - (i + 1))))]).run Tryz.prog W1 = .ok (.tuple #[]) (W1.setCells g (i + (n - (i + 1))) (List.replicate (n - (i + (n - (i + 1)))) (.int .i64 0))) :=
  fun ty => Lib.run_clear_slice W1 _ _ ty _ Tryz.underlying29 (fun _ => by kernel_rfl) rfl rfl g _ _ _ (by omega) (fun t ht => by rw [cell_of_heap hc1,Array.getElem?_eq_getElem (by omega)]; rfl) (fun t ht => frozen_of_heap hc1 _)
 obtain ⟨cs2,hc2,hl2⟩ := heap_setCells g 3 (List.replicate (n - (i + (n - (i + 1)))) ((.int .i64 0) : Value)) (i + (n - (i + 1))) W1 cs1 hc1 (by simp; omega)
 have HF : Hid ((W1.setCells g (i + (n - (i + 1))) (List.replicate (n - (i + (n - (i + 1)))) (.int .i64 0))).ownsRow base 3 1 (.slice (some ⟨g,0,none⟩) (n - 1) cap) (n - 1) (xs.eraseIdx i) ∧ OneTurned w (W1.setCells g (i + (n - (i + 1))) (List.replicate (n - (i + (n - (i + 1)))) (.int .i64 0))) g) := hideA (by
  refine ⟨⟨?_, .inr ⟨g,cap,cs2,rfl,hb,hc2,by omega,hcm, ?_, ?_⟩⟩, ?_⟩
  ·rw [List.length_eraseIdx]; split <;> omega
  ·rw [← Array.length_toList,hl2]
   simp only [List.length_append,List.length_take,List.length_drop,Array.length_toList,List.length_replicate]
   omega
  ·rw [hl2,Nat.mul_one,List.append_assoc,List.take_append_of_le_length (by simp; omega),List.take_take,Nat.min_eq_left (by omega),hl1,List.append_assoc,eraseIdx_parts xs i, ← hnews]
   rw [List.take_append,List.take_take,List.take_append_of_le_length (by simp; omega)]
   rw [List.take_of_length_le (l := news) (by simp; omega)]
   congr 1
   rw [← htk,List.take_take]
   congr 1
   simp
   omega
  ·obtain ⟨a,b,c,d,e⟩ := moved_setCells g news (0 + i * 1) w.drew
   obtain ⟨a2,b2,c2,d2,e2⟩ := moved_setCells g (List.replicate (n - (i + (n - (i + 1)))) ((.int .i64 0) : Value)) (i + (n - (i + 1))) W1
   rw [← hW1] at a b c d e
   exact ⟨a2.trans a,b2.trans b,c2.trans c,d2.trans d,fun k hk => (e2 k hk).trans (e k hk)⟩)
 have hW : Hid (W1 = w.drew.setCells g (0 + i * 1) news) := hW1
 have hic : i ≤ cap := by omega
 have hjc : i + 1 ≤ cap := by omega
 have mixed : Tryz.prog.follows Departure.mixedOrders = true := by kernel_rfl
 have hle1 : (0 : Int) ≤ (i : Int) + 1 := by omega
 have hle2 : (i : Int) + 1 ≤ (n : Int) := by omega
 have hij : ((i : Int) == (i : Int) + 1) = false := by simp; omega
 clear hW1 hc1 hl1 hs1 hc2 hl2 hcell hgl hnews hg hgd htk hcs hxl h1
 go_enter Tryz.func242,Tryz.ntmps242
 go_wp2_with fail
 go_region_law_o (refine step_append_room rfl (.tmp 22) (.tmp 25) 29 rfl 3 i0 1 Tryz.underlying29 hi0 hz1 g 0 i cap (by simp [Act.eval,Act.put]) A (n - (i + 1)) (cap - (i + 1)) news (by simp [Act.eval,Act.put]) s1.out hsrc.out s2.out (by omega) s3.out ?_; rw [← hW.out])
 go_wp2
 go_ret
 refine ⟨?_,HF.out⟩
 rw [show n - 1 = i + (n - (i + 1)) by omega]
 rfl
theorem infoFrame : (Tryz.prog.info? 138).map (fun i => (i.zero,i.size,i.bytes)) = some (some (.agg #[.string ⟨#[]⟩, .bool false]),2,24) := by kernel_rfl
theorem run_clear_one {P : Program} (w : World) (t e ty : TypeId) (z : Value) (vs : List Value) (ht : P.underlying t = some (.slice e)) (hv : ∀ w,(zeroValue e).run P w = .ok z w) (hz : (Builtin.zeroCells z.cells 1).toList = vs) (h1 : ∀ u ∈ vs,u.oneCell' = true) (b o c : Nat)
  (hc : ∀ j,j < vs.length → (w.cell? ⟨b,o + j,none⟩).isSome = true) (hf : ∀ j,j < vs.length → w.frozen? ⟨b,o + j,none⟩ = false) :
  (Builtin.clear_ #[t] ty #[.slice (some ⟨b,o,none⟩) 1 c]).run P w = .ok (.tuple #[]) (w.setCells b o vs) := by
 have hst := run_storeCells_cells (P := P) b o vs 0 w (by simpa using hc) (by simpa using hf) h1
 simp only [Nat.add_zero] at hst
 simp [Builtin.clear_,run_underlying ht,hv,hz,hst]
def dropTwo (xs : List Value) (i : Nat) : List Value := xs.take (i * 2) ++ xs.drop ((i + 1) * 2)
set_option maxRecDepth 1000000 in
set_option maxHeartbeats 4000000 in
theorem delete_frames (base g n cap i : Nat) (xs : List Value) (w : World) (hown : w.ownsRow base 138 2 (.slice (some ⟨g,0,none⟩) n cap) n xs) (h1 : ∀ u ∈ xs,u.oneCell' = true) (hin : i < n) :
  Calls Tryz.prog 119 #[.slice (some ⟨g,0,none⟩) n cap, .int .i64 (i : Int), .int .i64 ((i : Int) + 1)] w fun e w' => e = .returned (.slice (some ⟨g,0,none⟩) (n - 1) cap) ∧
   w'.ownsRow base 138 2 (.slice (some ⟨g,0,none⟩) (n - 1) cap) (n - 1) (dropTwo xs i) ∧ OneTurned w w' g := by
 obtain ⟨hxl,hrow⟩ := hown
 rcases hrow with ⟨h0,_⟩ | ⟨g',cap',cur,hv,hb,hg,hnc,hcm,hcs,htk⟩
 ·cases h0
 cases hv
 have hcell : ∀ j,j < cap * 2 → w.cell? ⟨g,j,none⟩ = cur[j]? := fun j _ => cell_of_heap hg j
 have hfro : ∀ j,w.frozen? ⟨g,j,none⟩ = false := fun j => frozen_of_heap hg j
 have hgl : ∀ j,j < n * 2 → cur[j]? = xs[j]? := by
  intro j hj
  rw [← htk,List.getElem?_take_of_lt hj,Array.getElem?_toList]
 obtain ⟨i0,hi0,hz0,hz1,hz2⟩ := info_parts infoFrame
 obtain ⟨news,hnews⟩ : ∃ news,news = xs.drop ((i + 1) * 2) := ⟨_,rfl⟩
 have hlen : news.length = (n - (i + 1)) * 2 := by rw [hnews]; simp; omega
 obtain ⟨A,hA,hsrc⟩ : ∃ A : Addr,(if cap = i + 1 then some (⟨g,0,none⟩ : Addr) else some ⟨g,(i + 1) * 2,none⟩) = some A ∧ Hid (∀ t u,news[t]? = some u → w.drew.cell? (A.add t) = some u) := by
  by_cases h : cap = i + 1
  ·refine ⟨⟨g,0,none⟩,by simp [h],fun t u hu => ?_⟩
   have h0 : news.length = 0 := by rw [hlen]; omega
   rw [List.length_eq_zero_iff.1 h0] at hu
   simp at hu
  ·refine ⟨⟨g,(i + 1) * 2,none⟩,by simp [h],fun t u hu => ?_⟩
   have ht : t < (n - (i + 1)) * 2 := by
    have := (List.getElem?_eq_some_iff.1 hu).1
    rwa [hlen] at this
   rw [Addr.add_lit]
   show w.cell? _ = _
   rw [hcell _ (by omega),hgl _ (by omega)]
   rw [hnews,List.getElem?_drop] at hu
   exact hu
 have s1 : Hid (news.length = (n - (i + 1)) * 2) := hlen
 have s2 : Hid (∀ u ∈ news,u.oneCell' = true) := by
  intro u hu
  rw [hnews] at hu
  exact h1 u (List.mem_of_mem_drop hu)
 have s3 : Hid (∀ t,t < news.length → (w.drew.cell? ⟨g,0 + i * 2 + t,none⟩).isSome = true ∧ w.drew.frozen? ⟨g,0 + i * 2 + t,none⟩ = false) := by
  intro t ht
  rw [hlen] at ht
  refine ⟨?_,hfro _⟩
  show (w.cell? _).isSome = true
  rw [hcell _ (by omega),Array.getElem?_eq_getElem (by omega)]
  rfl
 obtain ⟨W1,hW1⟩ : ∃ W1,W1 = w.drew.setCells g (0 + i * 2) news := ⟨_,rfl⟩
 have hgd : w.drew.heap[g]? = some (.cells cur 138) := hg
 obtain ⟨cs1,hc1,hl1⟩ := heap_setCells g 138 news (0 + i * 2) w.drew cur hgd (by omega)
 rw [← hW1] at hc1
 have hs1 : cs1.size = cap * 2 := by
  rw [← Array.length_toList,hl1]
  simp only [List.length_append,List.length_take,List.length_drop,Array.length_toList]
  omega
 have hone : n - (i + (n - (i + 1))) = 1 := by omega
 have hcl : ∀ ty,(Builtin.clear_ #[88] ty #[.slice (some ⟨g,(i + (n - (i + 1))) * 2,none⟩) (n - (i + (n - (i + 1)))) (cap - (i + (n - (i + 1))))]).run Tryz.prog W1 = .ok (.tuple #[]) (W1.setCells g ((i + (n - (i + 1))) * 2) [.string ⟨#[]⟩, .bool false]) := by
  rw [hone]
  exact fun ty => run_clear_one W1 _ _ ty (.agg #[.string ⟨#[]⟩, .bool false]) _ Tryz.underlying88 (fun _ => by kernel_rfl) (by first | kernel_rfl | (simp [Builtin.zeroCells,Value.cells]; done) | decide) (by intro u hu; simp at hu; rcases hu with rfl | rfl <;> rfl) g _ _ (fun t ht => by simp at ht; rw [cell_of_heap hc1,Array.getElem?_eq_getElem (by omega)]; rfl) (fun t ht => frozen_of_heap hc1 _)
 obtain ⟨cs2,hc2,hl2⟩ := heap_setCells g 138 [(.string ⟨#[]⟩ : Value), .bool false] ((i + (n - (i + 1))) * 2) W1 cs1 hc1 (by simp; omega)
 have HF : Hid ((W1.setCells g ((i + (n - (i + 1))) * 2) [.string ⟨#[]⟩, .bool false]).ownsRow base 138 2 (.slice (some ⟨g,0,none⟩) (n - 1) cap) (n - 1) (dropTwo xs i) ∧ OneTurned w (W1.setCells g ((i + (n - (i + 1))) * 2) [.string ⟨#[]⟩, .bool false]) g) := hideA (by
  unfold dropTwo
  refine ⟨⟨?_, .inr ⟨g,cap,cs2,rfl,hb,hc2,by omega,hcm, ?_, ?_⟩⟩, ?_⟩
  ·rw [List.length_append,List.length_take,List.length_drop]; omega
  ·rw [← Array.length_toList,hl2]
   simp only [List.length_append,List.length_take,List.length_drop,Array.length_toList,List.length_cons,List.length_nil]
   omega
  ·rw [hl2,List.append_assoc,List.take_append_of_le_length (by simp; omega),List.take_take,Nat.min_eq_left (by omega),hl1,List.append_assoc, ← hnews]
   rw [List.take_append,List.take_take,List.take_append_of_le_length (by simp; omega)]
   rw [List.take_of_length_le (l := news) (by simp; omega)]
   congr 1
   rw [← htk,List.take_take]
   congr 1
   simp
   omega
  ·obtain ⟨a,b,c,d,e⟩ := moved_setCells g news (0 + i * 2) w.drew
   obtain ⟨a2,b2,c2,d2,e2⟩ := moved_setCells g [(.string ⟨#[]⟩ : Value), .bool false] ((i + (n - (i + 1))) * 2) W1
   rw [← hW1] at a b c d e
   exact ⟨a2.trans a,b2.trans b,c2.trans c,d2.trans d,fun k hk => (e2 k hk).trans (e k hk)⟩)
 have hW : Hid (W1 = w.drew.setCells g (0 + i * 2) news) := hW1
 have hic : i ≤ cap := by omega
 have hjc : i + 1 ≤ cap := by omega
 have mixed : Tryz.prog.follows Departure.mixedOrders = true := by kernel_rfl
 have hle1 : (0 : Int) ≤ (i : Int) + 1 := by omega
 have hle2 : (i : Int) + 1 ≤ (n : Int) := by omega
 have hij : ((i : Int) == (i : Int) + 1) = false := by simp; omega
 clear hW1 hc1 hl1 hs1 hc2 hl2 hcell hgl hnews hg hgd htk hcs hxl h1 hone
 go_enter Tryz.func119,Tryz.ntmps119
 go_wp2_with fail
 go_region_law_o (refine step_append_room rfl (.tmp 22) (.tmp 25) 88 rfl 138 i0 2 Tryz.underlying88 hi0 hz1 g 0 i cap (by simp [Act.eval,Act.put]) A (n - (i + 1)) (cap - (i + 1)) news (by simp [Act.eval,Act.put]) s1.out hsrc.out s2.out (by omega) s3.out ?_; rw [← hW.out])
 go_wp2
 go_ret
 refine ⟨?_,HF.out⟩
 rw [show n - 1 = i + (n - (i + 1)) by omega]
 rfl
theorem MasAt.below {w w' : World} {F : Nat → Prop} {b : Nat} {own : Int} {p : PMas} (h : MasAt w F b own p) (hb : Below w.heap.size w w') : MasAt w' F b own p := by
 obtain ⟨vw,vo,vm,vl,h⟩ := h
 exact ⟨vw,vo,vm,vl,h.below hb⟩
theorem MasOut.still {w w' : World} {F : Nat → Prop} {b : Nat} {own : Int} {p : PMas} (h : MasAt w F b own p) (hb : Below w.heap.size w w') : MasOut w w' F b own (.returned (.slice none 0 0)) (p, []) :=
 ⟨_,F,rfl,h.below hb,(Moved.refl w F).below hb,fun _ h => .inl h,MsgsOwn.nil _ _⟩
theorem MasOut.of_to {w w' : World} {F : Nat → Prop} {b : Nat} {own : Int} {p : PMas} (h : MasTo w w' F b own p) : MasOut w w' F b own (.returned (.slice none 0 0)) (p, []) := by
 obtain ⟨F',h1,h2,h3⟩ := h
 exact ⟨_,F',rfl,h1,h2,h3,MsgsOwn.nil _ _⟩
theorem below_out {w W w' : World} {F : Nat → Prop} {b : Nat} {own : Int} {e : Ending} {q : PMas × List Msg} (hb : Below w.heap.size w W) (h : MasOut W w' F b own e q) : MasOut w w' F b own e q :=
 MasOut.after ((Moved.refl w F).below hb) (fun _ hk => .inl hk) h
set_option maxRecDepth 100000 in
set_option maxHeartbeats 2000000 in
theorem goOn_any (F : Nat → Prop) (b : Nat) (own : Int) (p : PMas) (w : World) (h : MasAt w F b own p) (ok : MasOK p own) :
  Calls Tryz.prog 245 #[.pointer (some ⟨b,0,none⟩)] w fun e w' => MasOut w w' F b own e (p.goOn own) := by
 have HA := hideA h
 have HT : Hid (∀ W F' p' d va l,MasAt W F' b own p' → MasOK p' own → IntOwn W va l → l.length ≤ 5 → 0 ≤ d ∧ d ≤ 6 → Calls Tryz.prog 70 #[.pointer (some ⟨b,0,none⟩), .int .i64 d,va] W fun e w' => MasOut W w' F' b own e (p'.turnTo own d l)) := hideA fun W F' p' d va l h1 h2 h3 h4 h5 => turnTo_any F' b own p' d va l W h1 h2 h3 h4 h5
 have HC := fun W => hideA (acceptors_any W)
 have HR : Hid (∀ W F' p',MasAt W F' b own p' → Calls Tryz.prog 240 #[.pointer (some ⟨b,0,none⟩)] W fun e w' => (∃ v,e = .returned v) ∧ MasTo W w' F' b own p'.idle) := hideA fun W F' p' h => rest_any F' b own p' W h
 have HK := hideA ok
 have HG : Hid (p.goOn own = if p.doing = 1 then { p with old := [] }.turnTo own 2 p.old else if p.doing = 2 then p.turnTo own 3 [100,101,102] else if p.doing = 3 then p.turnTo own 4 [100,101,102] else if p.doing = 4 then p.turnTo own 5 p.mems else if p.doing = 5 then p.turnTo own 6 [100,101,102] else (p.idle, [])) := hideA rfl
 have hd := ok.d
 clear ok
 obtain ⟨vw,vo,vm,vl,h⟩ := h
 obtain ⟨ao,co,rfl⟩ := owns_shape h.ho
 obtain ⟨am,cm,rfl⟩ := owns_shape h.hm
 have HI := hideA h
 have hbl : b < w.heap.size := h.lt b h.fb
 have c2 := cell_of_heap h.blk 2
 have c5 := cell_of_heap h.blk 5
 have f5 := frozen_of_heap h.blk 5
 have c7 := cell_of_heap h.blk 7
 clear h
 generalize hdd : p.doing = d at *
 have HDD := hideA hdd
 clear hdd
 rcases (by omega : d = 0 ∨ d = 1 ∨ d = 2 ∨ d = 3 ∨ d = 4 ∨ d = 5 ∨ d = 6) with rfl | rfl | rfl | rfl | rfl | rfl | rfl
 ·have HQ : Hid (p.goOn own = (p.idle, [])) := hideA (by rw [HG.out]; rfl)
  clear HG
  go_enter Tryz.func245,Tryz.ntmps245
  go_wp2_with fail
  refine (HR.out _ _ _ HA.out).mono ?_
  rintro e W ⟨⟨v,rfl⟩,hto⟩
  clear c2 c5 f5 c7
  go_wp2_with fail
  go_ret
  rw [HQ.out]
  exact MasOut.of_to hto
 ·have HQ : Hid (p.goOn own = { p with old := [] }.turnTo own 2 p.old) := hideA (by rw [HG.out]; rfl)
  clear HG
  go_enter Tryz.func245,Tryz.ntmps245
  go_wp2_with fail
  have M1 : Moved w (w.setCell ⟨b,5,none⟩ (.slice none 0 0)) (fun k => k = b) := (Moved.refl w (fun k => k = b)).setCell ⟨b,5,none⟩ rfl _
  have B1 := set9_5 (.slice none 0 0) HI.out.blk
  generalize w.setCell ⟨b,5,none⟩ (.slice none 0 0) = W1 at *
  clear c2 c5 f5 c7
  obtain ⟨F1,h1,h2,h3⟩ := HI.out.next M1 { p with old := [] } (.slice none 0 0) (.slice am p.mems.length cm) vl rfl B1 (World.ownsRow_nil _ _ _ _) (HI.out.beside M1 HI.out.hm (by decide)) (HI.out.beside M1 HI.out.hl (by decide)) (fun k e => absurd e no_row) (fun k e => .inl e) (fun k e => .inl e)
  have H1 := hideA (And.intro h1 (And.intro h2 h3))
  clear h1 h2 h3
  refine (HT.out W1 F1 { p with old := [] } 2 _ p.old H1.out.1 ⟨HK.out.w,by simp,HK.out.m,HK.out.l,HK.out.b,HK.out.d,HK.out.n⟩ (HI.out.beside M1 HI.out.ho (by decide)) HK.out.o (by omega)).mono ?_
  intro e Z hO
  obtain ⟨v,F',rfl,r1,r2,r3,r4⟩ := hO
  obtain ⟨a8,c8,rfl⟩ := r4.shape
  have HR := hideA (And.intro r1 (And.intro r2 (And.intro r3 r4)))
  clear r1 r2 r3 r4
  generalize hpl : (({ p with old := [] } : PMas).turnTo own 2 p.old).2.length = pl at *
  go_wp2_with fail
  go_ret
  rw [HQ.out]
  exact MasOut.after H1.out.2.1 H1.out.2.2 ⟨_,F',rfl,HR.out.1,HR.out.2.1,HR.out.2.2.1,HR.out.2.2.2⟩
 ·have HQ : Hid (p.goOn own = p.turnTo own 3 [100,101,102]) := hideA (by rw [HG.out]; rfl)
  clear HG
  go_enter Tryz.func245,Tryz.ntmps245
  go_wp2_with fail
  refine ((HC w).out).mono ?_
  rintro e A ⟨x2,c2',rfl,o4,hbA⟩
  have O4 := hideA (And.intro o4 hbA)
  clear o4 hbA c2 c5 f5 c7
  go_wp2_with fail
  refine (HT.out A F p 3 _ [100,101,102] (HA.out.below O4.out.2) HK.out (owns_base O4.out.1 (Nat.zero_le _)) (by simp) (by omega)).mono ?_
  intro e Z hO
  obtain ⟨v,F',rfl,r1,r2,r3,r4⟩ := hO
  obtain ⟨a8,c8,rfl⟩ := r4.shape
  have HR := hideA (And.intro r1 (And.intro r2 (And.intro r3 r4)))
  clear r1 r2 r3 r4
  generalize hpl : (p.turnTo own 3 [100,101,102]).2.length = pl at *
  go_wp2_with fail
  go_ret
  rw [HQ.out]
  exact below_out O4.out.2 ⟨_,F',rfl,HR.out.1,HR.out.2.1,HR.out.2.2.1,HR.out.2.2.2⟩
 ·have HQ : Hid (p.goOn own = p.turnTo own 4 [100,101,102]) := hideA (by rw [HG.out]; rfl)
  clear HG
  go_enter Tryz.func245,Tryz.ntmps245
  go_wp2_with fail
  refine ((HC w).out).mono ?_
  rintro e A ⟨x2,c2',rfl,o4,hbA⟩
  have O4 := hideA (And.intro o4 hbA)
  clear o4 hbA c2 c5 f5 c7
  go_wp2_with fail
  refine (HT.out A F p 4 _ [100,101,102] (HA.out.below O4.out.2) HK.out (owns_base O4.out.1 (Nat.zero_le _)) (by simp) (by omega)).mono ?_
  intro e Z hO
  obtain ⟨v,F',rfl,r1,r2,r3,r4⟩ := hO
  obtain ⟨a8,c8,rfl⟩ := r4.shape
  have HR := hideA (And.intro r1 (And.intro r2 (And.intro r3 r4)))
  clear r1 r2 r3 r4
  generalize hpl : (p.turnTo own 4 [100,101,102]).2.length = pl at *
  go_wp2_with fail
  go_ret
  rw [HQ.out]
  exact below_out O4.out.2 ⟨_,F',rfl,HR.out.1,HR.out.2.1,HR.out.2.2.1,HR.out.2.2.2⟩
 ·have HQ : Hid (p.goOn own = p.turnTo own 5 p.mems) := hideA (by rw [HG.out]; rfl)
  clear HG
  go_enter Tryz.func245,Tryz.ntmps245
  go_wp2_with fail
  refine (HT.out w F p 5 _ p.mems HA.out HK.out HI.out.hm HK.out.m (by omega)).mono ?_
  intro e Z hO
  obtain ⟨v,F',rfl,r1,r2,r3,r4⟩ := hO
  obtain ⟨a8,c8,rfl⟩ := r4.shape
  have HR := hideA (And.intro r1 (And.intro r2 (And.intro r3 r4)))
  clear r1 r2 r3 r4 c2 c5 f5 c7
  generalize hpl : (p.turnTo own 5 p.mems).2.length = pl at *
  go_wp2_with fail
  go_ret
  rw [HQ.out]
  exact ⟨_,F',rfl,HR.out.1,HR.out.2.1,HR.out.2.2.1,HR.out.2.2.2⟩
 ·have HQ : Hid (p.goOn own = p.turnTo own 6 [100,101,102]) := hideA (by rw [HG.out]; rfl)
  clear HG
  go_enter Tryz.func245,Tryz.ntmps245
  go_wp2_with fail
  refine ((HC w).out).mono ?_
  rintro e A ⟨x2,c2',rfl,o4,hbA⟩
  have O4 := hideA (And.intro o4 hbA)
  clear o4 hbA c2 c5 f5 c7
  go_wp2_with fail
  refine (HT.out A F p 6 _ [100,101,102] (HA.out.below O4.out.2) HK.out (owns_base O4.out.1 (Nat.zero_le _)) (by simp) (by omega)).mono ?_
  intro e Z hO
  obtain ⟨v,F',rfl,r1,r2,r3,r4⟩ := hO
  obtain ⟨a8,c8,rfl⟩ := r4.shape
  have HR := hideA (And.intro r1 (And.intro r2 (And.intro r3 r4)))
  clear r1 r2 r3 r4
  generalize hpl : (p.turnTo own 6 [100,101,102]).2.length = pl at *
  go_wp2_with fail
  go_ret
  rw [HQ.out]
  exact below_out O4.out.2 ⟨_,F',rfl,HR.out.1,HR.out.2.1,HR.out.2.2.1,HR.out.2.2.2⟩
 ·have HQ : Hid (p.goOn own = (p.idle, [])) := hideA (by rw [HG.out]; rfl)
  clear HG
  go_enter Tryz.func245,Tryz.ntmps245
  go_wp2_with fail
  refine (HR.out _ _ _ HA.out).mono ?_
  rintro e W ⟨⟨v,rfl⟩,hto⟩
  clear c2 c5 f5 c7
  go_wp2_with fail
  go_ret
  rw [HQ.out]
  exact MasOut.of_to hto
theorem ints_erase (l : List Int) (i : Nat) : (ints l).eraseIdx i = ints (l.eraseIdx i) := by
 rw [eraseIdx_parts,eraseIdx_parts]
 unfold ints
 simp [List.map_take,List.map_drop]
theorem learn_ok {p : PMas} {own : Int} {m : Msg} (h : MasOK p own) (hm : m.mems.length ≤ 5) (hl : m.log.length ≤ 24) (hx : (p.waits.eraseIdx (p.waits.idxOf m.src)).length ≤ 5) : MasOK ((p.less m.src).learn m) own := by
 unfold PMas.learn PMas.learnRegister PMas.learnVote
 split
 ·split
  ·exact ⟨hx,hm,h.m,h.l,h.b,h.d,h.n⟩
  ·exact ⟨hx,h.o,h.m,h.l,h.b,h.d,h.n⟩
 ·split
  ·exact ⟨hx,h.o,h.m,hl,h.b,h.d,h.n⟩
  ·split
   ·split
    ·exact ⟨hx,h.o,hm,hl,h.b,h.d,h.n⟩
    ·exact ⟨hx,h.o,h.m,h.l,h.b,h.d,h.n⟩
   ·exact ⟨hx,h.o,h.m,h.l,h.b,h.d,h.n⟩
end Go.Proofs.YtgieeeeeiggoeaaGreat
