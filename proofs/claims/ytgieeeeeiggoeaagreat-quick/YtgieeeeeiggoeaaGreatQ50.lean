import Derived.Test.YtgieeeeeiggoeaaGreatQ48
import Derived.Test.YtgieeeeeiggoeaaGreatQ49
import Derived.Test.YtgieeeeeiggoeaaGreatQ14
namespace Go.Proofs.YtgieeeeeiggoeaaGreat
open Go.RowKit Go.Shelf
def Wish.nums (x : Wish) : List Int := [x.e.client,x.e.seq,x.e.kind,x.e.key,x.e.value,x.floor]
def wishNums (l : List Wish) : List Int := l.flatMap Wish.nums
theorem wishNums_at (l : List Wish) (i j : Nat) (x : Wish) (hx : l[i]? = some x) (hj : j < 6) : (wishNums l)[i * 6 + j]? = x.nums[j]? := by
 induction l generalizing i with
 | nil => simp at hx
 | cons a t ih =>
  have e : wishNums (a :: t) = a.nums ++ wishNums t := by simp [wishNums]
  have hl : a.nums.length = 6 := rfl
  rw [e]
  cases i with
  | zero =>
   rw [List.getElem?_append_left (by omega)]
   simp at hx
   subst hx
   simp
  | succ i =>
   rw [List.getElem?_append_right (by omega),hl,show (i + 1) * 6 + j - 6 = i * 6 + j by omega,ih i (by simpa using hx)]
theorem wishAt_of {w : World} {base : Nat} {v : Value} {l : List Wish} (h : w.ownsRow base 78 6 v l.length (ints (wishNums l))) : ∃ a c,v = .slice a l.length c ∧ WishAt w a l := by
 obtain ⟨a,c,rfl⟩ := owns_shape h
 refine ⟨a,c,rfl,fun i x hx => ?_⟩
 have hi := (List.getElem?_eq_some_iff.1 hx).1
 obtain ⟨g,cap,hv,_,_⟩ := h.form (by omega)
 cases hv
 have at_ : ∀ j,j < 6 → ∀ z,x.nums[j]? = some z → w.cell? ⟨g,i * 6 + j,none⟩ = some (.int .i64 z) := by
  intro j hj z hz
  rw [World.ownsRow.cellAt h (i * 6 + j) (by omega)]
  unfold ints
  rw [List.getElem?_map,wishNums_at l i j x hx hj,hz]
  rfl
 exact ⟨g,rfl,at_ 0 (by omega) _ rfl,at_ 1 (by omega) _ rfl,at_ 2 (by omega) _ rfl,at_ 3 (by omega) _ rfl,at_ 4 (by omega) _ rfl,at_ 5 (by omega) _ rfl⟩
abbrev StatV := Rep × Value × Value
def scells (t : StatV) : List Value := [.bool t.1.up, .int .i64 t.1.epoch, .int .i64 t.1.lock, .int .i64 (t.1.commit : Int),t.2.1,t.2.2]
def LastOwn (w : World) (FR : Nat → Prop) (v : Value) (l : List Rep) : Prop :=
 ∃ ws : List StatV,ws.map Prod.fst = l ∧ w.ownsRow 0 46 6 v l.length (ws.flatMap scells) ∧ ∀ t ∈ ws,IntOwn w t.2.1 t.1.mems ∧ LogOwn w t.2.2 t.1.log ∧ (∀ k,t.2.1.ownBlock = some k → FR k) ∧ ∀ k,t.2.2.ownBlock = some k → FR k
def OwnR (p : Nat) (vW vF vL : Value) (FR : Nat → Prop) (k : Nat) : Prop := k = p ∨ vW.ownBlock = some k ∨ vF.ownBlock = some k ∨ vL.ownBlock = some k ∨ FR k
def runCells (r : Run) (x : Nat) (vW vF vL : Value) : Array Value :=
 #[.pointer (some ⟨x,0,none⟩), .int .i64 (r.n : Int),vW,vF,vL, .int .i64 (r.begun0 : Int), .int .i64 (r.begun1 : Int), .int .i64 (r.answers : Int), .int .i64 r.top, .bool r.ok, .bool r.agreed, .bool r.lasts, .bool r.told, .bool r.sealed]
structure RunIn (w : World) (p x : Nat) (FX FR : Nat → Prop) (r : Run) (vW vF vL : Value) : Prop where
 blk : w.heap[p]? = some (.cells (runCells r x vW vF vL) 40)
 clu : CAt w FX x r.x
 hW : w.ownsRow 0 78 6 vW r.wishes.length (ints (wishNums r.wishes))
 hF : w.ownsRow 0 176 6 vF r.fixed.length (ints (fixNums r.fixed))
 hL : LastOwn w FR vL r.last
 off : ∀ k,FX k → ¬ OwnR p vW vF vL FR k
 lt : ∀ k,FR k → k < w.heap.size
def RunAt (w0 w : World) (p x : Nat) (r : Run) : Prop :=
 ∃ FX FR vW vF vL,RunIn w p x FX FR r vW vF vL ∧ (∀ k,FX k ∨ OwnR p vW vF vL FR k → w0.heap.size ≤ k) ∧ Below w0.heap.size w0 w
def KeepB (w w' : World) (p : Nat) (FX FR : Nat → Prop) (vW vF vL : Value) : Prop := ∀ k,k < w.heap.size → ¬ (FX k ∨ OwnR p vW vF vL FR k) → w'.heap[k]? = w.heap[k]?
theorem LastOwn.keep {w w' : World} {FR : Nat → Prop} {v : Value} {l : List Rep} (h : LastOwn w FR v l) (hv : ∀ k,v.ownBlock = some k → w'.heap[k]? = w.heap[k]?) (hk : ∀ k,FR k → w'.heap[k]? = w.heap[k]?) : LastOwn w' FR v l := by
 obtain ⟨ws,h1,h2,h3⟩ := h
 exact ⟨ws,h1,owns_only h2 hv,fun t ht => ⟨owns_only (h3 t ht).1 fun k e => hk k ((h3 t ht).2.2.1 k e),owns_only (h3 t ht).2.1 fun k e => hk k ((h3 t ht).2.2.2 k e),(h3 t ht).2.2.1,(h3 t ht).2.2.2⟩⟩
theorem RunIn.ownLt {w : World} {p x : Nat} {FX FR : Nat → Prop} {r : Run} {vW vF vL : Value} (h : RunIn w p x FX FR r vW vF vL) {k : Nat} (hk : OwnR p vW vF vL FR k) : k < w.heap.size := by
 have key : ∀ {base size n : Nat} {e : TypeId} {v : Value} {xs : List Value},w.ownsRow base e size v n xs → v.ownBlock = some k → k < w.heap.size := fun hr e => (Array.getElem?_eq_some_iff.1 (ownBlock_cells hr e).choose_spec.1).1
 rcases hk with e | e | e | e | e
 ·rw [e]; exact (Array.getElem?_eq_some_iff.1 h.blk).1
 ·exact key h.hW e
 ·exact key h.hF e
 ·obtain ⟨ws,_,h2,_⟩ := h.hL
  exact key h2 e
 ·exact h.lt k e
theorem RunIn.keep {w w' : World} {p x : Nat} {FX FR : Nat → Prop} {r : Run} {vW vF vL : Value} (h : RunIn w p x FX FR r vW vF vL) (hk : ∀ k,FX k ∨ OwnR p vW vF vL FR k → w'.heap[k]? = w.heap[k]?) : RunIn w' p x FX FR r vW vF vL :=
 ⟨(hk p (.inr (.inl rfl))).trans h.blk,cApi.keep h.clu fun k e => hk k (.inl e),owns_only h.hW fun k e => hk k (.inr (.inr (.inl e))),owns_only h.hF fun k e => hk k (.inr (.inr (.inr (.inl e)))),h.hL.keep (fun k e => hk k (.inr (.inr (.inr (.inr (.inl e)))))) (fun k e => hk k (.inr (.inr (.inr (.inr (.inr e)))))),h.off,fun k e => lt_of_keep (h.lt k e) (hk k (.inr (.inr (.inr (.inr (.inr e))))))⟩
theorem RunIn.below {w w' : World} {p x : Nat} {FX FR : Nat → Prop} {r : Run} {vW vF vL : Value} (h : RunIn w p x FX FR r vW vF vL) (hb : Below w.heap.size w w') : RunIn w' p x FX FR r vW vF vL :=
 h.keep fun k hk => hb.block k (hk.elim (fun e => cApi.lt h.clu e) (fun e => h.ownLt e))
theorem RunAt.below {w0 w w' : World} {p x : Nat} {r : Run} (h : RunAt w0 w p x r) (hb : Below w.heap.size w w') : RunAt w0 w' p x r := by
 obtain ⟨FX,FR,vW,vF,vL,h1,h2,h3⟩ := h
 exact ⟨FX,FR,vW,vF,vL,h1.below hb,h2,h3.trans (hb.mono h3.size)⟩
theorem RunIn.after {w w' : World} {p x : Nat} {FX FR : Nat → Prop} {r : Run} {vW vF vL : Value} (h : RunIn w p x FX FR r vW vF vL) (c' : Clu) (ha : CAfter w FX x c' w') :
  ∃ F',RunIn w' p x F' FR { r with x := c' } vW vF vL ∧ Moved w w' FX ∧ ∀ k,F' k → FX k ∨ w.heap.size ≤ k := by
 obtain ⟨F',h1,h2,h3⟩ := ha
 have hO : ∀ k,OwnR p vW vF vL FR k → w'.heap[k]? = w.heap[k]? := fun k hk => h2.block k (h.ownLt hk) (fun e => h.off k e hk)
 refine ⟨F',⟨(hO p (.inl rfl)).trans h.blk,h1,owns_only h.hW fun k e => hO k (.inr (.inl e)),owns_only h.hF fun k e => hO k (.inr (.inr (.inl e))),h.hL.keep (fun k e => hO k (.inr (.inr (.inr (.inl e))))) (fun k e => hO k (.inr (.inr (.inr (.inr e))))),fun k hk hO2 => ?_,fun k e => lt_of_keep (h.lt k e) (hO k (.inr (.inr (.inr (.inr e)))))⟩,h2,h3⟩
 rcases h3 k hk with e | e
 ·exact h.off k e hO2
 ·have := h.ownLt hO2; omega
theorem RunAt.after {w0 w w' : World} {p x : Nat} {FX FR : Nat → Prop} {r : Run} {vW vF vL : Value} (h : RunIn w p x FX FR r vW vF vL) (hn : ∀ k,FX k ∨ OwnR p vW vF vL FR k → w0.heap.size ≤ k) (hb : Below w0.heap.size w0 w) (c' : Clu) (ha : CAfter w FX x c' w') : RunAt w0 w' p x { r with x := c' } := by
 obtain ⟨F',h1,h2,h3⟩ := h.after c' ha
 have hs := hb.size
 refine ⟨F',FR,vW,vF,vL,h1,fun k hk => ?_,hb.trans (h2.to_below (fun k e => hn k (.inl e)) hs)⟩
 rcases hk with e | e
 ·rcases h3 k e with e | e
  ·exact hn k (.inl e)
  ·omega
 ·exact hn k (.inr e)
theorem RunIn.flags {w w' : World} {p x : Nat} {FX FR : Nat → Prop} {r r' : Run} {vW vF vL : Value} (h : RunIn w p x FX FR r vW vF vL) (hb : w'.heap[p]? = some (.cells (runCells r' x vW vF vL) 40)) (hk : ∀ k,k ≠ p → w'.heap[k]? = w.heap[k]?)
  (e1 : r'.x = r.x) (e2 : r'.wishes = r.wishes) (e3 : r'.fixed = r.fixed) (e4 : r'.last = r.last) : RunIn w' p x FX FR r' vW vF vL := by
 have hpx : ¬ FX p := fun e => h.off p e (.inl rfl)
 have hFRp : ∀ {base size n : Nat} {e : TypeId} {v : Value} {xs : List Value},w.ownsRow base e size v n xs → e ≠ 40 → ∀ k,v.ownBlock = some k → k ≠ p := fun hv he k e1 e2 => blk_type h.blk hv he (e2 ▸ e1)
 refine ⟨hb,by rw [e1]; exact cApi.keep h.clu fun k e => hk k (fun e2 => hpx (e2 ▸ e)),by rw [e2]; exact owns_only h.hW fun k e => hk k (hFRp h.hW (by decide) k e),by rw [e3]; exact owns_only h.hF fun k e => hk k (hFRp h.hF (by decide) k e), ?_,h.off, ?_⟩
 ·rw [e4]
  obtain ⟨ws,h1,h2,h3⟩ := h.hL
  exact ⟨ws,h1,owns_only h2 fun k e => hk k (hFRp h2 (by decide) k e),fun t ht => ⟨owns_only (h3 t ht).1 fun k e => hk k (hFRp (h3 t ht).1 (by decide) k e),owns_only (h3 t ht).2.1 fun k e => hk k (hFRp (h3 t ht).2.1 (by decide) k e),(h3 t ht).2.2.1,(h3 t ht).2.2.2⟩⟩
 ·intro k e
  by_cases ek : k = p
  ·rw [ek]; exact (Array.getElem?_eq_some_iff.1 hb).1
  ·exact lt_of_keep (h.lt k e) (hk k ek)
theorem infoStat : (Tryz.prog.info? 46).map (fun i => (i.zero,i.size,i.bytes)) = some (some (.agg #[.bool false, .int .i64 0, .int .i64 0, .int .i64 0, .slice none 0 0, .slice none 0 0]),6,80) := by kernel_rfl
theorem LastOwn.nil (w : World) (FR : Nat → Prop) : LastOwn w FR (.slice none 0 0) [] := ⟨[],rfl,World.ownsRow_nil _ _ _ _,fun t h => by cases h⟩
theorem LastOwn.shape {w : World} {FR : Nat → Prop} {v : Value} {l : List Rep} (h : LastOwn w FR v l) : ∃ a c,v = .slice a l.length c := by
 obtain ⟨ws, -,h2, -⟩ := h
 exact owns_shape h2
theorem LastOwn.at {w : World} {FR : Nat → Prop} {v : Value} {l : List Rep} (h : LastOwn w FR v l) (k : Nat) (s : Rep) (hk : l[k]? = some s) :
  ∃ g cap am cm al cl,v = .slice (some ⟨g,0,none⟩) l.length cap ∧ IntOwn w (.slice am s.mems.length cm) s.mems ∧ LogOwn w (.slice al s.log.length cl) s.log ∧ s.log.length ≤ cl ∧ ∀ t,t < 6 → w.cell? ⟨g,k * 6 + t,none⟩ = (scells (s, .slice am s.mems.length cm, .slice al s.log.length cl))[t]? := by
 obtain ⟨ws,h1,h2,h3⟩ := h
 have hwl : ws.length = l.length := by rw [← h1,List.length_map]
 have hkl := (List.getElem?_eq_some_iff.1 hk).1
 obtain ⟨g,cap,hv, -, -⟩ := h2.form (by omega)
 obtain ⟨t,ht⟩ : ∃ t,ws[k]? = some t := ⟨_,List.getElem?_eq_getElem (by omega)⟩
 have hmem : t ∈ ws := List.mem_of_getElem? ht
 have hts : t.1 = s := by
  have : l[k]? = some t.1 := by rw [← h1,List.getElem?_map,ht]; rfl
  rw [hk] at this
  injection this with this
  exact this.symm
 obtain ⟨s',xm,xl⟩ := t
 simp only at hts
 subst hts
 obtain ⟨i1,i2, -, -⟩ := h3 _ hmem
 obtain ⟨am,cm,e1⟩ := owns_shape i1
 obtain ⟨al,cl,e2,hcl⟩ := own_cap i2
 simp only at e1 e2 i1 i2
 subst e1
 subst e2
 have flat : ∀ (ws : List StatV) (k : Nat) (u : StatV),ws[k]? = some u → ∀ t,t < 6 → (ws.flatMap scells)[k * 6 + t]? = (scells u)[t]? := by
  intro ws
  induction ws with
  | nil => intro k u hu; simp at hu
  | cons a r ih =>
   intro k u hu t ht
   have hl : (scells a).length = 6 := rfl
   rw [List.flatMap_cons]
   cases k with
   | zero =>
    simp at hu
    subst hu
    rw [Nat.zero_mul,Nat.zero_add,List.getElem?_append_left (by omega)]
   | succ k =>
    rw [List.getElem?_append_right (by omega),hl,show (k + 1) * 6 + t - 6 = k * 6 + t by omega]
    exact ih k u (by simpa using hu) t ht
 subst hv
 refine ⟨g,cap,am,cm,al,cl,rfl,i1,i2,hcl,fun t ht2 => ?_⟩
 rw [World.ownsRow.cellAt h2 (k * 6 + t) (by omega)]
 exact flat ws k _ ht t ht2
theorem LastOwn.wider {w : World} {FR FR' : Nat → Prop} {v : Value} {l : List Rep} (h : LastOwn w FR v l) (hF : ∀ k,FR k → FR' k) : LastOwn w FR' v l := by
 obtain ⟨ws,h1,h2,h3⟩ := h
 exact ⟨ws,h1,h2,fun t ht => ⟨(h3 t ht).1,(h3 t ht).2.1,fun k e => hF k ((h3 t ht).2.2.1 k e),fun k e => hF k ((h3 t ht).2.2.2 k e)⟩⟩
theorem LastOwn.moved {w w' : World} {FR : Nat → Prop} {v : Value} {l : List Rep} {S : Nat → Prop} (h : LastOwn w FR v l) (hM : Moved w w' S) (hS : ∀ {base size n : Nat} {e : TypeId} {v : Value} {xs : List Value},w.ownsRow base e size v n xs → e ≠ 40 → e ≠ 176 → ∀ k,v.ownBlock = some k → ¬ S k) : LastOwn w' FR v l := by
 obtain ⟨ws,h1,h2,h3⟩ := h
 exact ⟨ws,h1,hM.owns h2 (hS h2 (by decide) (by decide)),fun t ht => ⟨hM.owns (h3 t ht).1 (hS (h3 t ht).1 (by decide) (by decide)),hM.owns (h3 t ht).2.1 (hS (h3 t ht).2.1 (by decide) (by decide)),(h3 t ht).2.2.1,(h3 t ht).2.2.2⟩⟩
theorem LastOwn.snoc {w W W' : World} {FR : Nat → Prop} {v v' : Value} {l : List Rep} {s : Rep} {vm vl : Value} {ws : List StatV} (e1 : ws.map Prod.fst = l) (e2 : w.ownsRow 0 46 6 v l.length (ws.flatMap scells))
  (e3 : ∀ t ∈ ws,IntOwn w t.2.1 t.1.mems ∧ LogOwn w t.2.2 t.1.log ∧ (∀ k,t.2.1.ownBlock = some k → FR k) ∧ ∀ k,t.2.2.ownBlock = some k → FR k) (hb : Below w.heap.size w W) (h1 : W.ownsRow w.heap.size 3 1 vm s.mems.length (ints s.mems)) (h2 : W.ownsRow w.heap.size 42 5 vl s.log.length (ints (entsNums s.log)))
  (hg : W.grownBy W' v.ownBlock) (hrow : W'.ownsRow 0 46 6 v' (l.length + 1) (ws.flatMap scells ++ scells (s,vm,vl))) :
  LastOwn W' (fun k => FR k ∨ (w.heap.size ≤ k ∧ k < W.heap.size)) v' (l ++ [s]) := by
 have hvW : W.ownsRow 0 46 6 v l.length (ws.flatMap scells) := owns_kept e2 fun k _ hk => hb.block k hk
 have keep : ∀ {base size n : Nat} {e : TypeId} {u : Value} {xs : List Value},W.ownsRow base e size u n xs → e ≠ 46 → W'.ownsRow base e size u n xs := fun hu he => owns_only hu fun k ek => hg.block k (Array.getElem?_eq_some_iff.1 (ownBlock_cells hu ek).choose_spec.1).1 (fun e2 => owns_two hu hvW he k ek e2.symm)
 refine ⟨ws ++ [(s,vm,vl)],by rw [List.map_append,e1]; rfl, ?_, ?_⟩
 ·rw [List.length_append,List.flatMap_append]
  simpa using hrow
 ·intro t ht
  rcases List.mem_append.1 ht with ht | ht
  ·obtain ⟨q1,q2,q3,q4⟩ := e3 t ht
   exact ⟨keep (owns_kept q1 fun k _ hk => hb.block k hk) (by decide),keep (owns_kept q2 fun k _ hk => hb.block k hk) (by decide),fun k e => .inl (q3 k e),fun k e => .inl (q4 k e)⟩
  ·rw [List.mem_singleton] at ht
   subst ht
   exact ⟨keep (owns_base h1 (Nat.zero_le _)) (by decide),keep (owns_base h2 (Nat.zero_le _)) (by decide),fun k e => .inr ⟨(ownBlock_cells h1 e).choose_spec.2,(Array.getElem?_eq_some_iff.1 (ownBlock_cells h1 e).choose_spec.1).1⟩,fun k e => .inr ⟨(ownBlock_cells h2 e).choose_spec.2,(Array.getElem?_eq_some_iff.1 (ownBlock_cells h2 e).choose_spec.1).1⟩⟩
end Go.Proofs.YtgieeeeeiggoeaaGreat
