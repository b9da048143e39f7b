
namespace Go.Proofs.Ytgieeeeeiggoeaa
def crcBit (c : Nat) : Nat := if c % 2 = 1 then (c / 2) ^^^ 3988292384 else c / 2
def crcBits : Nat → Nat → Nat
 | 0, c => c
 | n + 1, c => crcBit (crcBits n c)
def crcByte (c b : Nat) : Nat := crcBits 8 (c ^^^ b)
def crcFrom (c : Nat) (l : List UInt8) : Nat := l.foldl (fun c b => crcByte c b.toNat) c
def crcRaw (l : List UInt8) : Nat := crcFrom 4294967295 l
def crc (l : List UInt8) : Nat := 4294967295 - crcRaw l
def lowByte (n : Nat) : UInt8 := UInt8.ofNat n
def sumOf (l : List UInt8) : List UInt8 := [lowByte (crc l), lowByte (crc l / 256), lowByte (crc l / 65536), lowByte (crc l / 16777216)]
def bs (l : List UInt8) : ByteArray := ⟨l.toArray⟩
theorem bs_size (l : List UInt8) : (bs l).size = l.length := rfl
theorem bs_append (l m : List UInt8) : bs l ++ bs m = bs (l ++ m) := by
 apply ByteArray.ext
 apply Array.toList_inj.1
 simp [bs]
def numBytes (n : Int) : List UInt8 := [lowByte ((n + 1).toNat / 256), lowByte (n + 1).toNat]
def numsBytes (l : List Int) : List UInt8 := l.flatMap numBytes
structure Ent where
 client : Int
 seq : Int
 kind : Int
 key : Int
 value : Int
 deriving DecidableEq
def Ent.nums (e : Ent) : List Int := [e.client, e.seq, e.kind, e.key, e.value]
def Ent.zero : Ent := ⟨0, 0, 0, 0, 0⟩
def entsNums (es : List Ent) : List Int := es.flatMap Ent.nums
theorem entsNums_length (es : List Ent) : (entsNums es).length = 5 * es.length := by
 induction es with
 | nil => rfl
 | cons a l ih =>
  rw [show entsNums (a :: l) = a.nums ++ entsNums l from rfl, List.length_append, ih]
  simp [Ent.nums]; omega
theorem entsNums_append (l m : List Ent) : entsNums (l ++ m) = entsNums l ++ entsNums m := by simp [entsNums]
theorem entsNums_one (e : Ent) : entsNums [e] = e.nums := by simp [entsNums]
def oneB (n : Nat) : List UInt8 := [lowByte n]
def body (k : Int) (hd mem : List Int) (es : List Ent) : List UInt8 :=
 oneB k.toNat ++ (numsBytes hd ++ (oneB mem.length ++ (numsBytes mem ++ (oneB es.length ++ numsBytes (entsNums es)))))
def frame (k : Int) (hd mem : List Int) (es : List Ent) : List UInt8 := body k hd mem es ++ sumOf (body k hd mem es)
def byteAt (t : List UInt8) (i : Nat) : Nat := (t.getD i 0).toNat
def numAt (t : List UInt8) (i : Nat) : Int := 256 * (byteAt t i : Int) + byteAt t (i + 1) - 1
def entAt (t : List UInt8) (p : Nat) : Ent := ⟨numAt t p, numAt t (p + 2), numAt t (p + 4), numAt t (p + 6), numAt t (p + 8)⟩
def numsFrom (t : List UInt8) (p n : Nat) : List Int := (List.range n).map fun i => numAt t (p + 2 * i)
def entsFrom (t : List UInt8) (p n : Nat) : List Ent := (List.range n).map fun i => entAt t (p + 10 * i)
def pKind (t : List UInt8) : Int := byteAt t 0
def pMems (t : List UInt8) : List Int := numsFrom t 16 (byteAt t 15)
def pEnts (t : List UInt8) : List Ent := entsFrom t (17 + 2 * byteAt t 15) (byteAt t (16 + 2 * byteAt t 15))
def measOf (t : List UInt8) : Nat × Nat × Bool :=
 if byteAt t 15 ≤ 5 ∧ 16 + 2 * byteAt t 15 < t.length then
  (byteAt t 15, byteAt t (16 + 2 * byteAt t 15), decide (byteAt t (16 + 2 * byteAt t 15) ≤ 24) && decide (t.length = 17 + 2 * byteAt t 15 + 10 * byteAt t (16 + 2 * byteAt t 15)))
 else (0, 0, false)
def kindOk (k : Int) : Bool := decide (1 ≤ k) && decide (k ≤ 16)
def decOk (T : List UInt8) : Bool := kindOk (byteAt T 0 : Nat) && (measOf T).2.2
structure Dec where
 k : Int
 f : Int
 t : Int
 ep : Int
 ba : Int
 vo : Int
 po : Int
 va : Int
 ms : List Int
 es : List Ent
 err : Int
def Dec.no (e : Int) : Dec := ⟨0, 0, 0, 0, 0, 0, 0, 0, [], [], e⟩
def Dec.yes (T : List UInt8) : Dec := ⟨pKind T, numAt T 1, numAt T 3, numAt T 5, numAt T 7, numAt T 9, numAt T 11, numAt T 13, pMems T, pEnts T, 0⟩
def decOf (L : List UInt8) : Dec :=
 if L.length < 21 then Dec.no 1
 else if L.drop (L.length - 4) ≠ sumOf (L.take (L.length - 4)) then Dec.no 2
 else if decOk (L.take (L.length - 4)) then Dec.yes (L.take (L.length - 4))
 else Dec.no 1
structure Msg where
 kind : Int
 src : Int
 dst : Int
 epoch : Int := 0
 ballot : Int := 0
 vote : Int := 0
 pos : Int := 0
 value : Int := 0
 mems : List Int := []
 log : List Ent := []
 deriving DecidableEq
def Msg.head (m : Msg) : List Int := [m.src, m.dst, m.epoch, m.ballot, m.vote, m.pos, m.value]
def Msg.frame (m : Msg) : List UInt8 := Proofs.Ytgieeeeeiggoeaa.frame m.kind m.head m.mems m.log
def msgOf (L : List UInt8) : Option Msg :=
 if (decOf L).err = 0 then
  some ⟨(decOf L).k, (decOf L).f, (decOf L).t, (decOf L).ep, (decOf L).ba, (decOf L).vo, (decOf L).po, (decOf L).va, (decOf L).ms, (decOf L).es⟩
 else none
def Ent.ok (e : Ent) : Bool :=
 decide (0 ≤ e.client) && decide (e.client ≤ 3) && decide (0 ≤ e.seq) && decide (e.seq ≤ 999) && decide (0 ≤ e.key) && decide (e.key ≤ 15)
  && decide (0 ≤ e.value) && decide (e.value ≤ 999) && (decide (e.kind = 1) || (decide (e.kind = 2) && decide (e.value = 0)))
def lastPut (key : Int) (l : List Ent) : Int := l.foldl (fun v e => if e.kind = 1 ∧ e.key = key then e.value else v) (-1)
def answerAt (log : List Ent) (p : Nat) : Int := lastPut (log.getD p Ent.zero).key (log.take p)
structure Rep where
 up : Bool
 epoch : Int
 lock : Int
 mems : List Int
 log : List Ent
 base : Nat
 commit : Nat
 deriving DecidableEq
structure AVote where
 promise : Int
 ballot : Int
 mems : List Int
 log : List Ent
 deriving DecidableEq
def AVote.none : AVote := ⟨-1, -1, [], []⟩
structure Acc where
 up : Bool
 epoch : Int
 mems : List Int
 votes : Int → AVote
structure Mas where
 up : Bool
 begun : Nat
 does : Nat
 epoch : Int
 ballot : Int
 want : List Int
 old : List Int
 mems : List Int
 log : List Ent
 came : List Msg
 deriving DecidableEq
def Mas.all (s : Mas) : List Int :=
 match s.does with
 | 0 => []
 | 2 => s.old
 | 5 => s.mems
 | _ => [100, 101, 102]
def Mas.cameFrom (s : Mas) (x : Int) : Bool := s.came.any (fun m => decide (m.src = x))
def Mas.still (up : Bool) (begun : Nat) : Mas :=
 {up := up, begun := begun, does := 0, epoch := 0, ballot := 0, want := [], old := [], mems := [], log := [], came := [] }
structure Ans where
 client : Int
 seq : Int
 value : Int
 deriving DecidableEq
structure Clu where
 reps : List Rep
 accs : List Acc
 mass : List Mas
 bag : List (List UInt8 × Bool)
 told : List Ans
def firstInts (n : Nat) : List Int := (List.range n).map Int.ofNat
def Rep.first (n : Nat) : Rep := { up := true, epoch := 0, lock := 0, mems := firstInts n, log := [], base := 0, commit := 0 }
def Acc.first (n : Nat) : Acc := { up := true, epoch := 0, mems := firstInts n, votes := fun _ => AVote.none }
def Clu.first (n : Nat) : Clu :=
 {reps := List.replicate n (Rep.first n), accs := List.replicate 3 (Acc.first n), mass := List.replicate 2 (Mas.still true 0), bag := [], told := [] }
def Clu.isRep (c : Clu) (d : Int) : Prop := 0 ≤ d ∧ d < c.reps.length
def isAcc (d : Int) : Prop := 100 ≤ d ∧ d < 103
def isMas (d : Int) : Prop := 200 ≤ d ∧ d < 202
instance (c : Clu) (d : Int) : Decidable (c.isRep d) := inferInstanceAs (Decidable (_ ∧ _))
instance (d : Int) : Decidable (isAcc d) := inferInstanceAs (Decidable (_ ∧ _))
instance (d : Int) : Decidable (isMas d) := inferInstanceAs (Decidable (_ ∧ _))
def Clu.rep (c : Clu) (d : Int) : Rep := c.reps.getD d.toNat (Rep.first 0)
def Clu.acc (c : Clu) (d : Int) : Acc := c.accs.getD (d - 100).toNat (Acc.first 0)
def Clu.mas (c : Clu) (d : Int) : Mas := c.mass.getD (d - 200).toNat (Mas.still true 0)
def Clu.setRep (c : Clu) (d : Int) (r : Rep) : Clu := { c with reps := c.reps.set d.toNat r }
def Clu.setAcc (c : Clu) (d : Int) (a : Acc) : Clu := { c with accs := c.accs.set (d - 100).toNat a }
def Clu.setMas (c : Clu) (d : Int) (s : Mas) : Clu := { c with mass := c.mass.set (d - 200).toNat s }
def Clu.upOf (c : Clu) (d : Int) : Option Bool :=
 if c.isRep d then some (c.rep d).up else if isAcc d then some (c.acc d).up else if isMas d then some (c.mas d).up else none
def memsOk (l : List Int) (n : Nat) : Bool := l.all (fun x => decide (0 ≤ x) && decide (x < n)) && decide l.Nodup && !l.isEmpty
def Clu.hasFrame (c : Clu) (i : Int) : Prop := 0 ≤ i ∧ i < c.bag.length
instance (c : Clu) (i : Int) : Decidable (c.hasFrame i) := inferInstanceAs (Decidable (_ ∧ _))
structure St where
 R : Int → Rep
 A : Int → Acc
 S : Int → Mas
structure Gh where
 n : Nat
 asked : Ent → Prop
 prop : Int → Int → Option (List Int × List Ent)
 voted : Int → Int → Int → Prop
 promR : Int → Int → Int → Int → Prop
 prepd : Int → Int → Prop
 hist : Int → Int → Option (List Ent)
 seen : Nat
def Gh.cfg (g : Gh) (E : Int) (v : List Int × List Ent) : Prop :=
 (E = 0 ∧ v = (firstInts g.n, [])) ∨ (1 ≤ E ∧ ∃ b a1 a2, a1 ≠ a2 ∧ g.voted a1 E b ∧ g.voted a2 E b ∧ g.prop E b = some v)
def Gh.H (g : Gh) (i e : Int) (l0 : List Ent) : List Ent := (g.hist i e).getD l0
def Gh.com (g : Gh) (e : Int) (c : List Ent) : Prop := ∃ mems l0, g.cfg e (mems, l0) ∧ c = g.H (mems.getLastD 0) e l0
def St.frozen (s : St) (i e : Int) : Prop := e < (s.R i).epoch ∨ (e = (s.R i).epoch ∧ e < (s.R i).lock)
def fresh (g : Gh) (s : St) (E : Int) (log : List Ent) : Prop :=
 ∃ r mems l0, g.cfg (E - 1) (mems, l0) ∧ r ∈ mems ∧ s.frozen r (E - 1) ∧ g.hist r (E - 1) = some log
def onceL (l : List Ent) : Prop := l.Pairwise (fun x y => ¬ (x.client = y.client ∧ x.seq = y.seq))
structure MsgInv (g : Gh) (s : St) (m : Msg) : Prop where
 req : m.kind = 1 → ∃ e, m.log = [e] ∧ g.asked e
 fwd : m.kind = 2 → ∃ l x, ∃ p : Nat, g.hist m.src m.epoch = some l ∧ m.pos = p ∧ l[p]? = some x ∧ m.log = [x]
 ack : m.kind = 3 → ∃ c, g.com m.epoch c ∧ m.pos ≤ c.length
 rep : m.kind = 4 → ∃ e c x, ∃ p : Nat, g.com e c ∧ c[p]? = some x ∧ m.dst = 300 + x.client ∧ m.pos = x.seq ∧ m.value = answerAt c p ∧ p < g.seen
 reg : m.kind = 6 → ∃ l0, g.cfg m.epoch (m.mems, l0)
 sea : m.kind = 7 → 1 ≤ m.epoch
 sed : m.kind = 8 → (s.frozen m.src (m.epoch - 1) ∧ g.hist m.src (m.epoch - 1) = some m.log) ∨ ∃ v, g.cfg m.epoch v
 pre : m.kind = 9 → g.prepd m.epoch m.ballot
 pro : m.kind = 10 → g.promR m.src m.epoch m.ballot m.vote ∧ (0 ≤ m.vote → g.prop m.epoch m.vote = some (m.mems, m.log))
 acc : m.kind = 11 → g.prop m.epoch m.ballot = some (m.mems, m.log)
 acd : m.kind = 12 → g.voted m.src m.epoch m.ballot
 ins : m.kind = 13 → g.cfg m.epoch (m.mems, m.log) ∧ m.dst ∈ m.mems
 wri : m.kind = 15 → ∃ l0, g.cfg m.epoch (m.mems, l0)
def settledBy (g : Gh) (s : St) (E b : Int) : Prop :=
 ∃ a1 a2, a1 ≠ a2 ∧ isAcc a1 ∧ isAcc a2 ∧ 0 ≤ ((s.A a1).votes E).ballot ∧ 0 ≤ ((s.A a2).votes E).ballot ∧ (∀ v, g.promR a1 E b v → 0 ≤ v) ∧ (∀ v, g.promR a2 E b v → 0 ≤ v)
def came (s : St) (b E : Int) (d : Nat) : Prop :=
 ∃ k, isMas k ∧ (∃ g : Nat, b = 2 * (g : Int) + (k - 200) ∧ 1 ≤ g ∧ g ≤ (s.S k).begun) ∧ ((s.S k).does ≠ 0 → (s.S k).ballot = b → d ≤ (s.S k).does ∧ (s.S k).epoch = E)
structure MasInv (g : Gh) (s : St) (k : Int) : Prop where
 does : (s.S k).does ≤ 6
 bal : (s.S k).does ≠ 0 → (s.S k).ballot = 2 * ((s.S k).begun : Int) + (k - 200) ∧ 1 ≤ (s.S k).begun
 want : (s.S k).does ≠ 0 → memsOk (s.S k).want g.n = true
 cameI : ∀ m ∈ (s.S k).came, MsgInv g s m ∧ m.kind = 4 + 2 * ((s.S k).does : Int) ∧ m.src ∈ (s.S k).all ∧ ((s.S k).does ≠ 1 → m.epoch = (s.S k).epoch) ∧ ((s.S k).does < 5 → m.ballot = (s.S k).ballot)
 old : 2 ≤ (s.S k).does → 1 ≤ (s.S k).epoch ∧ ∃ l0, g.cfg ((s.S k).epoch - 1) ((s.S k).old, l0)
 prep : 3 ≤ (s.S k).does → g.prepd (s.S k).epoch (s.S k).ballot
 logs : (s.S k).does = 3 → fresh g s (s.S k).epoch (s.S k).log ∨ settledBy g s (s.S k).epoch (s.S k).ballot
 prop : 4 ≤ (s.S k).does → g.prop (s.S k).epoch (s.S k).ballot = some ((s.S k).mems, (s.S k).log)
 cfg : 5 ≤ (s.S k).does → g.cfg (s.S k).epoch ((s.S k).mems, (s.S k).log)
structure Inv (g : Gh) (s : St) : Prop where
 npos : 1 ≤ g.n
 voteAcc : ∀ {a E b}, g.voted a E b → isAcc a ∧ 1 ≤ E ∧ (∃ v, g.prop E b = some v) ∧ b ≤ ((s.A a).votes E).ballot
 votes : ∀ {a}, isAcc a → ∀ E, ((s.A a).votes E).ballot ≤ ((s.A a).votes E).promise ∧
  (0 ≤ ((s.A a).votes E).ballot → g.voted a E ((s.A a).votes E).ballot ∧ g.prop E ((s.A a).votes E).ballot = some (((s.A a).votes E).mems, ((s.A a).votes E).log))
 prom : ∀ {a E b v}, g.promR a E b v → isAcc a ∧ g.prepd E b ∧ b ≤ ((s.A a).votes E).promise ∧ v ≤ b ∧ (0 ≤ v → g.voted a E v) ∧ (∀ b', g.voted a E b' → b' < b → b' ≤ v)
 prepd : ∀ {E b}, g.prepd E b → 1 ≤ E ∧ came s b E 3
 propd : ∀ {E b}, (g.prop E b).isSome = true → came s b E 4
 prop : ∀ {E b val}, g.prop E b = some val → 0 ≤ b ∧ 1 ≤ E ∧ memsOk val.1 g.n = true ∧ fresh g s E val.2 ∧
  ∃ a1 a2 v1 v2, a1 ≠ a2 ∧ g.promR a1 E b v1 ∧ g.promR a2 E b v2 ∧ v1 < b ∧ v2 < b ∧ (0 ≤ v1 ∨ 0 ≤ v2 → g.prop E (max v1 v2) = some val)
 mas : ∀ {k}, isMas k → MasInv g s k
 reg : ∀ {a}, isAcc a → ∃ l0, g.cfg (s.A a).epoch ((s.A a).mems, l0)
 rep : ∀ {i : Int}, 0 ≤ i → i < g.n → g.hist i (s.R i).epoch = some (s.R i).log ∧ (s.R i).lock ≤ (s.R i).epoch + 1 ∧ (s.R i).commit ≤ g.seen ∧
  ∃ l0, g.cfg (s.R i).epoch ((s.R i).mems, l0) ∧ (s.R i).base = l0.length ∧ ∃ c, g.com (s.R i).epoch c ∧ (s.R i).commit ≤ c.length
 hist : ∀ {i e l}, g.hist i e = some l → 0 ≤ i ∧ i < g.n ∧ e ≤ (s.R i).epoch ∧ (∃ mems l0, g.cfg e (mems, l0) ∧ i ∈ mems ∧ l0 <+: l) ∧ onceL l ∧ (∀ x ∈ l, g.asked x) ∧ l.length ≤ 24
 chain : ∀ {e mems l0}, g.cfg e (mems, l0) → ∀ {a : Nat} {x y}, mems[a]? = some x → mems[a + 1]? = some y → g.H y e l0 <+: g.H x e l0
theorem memsOk_iff (l : List Int) (n : Nat) : memsOk l n = true ↔ (∀ x ∈ l, 0 ≤ x ∧ x < n) ∧ l.Nodup ∧ l ≠ [] := by
 unfold memsOk
 simp only [Bool.and_eq_true, List.all_eq_true, decide_eq_true_eq, Bool.not_eq_true', List.isEmpty_eq_false_iff]
 exact ⟨fun ⟨⟨a, b⟩, c⟩ => ⟨a, b, c⟩, fun ⟨a, b, c⟩ => ⟨⟨a, b⟩, c⟩⟩
theorem firstInts_ok (n : Nat) (h : 1 ≤ n) : memsOk (firstInts n) n = true := by
 rw [memsOk_iff]
 refine ⟨?_, ?_, ?_⟩
 ·intro x hx
  simp only [firstInts, List.mem_map, List.mem_range] at hx
  obtain ⟨i, hi, rfl⟩ := hx
  exact ⟨Int.natCast_nonneg i, Int.ofNat_lt.2 hi⟩
 ·unfold firstInts
  exact List.Pairwise.map _ (fun a b hab h => hab (Int.ofNat.inj h)) List.nodup_range
 ·intro e
  have := congrArg List.length e
  simp [firstInts] at this
  omega
end Go.Proofs.Ytgieeeeeiggoeaa
