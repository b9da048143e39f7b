/-
  The sum (CRC-32) as a plain function on numbers; bytes of numbers. Nothing of the program here.
-/
namespace Go.Proofs.Ytgieeeeeiggoeaa

def crcBit (c : Nat) : Nat := if c % 2 = 1 then (c / 2) ^^^ 3988292384 else c / 2

def crcBits : Nat → Nat → Nat
  | 0, c => c
  | n + 1, c => crcBit (crcBits n c)

def crcByte (c b : Nat) : Nat := crcBits 8 (c ^^^ b)

def crcFrom (c : Nat) (l : List UInt8) : Nat := l.foldl (fun c b => crcByte c b.toNat) c

/-- The sum ahead of its last turn. -/
def crcRaw (l : List UInt8) : Nat := crcFrom 4294967295 l

def crc (l : List UInt8) : Nat := 4294967295 - crcRaw l

theorem crcBit_lt (c : Nat) (h : c < 4294967296) : crcBit c < 4294967296 := by
  unfold crcBit
  split
  · exact Nat.xor_lt_two_pow (n := 32) (by omega) (by omega)
  · omega

theorem crcBits_lt (n c : Nat) (h : c < 4294967296) : crcBits n c < 4294967296 := by
  induction n with
  | zero => exact h
  | succ n ih => exact crcBit_lt _ ih

theorem crcByte_lt (c b : Nat) (h : c < 4294967296) (hb : b < 256) : crcByte c b < 4294967296 :=
  crcBits_lt 8 _ (Nat.xor_lt_two_pow (n := 32) h (by omega))

theorem crcFrom_lt (l : List UInt8) (c : Nat) (h : c < 4294967296) : crcFrom c l < 4294967296 := by
  induction l generalizing c with
  | nil => exact h
  | cons b l ih => exact ih _ (crcByte_lt c _ h b.toNat_lt)

theorem crcRaw_lt (l : List UInt8) : crcRaw l < 4294967296 := crcFrom_lt l _ (by omega)

theorem crcFrom_snoc (c : Nat) (l : List UInt8) (b : UInt8) : crcFrom c (l ++ [b]) = crcByte (crcFrom c l) b.toNat := by
  unfold crcFrom
  rw [List.foldl_append]
  rfl

theorem crcRaw_snoc (l : List UInt8) (b : UInt8) : crcRaw (l ++ [b]) = crcByte (crcRaw l) b.toNat := crcFrom_snoc _ _ _

theorem crcFrom_append (c : Nat) (l m : List UInt8) : crcFrom c (l ++ m) = crcFrom (crcFrom c l) m := by
  unfold crcFrom
  rw [List.foldl_append]

theorem take_snoc (s : ByteArray) (k : Nat) (h : k < s.size) : s.data.toList.take (k + 1) = s.data.toList.take k ++ [s[k]] := by
  rw [List.take_succ_eq_append_getElem (by simpa using h)]; rfl

/-- The low byte of a number. -/
def lowByte (n : Nat) : UInt8 := UInt8.ofNat n

/-- The four bytes of the sum, the low one first. -/
def sumOf (l : List UInt8) : List UInt8 := [lowByte (crc l), lowByte (crc l / 256), lowByte (crc l / 65536), lowByte (crc l / 16777216)]

/-- A text out of its bytes. -/
def bs (l : List UInt8) : ByteArray := ⟨l.toArray⟩

theorem bs_size (l : List UInt8) : (bs l).size = l.length := rfl
theorem bs_list (l : List UInt8) : (bs l).data.toList = l := rfl
theorem bs_append (l m : List UInt8) : bs l ++ bs m = bs (l ++ m) := by
  apply ByteArray.ext
  apply Array.toList_inj.1
  simp [bs]
theorem bs_of (s : ByteArray) : bs s.data.toList = s := by
  unfold bs; rfl
theorem bs_inj {l m : List UInt8} (h : bs l = bs m) : l = m := by
  have := congrArg (fun s : ByteArray => s.data.toList) h
  simpa [bs] using this

/-- A number as two bytes, the high one first, of the number and one more. -/
def numBytes (n : Int) : List UInt8 := [lowByte ((n + 1).toNat / 256), lowByte (n + 1).toNat]

def numOk (n : Int) : Bool := decide (-1 ≤ n) && decide (n ≤ 65534)

def numsBytes (l : List Int) : List UInt8 := l.flatMap numBytes

theorem numOk_iff (n : Int) : numOk n = true ↔ -1 ≤ n ∧ n ≤ 65534 := by simp [numOk]

theorem numBytes_length (n : Int) : (numBytes n).length = 2 := rfl

theorem numsBytes_length (l : List Int) : (numsBytes l).length = 2 * l.length := by
  induction l with
  | nil => rfl
  | cons a l ih =>
    rw [show numsBytes (a :: l) = numBytes a ++ numsBytes l from rfl, List.length_append, ih, numBytes_length]
    simp; omega

theorem numsBytes_append (l m : List Int) : numsBytes (l ++ m) = numsBytes l ++ numsBytes m := by
  simp [numsBytes]

theorem numsBytes_one (n : Int) : numsBytes [n] = numBytes n := by simp [numsBytes]

theorem take_snoc_ints (l : List Int) (k : Nat) (h : k < l.length) : l.take (k + 1) = l.take k ++ [l.getD k 0] := by
  rw [List.take_succ_eq_append_getElem h]
  simp [List.getD, List.getElem?_eq_getElem h]

/-- An entry. -/
structure Ent where
  client : Int
  seq : Int
  kind : Int
  key : Int
  value : Int
  deriving DecidableEq

def Ent.nums (e : Ent) : List Int := [e.client, e.seq, e.kind, e.key, e.value]

def Ent.zero : Ent := ⟨0, 0, 0, 0, 0⟩

def entsNums (es : List Ent) : List Int := es.flatMap Ent.nums

theorem entsNums_length (es : List Ent) : (entsNums es).length = 5 * es.length := by
  induction es with
  | nil => rfl
  | cons a l ih =>
    rw [show entsNums (a :: l) = a.nums ++ entsNums l from rfl, List.length_append, ih]
    simp [Ent.nums]; omega

theorem entsNums_append (l m : List Ent) : entsNums (l ++ m) = entsNums l ++ entsNums m := by simp [entsNums]

theorem entsNums_one (e : Ent) : entsNums [e] = e.nums := by simp [entsNums]

theorem take_snoc_ents (l : List Ent) (k : Nat) (h : k < l.length) : l.take (k + 1) = l.take k ++ [l.getD k Ent.zero] := by
  rw [List.take_succ_eq_append_getElem h]
  simp [List.getD, List.getElem?_eq_getElem h]

/-- Has the message bytes? -/
def msgOk (k : Int) (hd mem : List Int) (es : List Ent) : Bool :=
  decide (1 ≤ k) && decide (k ≤ 16) && decide (mem.length ≤ 5) && decide (es.length ≤ 24) && hd.all numOk && mem.all numOk && (entsNums es).all numOk

theorem msgOk_iff (k : Int) (hd mem : List Int) (es : List Ent) : msgOk k hd mem es = true ↔
    (1 ≤ k ∧ k ≤ 16 ∧ mem.length ≤ 5 ∧ es.length ≤ 24) ∧ hd.all numOk = true ∧ mem.all numOk = true ∧ (entsNums es).all numOk = true := by
  unfold msgOk
  simp only [Bool.and_eq_true, decide_eq_true_eq]
  constructor
  · rintro ⟨⟨⟨⟨⟨⟨a, b⟩, c⟩, d⟩, e⟩, f⟩, g⟩; exact ⟨⟨a, b, c, d⟩, e, f, g⟩
  · rintro ⟨⟨a, b, c, d⟩, e, f, g⟩; exact ⟨⟨⟨⟨⟨⟨a, b⟩, c⟩, d⟩, e⟩, f⟩, g⟩

theorem msgOk_false {k : Int} {hd mem : List Int} {es : List Ent} (h : ¬ ((1 ≤ k ∧ k ≤ 16 ∧ mem.length ≤ 5 ∧ es.length ≤ 24) ∧ hd.all numOk = true ∧ mem.all numOk = true ∧ (entsNums es).all numOk = true)) :
    msgOk k hd mem es = false := by
  rw [Bool.eq_false_iff]
  exact fun h' => h ((msgOk_iff _ _ _ _).1 h')

/-- A number below 256 as a byte. -/
def oneB (n : Nat) : List UInt8 := [lowByte n]

theorem oneB_length (n : Nat) : (oneB n).length = 1 := rfl

/-- All of a frame but the sum. -/
def body (k : Int) (hd mem : List Int) (es : List Ent) : List UInt8 :=
  oneB k.toNat ++ (numsBytes hd ++ (oneB mem.length ++ (numsBytes mem ++ (oneB es.length ++ numsBytes (entsNums es)))))

def frame (k : Int) (hd mem : List Int) (es : List Ent) : List UInt8 := body k hd mem es ++ sumOf (body k hd mem es)

/-- What Encode answers. -/
def encOf (k : Int) (hd mem : List Int) (es : List Ent) : List UInt8 × Int := if msgOk k hd mem es then (frame k hd mem es, 0) else ([], 1)

theorem encOf_no {k : Int} {hd mem : List Int} {es : List Ent} (h : msgOk k hd mem es = false) : encOf k hd mem es = ([], 1) := by
  unfold encOf; rw [h]; rfl

theorem encOf_yes {k : Int} {hd mem : List Int} {es : List Ent} (h : msgOk k hd mem es = true) : encOf k hd mem es = (frame k hd mem es, 0) := by
  unfold encOf; rw [if_pos h]

theorem body_length (k : Int) (hd mem : List Int) (es : List Ent) : (body k hd mem es).length = 3 + 2 * hd.length + 2 * mem.length + 10 * es.length := by
  unfold body
  simp only [List.length_append, numsBytes_length, entsNums_length, oneB_length]
  omega

/-- The byte at a place; 0 where there is none. -/
def byteAt (t : List UInt8) (i : Nat) : Nat := (t.getD i 0).toNat

theorem byteAt_lt (t : List UInt8) (i : Nat) : byteAt t i < 256 := UInt8.toNat_lt _

/-- The number in two bytes. -/
def numAt (t : List UInt8) (i : Nat) : Int := 256 * (byteAt t i : Int) + byteAt t (i + 1) - 1

theorem numAt_ok (t : List UInt8) (i : Nat) : -1 ≤ numAt t i ∧ numAt t i ≤ 65534 := by
  have h1 := byteAt_lt t i
  have h2 := byteAt_lt t (i + 1)
  unfold numAt; omega

def entAt (t : List UInt8) (p : Nat) : Ent := ⟨numAt t p, numAt t (p + 2), numAt t (p + 4), numAt t (p + 6), numAt t (p + 8)⟩

def numsFrom (t : List UInt8) (p n : Nat) : List Int := (List.range n).map fun i => numAt t (p + 2 * i)

def entsFrom (t : List UInt8) (p n : Nat) : List Ent := (List.range n).map fun i => entAt t (p + 10 * i)

theorem numsFrom_length (t : List UInt8) (p n : Nat) : (numsFrom t p n).length = n := by simp [numsFrom]
theorem entsFrom_length (t : List UInt8) (p n : Nat) : (entsFrom t p n).length = n := by simp [entsFrom]
theorem numsFrom_succ (t : List UInt8) (p n : Nat) : numsFrom t p (n + 1) = numsFrom t p n ++ [numAt t (p + 2 * n)] := by
  simp [numsFrom, List.range_succ]
theorem entsFrom_succ (t : List UInt8) (p n : Nat) : entsFrom t p (n + 1) = entsFrom t p n ++ [entAt t (p + 10 * n)] := by
  simp [entsFrom, List.range_succ]

/-- What the bytes ahead of the sum seem to say. -/
def pKind (t : List UInt8) : Int := byteAt t 0
def pHead (t : List UInt8) : List Int := [numAt t 1, numAt t 3, numAt t 5, numAt t 7, numAt t 9, numAt t 11, numAt t 13]
def pMems (t : List UInt8) : List Int := numsFrom t 16 (byteAt t 15)
def pEnts (t : List UInt8) : List Ent := entsFrom t (17 + 2 * byteAt t 15) (byteAt t (16 + 2 * byteAt t 15))

/-- Do the two counts fit the length? -/
def measOf (t : List UInt8) : Nat × Nat × Bool :=
  if byteAt t 15 ≤ 5 ∧ 16 + 2 * byteAt t 15 < t.length then
    (byteAt t 15, byteAt t (16 + 2 * byteAt t 15), decide (byteAt t (16 + 2 * byteAt t 15) ≤ 24) && decide (t.length = 17 + 2 * byteAt t 15 + 10 * byteAt t (16 + 2 * byteAt t 15)))
  else (0, 0, false)

theorem measOf_no {t : List UInt8} (h : ¬ (byteAt t 15 ≤ 5 ∧ 16 + 2 * byteAt t 15 < t.length)) : measOf t = (0, 0, false) := by
  unfold measOf; rw [if_neg h]

theorem measOf_in {t : List UInt8} (h : byteAt t 15 ≤ 5 ∧ 16 + 2 * byteAt t 15 < t.length) : measOf t =
    (byteAt t 15, byteAt t (16 + 2 * byteAt t 15), decide (byteAt t (16 + 2 * byteAt t 15) ≤ 24) && decide (t.length = 17 + 2 * byteAt t 15 + 10 * byteAt t (16 + 2 * byteAt t 15))) := by
  unfold measOf; rw [if_pos h]

theorem crc_lt (l : List UInt8) : crc l < 4294967296 := by unfold crc; omega

end Go.Proofs.Ytgieeeeeiggoeaa
