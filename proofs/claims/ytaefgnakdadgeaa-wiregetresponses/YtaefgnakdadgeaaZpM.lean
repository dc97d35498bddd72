/-
  Layer 8's mathematics: fields, heads, records, pieces and ends, as they are laid and as they are read.
-/
import Derived.Test.YtaefgnakdadgeaaCrc
namespace Go.Proofs.Ytaefgnakdadgeaa

/-- What a head and a record both tell of an entry. -/
structure Mk where
  way : Nat
  sum : Nat
  packed : Nat
  size : Nat
  name : List Nat
deriving DecidableEq

/-- So many bytes from the front. -/
def tk8 (n : Nat) (r : List Nat) : Option (List Nat × List Nat) := if n ≤ r.length then some (r.take n, r.drop n) else none

/-- A number from the front. -/
def nm8 (n : Nat) (r : List Nat) : Option (Nat × List Nat) := match tk8 n r with
  | none => none
  | some p => some (n256 p.1, p.2)

/-- A number that must be this one. -/
def ex8 (n v : Nat) (r : List Nat) : Option (List Nat) := match nm8 n r with
  | none => none
  | some p => if p.1 = v then some p.2 else none

def bnd8 {α β : Type} (o : Option α) (f : α → Option β) : Option β := match o with
  | none => none
  | some x => f x

theorem bnd8_some {α β : Type} {o : Option α} {f : α → Option β} {x : α} (h : o = some x) : bnd8 o f = f x := by rw [h]; rfl
theorem bnd8_none {α β : Type} {o : Option α} {f : α → Option β} (h : o = none) : bnd8 o f = none := by rw [h]; rfl

/-- The fields of both: the mark without its name, and how long that is. -/
def lab8 (r : List Nat) : Option ((Mk × Nat) × List Nat) :=
  bnd8 (tk8 2 r) fun a => bnd8 (ex8 2 0 a.2) fun r => bnd8 (nm8 2 r) fun way => bnd8 (tk8 4 way.2) fun a =>
  bnd8 (nm8 4 a.2) fun sum => bnd8 (nm8 4 sum.2) fun packed => bnd8 (nm8 4 packed.2) fun size => bnd8 (nm8 2 size.2) fun long =>
  bnd8 (ex8 2 0 long.2) fun r => some ((⟨way.1, sum.1, packed.1, size.1, []⟩, long.1), r)

def Mk.named (m : Mk) (s : List Nat) : Mk := ⟨m.way, m.sum, m.packed, m.size, s⟩

/-- A record: its mark, where its piece begins. -/
def rec8 (r : List Nat) : Option ((Mk × Nat) × List Nat) :=
  bnd8 (ex8 4 33639248 r) fun r => bnd8 (tk8 2 r) fun a => bnd8 (lab8 a.2) fun l => bnd8 (ex8 2 0 l.2) fun r => bnd8 (ex8 2 0 r) fun r =>
  bnd8 (tk8 6 r) fun a => bnd8 (nm8 4 a.2) fun at' => bnd8 (tk8 l.1.2 at'.2) fun s => some ((l.1.1.named s.1, at'.1), s.2)

/-- A piece's head, which must tell this mark. -/
def hed8 (m : Mk) (r : List Nat) : Option (List Nat) :=
  bnd8 (ex8 4 67324752 r) fun r => bnd8 (lab8 r) fun l => bnd8 (tk8 l.1.2 l.2) fun s => if l.1.1.named s.1 = m then some s.2 else none

/-- A piece: its packed bytes. -/
def pie8 (m : Mk) (r : List Nat) : Option (List Nat × List Nat) := bnd8 (hed8 m r) fun r => tk8 m.packed r

/-- How they are laid. -/
def labB (m : Mk) : List Nat := leOf 20 2 ++ (leOf 0 2 ++ (leOf m.way 2 ++ (leOf 0 2 ++ (leOf 33 2 ++ (leOf m.sum 4 ++ (leOf m.packed 4 ++ (leOf m.size 4 ++ (leOf m.name.length 2 ++ leOf 0 2))))))))
def hedB (m : Mk) : List Nat := leOf 67324752 4 ++ (labB m ++ m.name)
def recB (m : Mk) (at' : Nat) : List Nat := leOf 33639248 4 ++ (leOf 20 2 ++ (labB m ++ (leOf 0 2 ++ (leOf 0 2 ++ (leOf 0 2 ++ (leOf 0 4 ++ (leOf at' 4 ++ m.name)))))))
def endB (n long first : Nat) : List Nat := leOf 101010256 4 ++ (leOf 0 2 ++ (leOf 0 2 ++ (leOf n 2 ++ (leOf n 2 ++ (leOf long 4 ++ (leOf first 4 ++ leOf 0 2))))))

structure MkOk (m : Mk) : Prop where
  way : m.way < 65536
  sum : m.sum < 4294967296
  packed : m.packed < 4294967296
  size : m.size < 4294967296
  name : m.name.length < 65536

theorem tk8_app (a r : List Nat) {n : Nat} (h : a.length = n) : tk8 n (a ++ r) = some (a, r) := by
  subst h
  unfold tk8
  rw [if_pos (by simp), List.take_left, List.drop_left]

theorem nm8_app (v n : Nat) (r : List Nat) (h : v < 256 ^ n) : nm8 n (leOf v n ++ r) = some (v, r) := by
  unfold nm8
  rw [tk8_app _ _ (leOf_length v n)]
  simp only
  rw [leOf_n256, Nat.mod_eq_of_lt h]

theorem ex8_app (v n : Nat) (r : List Nat) (h : v < 256 ^ n) : ex8 n v (leOf v n ++ r) = some r := by
  unfold ex8
  rw [nm8_app v n r h]
  simp

theorem lab8_app (m : Mk) (h : MkOk m) (r : List Nat) : lab8 (labB m ++ r) = some ((m.named [], m.name.length), r) := by
  unfold lab8 labB
  simp only [List.append_assoc]
  rw [bnd8_some (tk8_app _ _ (leOf_length 20 2))]
  simp only
  rw [bnd8_some (ex8_app 0 2 _ (by decide)), bnd8_some (nm8_app m.way 2 _ h.way)]
  simp only
  rw [show leOf 0 2 ++ (leOf 33 2 ++ (leOf m.sum 4 ++ (leOf m.packed 4 ++ (leOf m.size 4 ++ (leOf m.name.length 2 ++ (leOf 0 2 ++ r)))))) = (leOf 0 2 ++ leOf 33 2) ++ (leOf m.sum 4 ++ (leOf m.packed 4 ++ (leOf m.size 4 ++ (leOf m.name.length 2 ++ (leOf 0 2 ++ r))))) by simp]
  rw [bnd8_some (tk8_app _ _ (by simp [leOf_length]))]
  simp only
  rw [bnd8_some (nm8_app m.sum 4 _ h.sum)]
  simp only
  rw [bnd8_some (nm8_app m.packed 4 _ h.packed)]
  simp only
  rw [bnd8_some (nm8_app m.size 4 _ h.size)]
  simp only
  rw [bnd8_some (nm8_app m.name.length 2 _ h.name)]
  simp only
  rw [bnd8_some (ex8_app 0 2 _ (by decide))]
  rfl

theorem Mk.named_self (m : Mk) : (m.named []).named m.name = m := rfl

theorem rec8_app (m : Mk) (h : MkOk m) (at' : Nat) (ha : at' < 4294967296) (r : List Nat) : rec8 (recB m at' ++ r) = some ((m, at'), r) := by
  unfold rec8 recB
  simp only [List.append_assoc]
  rw [bnd8_some (ex8_app 33639248 4 _ (by decide)), bnd8_some (tk8_app _ _ (leOf_length 20 2))]
  simp only
  rw [bnd8_some (lab8_app m h _)]
  simp only
  rw [bnd8_some (ex8_app 0 2 _ (by decide)), bnd8_some (ex8_app 0 2 _ (by decide))]
  rw [show leOf 0 2 ++ (leOf 0 4 ++ (leOf at' 4 ++ (m.name ++ r))) = (leOf 0 2 ++ leOf 0 4) ++ (leOf at' 4 ++ (m.name ++ r)) by simp]
  rw [bnd8_some (tk8_app _ _ (by simp [leOf_length]))]
  simp only
  rw [bnd8_some (nm8_app at' 4 _ ha)]
  simp only
  rw [bnd8_some (tk8_app _ _ rfl)]
  rfl

theorem hed8_app (m : Mk) (h : MkOk m) (r : List Nat) : hed8 m (hedB m ++ r) = some r := by
  unfold hed8 hedB
  simp only [List.append_assoc]
  rw [bnd8_some (ex8_app 67324752 4 _ (by decide)), bnd8_some (lab8_app m h _)]
  simp only
  rw [bnd8_some (tk8_app _ _ rfl)]
  simp only
  rw [Mk.named_self, if_pos rfl]

theorem pie8_app (m : Mk) (h : MkOk m) (b r : List Nat) (hb : b.length = m.packed) : pie8 m (hedB m ++ (b ++ r)) = some (b, r) := by
  unfold pie8
  rw [bnd8_some (hed8_app m h _), tk8_app _ _ hb]

theorem labB_length (m : Mk) : (labB m).length = 26 := by simp [labB, leOf_length]
theorem hedB_length (m : Mk) : (hedB m).length = 30 + m.name.length := by simp [hedB, labB_length, leOf_length]; omega
theorem recB_length (m : Mk) (a : Nat) : (recB m a).length = 46 + m.name.length := by simp [recB, labB_length, leOf_length]; omega
theorem endB_length (n l f : Nat) : (endB n l f).length = 22 := by simp [endB, leOf_length]

/-- Read by places. -/
theorem bnd8_tk {β : Type} (n o : Nat) (r : List Nat) (hn : 0 < n) (f : List Nat × List Nat → Option β) : bnd8 (tk8 n (r.drop o)) f = if o + n ≤ r.length then f ((r.drop o).take n, r.drop (o + n)) else none := by
  unfold tk8
  rw [List.length_drop, List.drop_drop]
  by_cases h : o + n ≤ r.length
  · rw [if_pos (by omega), if_pos h]; rfl
  · rw [if_neg (by omega), if_neg h]; rfl

theorem bnd8_nm {β : Type} (n o : Nat) (r : List Nat) (hn : 0 < n) (f : Nat × List Nat → Option β) : bnd8 (nm8 n (r.drop o)) f = if o + n ≤ r.length then f (bytN r o n, r.drop (o + n)) else none := by
  unfold nm8 tk8
  rw [List.length_drop, List.drop_drop]
  by_cases h : o + n ≤ r.length
  · rw [if_pos (by omega), if_pos h]; rfl
  · rw [if_neg (by omega), if_neg h]; rfl

theorem bnd8_ex {β : Type} (n v o : Nat) (r : List Nat) (hn : 0 < n) (f : List Nat → Option β) : bnd8 (ex8 n v (r.drop o)) f = if o + n ≤ r.length then (if bytN r o n = v then f (r.drop (o + n)) else none) else none := by
  unfold ex8 nm8 tk8
  rw [List.length_drop, List.drop_drop]
  by_cases h : o + n ≤ r.length
  · rw [if_pos (by omega), if_pos h]
    simp only
    by_cases h2 : bytN r o n = v
    · rw [if_pos h2, if_pos (by exact h2)]; rfl
    · rw [if_neg h2, if_neg (by exact h2)]; rfl
  · rw [if_neg (by omega), if_neg h]; rfl

/-- The mark that stands at a place. -/
def mkAt (r : List Nat) (o : Nat) : Mk := ⟨bytN r (o + 4) 2, bytN r (o + 10) 4, bytN r (o + 14) 4, bytN r (o + 18) 4, []⟩

theorem lab8_is {β : Type} (r : List Nat) (o : Nat) (f : (Mk × Nat) × List Nat → Option β) : bnd8 (lab8 (r.drop o)) f = if o + 26 ≤ r.length ∧ bytN r (o + 2) 2 = 0 ∧ bytN r (o + 24) 2 = 0 then f ((mkAt r o, bytN r (o + 22) 2), r.drop (o + 26)) else none := by
  unfold lab8
  simp only [bnd8_tk, bnd8_nm, bnd8_ex, Nat.add_assoc, Nat.reduceAdd, show (0 : Nat) < 2 by decide, show (0 : Nat) < 4 by decide]
  by_cases h26 : o + 26 ≤ r.length
  · rw [if_pos (by omega), if_pos (by omega)]
    by_cases h1 : bytN r (o + 2) 2 = 0
    · rw [if_pos h1, if_pos (by omega), if_pos (by omega), if_pos (by omega), if_pos (by omega), if_pos (by omega), if_pos (by omega), if_pos (by omega)]
      by_cases h2 : bytN r (o + 24) 2 = 0
      · rw [if_pos h2, if_pos ⟨h26, h1, h2⟩]; rfl
      · rw [if_neg h2, if_neg (fun h => h2 h.2.2)]; rfl
    · rw [if_neg h1, if_neg (fun h => h1 h.2.1)]; rfl
  · conv => rhs; rw [if_neg (fun h => h26 h.1)]
    repeat' split
    all_goals first | rfl | omega

theorem rec8_is (r : List Nat) : rec8 r = if 46 ≤ r.length ∧ bytN r 0 4 = 33639248 ∧ bytN r 8 2 = 0 ∧ bytN r 30 2 = 0 ∧ bytN r 32 2 = 0 ∧ bytN r 34 2 = 0 ∧ 46 + bytN r 28 2 ≤ r.length then some (((mkAt r 6).named ((r.drop 46).take (bytN r 28 2)), bytN r 42 4), r.drop (46 + bytN r 28 2)) else none := by
  have h0 : r = r.drop 0 := rfl
  unfold rec8
  conv => lhs; rw [h0]
  simp only [bnd8_tk, bnd8_nm, bnd8_ex, lab8_is, Nat.zero_add, Nat.reduceAdd, show (0 : Nat) < 2 by decide, show (0 : Nat) < 4 by decide, show (0 : Nat) < 6 by decide]
  by_cases h46 : 46 ≤ r.length
  · by_cases h1 : bytN r 0 4 = 33639248
    · by_cases h2 : bytN r 8 2 = 0
      · by_cases h3 : bytN r 30 2 = 0
        · by_cases h4 : bytN r 32 2 = 0
          · by_cases h5 : bytN r 34 2 = 0
            · rw [if_pos (by omega), if_pos h1, if_pos (by omega), if_pos ⟨by omega, h2, h3⟩, if_pos (by omega), if_pos h4, if_pos (by omega), if_pos h5, if_pos (by omega), if_pos (by omega)]
              unfold tk8
              rw [List.length_drop, List.drop_drop]
              by_cases h6 : 46 + bytN r 28 2 ≤ r.length
              · rw [if_pos (by omega), if_pos ⟨h46, h1, h2, h3, h4, h5, h6⟩]; rfl
              · rw [if_neg (by omega), if_neg (fun h => h6 h.2.2.2.2.2.2)]; rfl
            · conv => rhs; rw [if_neg (fun h => h5 h.2.2.2.2.2.1)]
              repeat' split
              all_goals first | rfl | omega | (exfalso; exact h5 (by assumption))
          · conv => rhs; rw [if_neg (fun h => h4 h.2.2.2.2.1)]
            repeat' split
            all_goals first | rfl | omega | (exfalso; exact h4 (by assumption))
        · conv => rhs; rw [if_neg (fun h => h3 h.2.2.2.1)]
          repeat' split
          all_goals first | rfl | omega | (exfalso; exact h3 (And.right (And.right (by assumption))))
      · conv => rhs; rw [if_neg (fun h => h2 h.2.2.1)]
        repeat' split
        all_goals first | rfl | omega | (exfalso; exact h2 (And.left (And.right (by assumption))))
    · conv => rhs; rw [if_neg (fun h => h1 h.2.1)]
      repeat' split
      all_goals first | rfl | omega | (exfalso; exact h1 (by assumption))
  · conv => rhs; rw [if_neg (fun h => h46 h.1)]
    repeat' split
    all_goals first | rfl | omega

theorem hed8_is (m : Mk) (r : List Nat) : hed8 m r = if 30 ≤ r.length ∧ bytN r 0 4 = 67324752 ∧ bytN r 6 2 = 0 ∧ bytN r 28 2 = 0 ∧ 30 + bytN r 26 2 ≤ r.length ∧ (mkAt r 4).named ((r.drop 30).take (bytN r 26 2)) = m then some (r.drop (30 + bytN r 26 2)) else none := by
  have h0 : r = r.drop 0 := rfl
  unfold hed8
  conv => lhs; rw [h0]
  simp only [bnd8_ex, lab8_is, Nat.zero_add, Nat.reduceAdd, show (0 : Nat) < 4 by decide]
  by_cases h30 : 30 ≤ r.length
  · by_cases h1 : bytN r 0 4 = 67324752
    · by_cases h2 : bytN r 6 2 = 0
      · by_cases h3 : bytN r 28 2 = 0
        · rw [if_pos (by omega), if_pos h1, if_pos ⟨by omega, h2, h3⟩]
          unfold tk8
          rw [List.length_drop, List.drop_drop]
          by_cases h6 : 30 + bytN r 26 2 ≤ r.length
          · rw [if_pos (by omega)]
            show (if (mkAt r 4).named ((r.drop 30).take (bytN r 26 2)) = m then some (r.drop (30 + bytN r 26 2)) else none) = _
            by_cases h7 : (mkAt r 4).named ((r.drop 30).take (bytN r 26 2)) = m
            · rw [if_pos h7, if_pos ⟨h30, h1, h2, h3, h6, h7⟩]
            · rw [if_neg h7, if_neg (fun h => h7 h.2.2.2.2.2)]
          · rw [if_neg (by omega), if_neg (fun h => h6 h.2.2.2.2.1)]; rfl
        · conv => rhs; rw [if_neg (fun h => h3 h.2.2.2.1)]
          repeat' split
          all_goals first | rfl | omega | (exfalso; exact h3 (And.right (And.right (by assumption))))
      · conv => rhs; rw [if_neg (fun h => h2 h.2.2.1)]
        repeat' split
        all_goals first | rfl | omega | (exfalso; exact h2 (And.left (And.right (by assumption))))
    · conv => rhs; rw [if_neg (fun h => h1 h.2.1)]
      repeat' split
      all_goals first | rfl | omega | (exfalso; exact h1 (by assumption))
  · conv => rhs; rw [if_neg (fun h => h30 h.1)]
    repeat' split
    all_goals first | rfl | omega

end Go.Proofs.Ytaefgnakdadgeaa
