/-
  Of the proof: parts ZpN, ZpF.
-/
import Derived.Lib.Split
import Derived.Lib.SlTrimSet
import Derived.Test.YtljlmfnbeofmmaaGreatDoorJ1

namespace Go.Proofs.YtljlmfnbeofmmaaGreatDoor

def let8 (c : Nat) : Bool := decide (97 ≤ c ∧ c ≤ 122) || decide (48 ≤ c ∧ c ≤ 57) || c == 46 || c == 95 || c == 45

def prt8 (p : List Nat) : Bool := !(p == []) && !(p == [46]) && !(p == [46, 46])

def okp8 (p : List Nat) : Bool := prt8 p && p.all let8

def spl8 : List Nat → List (List Nat)
 | [] => [[]]
 | c :: r => if c = 47 then [] :: spl8 r else match spl8 r with
  | [] => [[c]]
  | p :: ps => (c :: p) :: ps

theorem spl8_ne (l : List Nat) : ∃ p ps, spl8 l = p :: ps := by
 cases l with
 | nil => exact ⟨_, _, rfl⟩
 | cons c r =>
  unfold spl8
  split
  ·exact ⟨_, _, rfl⟩
  ·split
   ·exact ⟨_, _, rfl⟩
   ·exact ⟨_, _, rfl⟩

theorem spl8_cons {c : Nat} {r p : List Nat} {ps : List (List Nat)} (hc : c ≠ 47) (h : spl8 r = p :: ps) : spl8 (c :: r) = (c :: p) :: ps := by
 rw [spl8, if_neg hc, h]

def nam8 (l : List Nat) : Bool := decide (l.length ≤ 64) && (spl8 l).all okp8

def go8 (cur : List Nat) : List Nat → Bool
 | [] => prt8 cur
 | c :: r => if c = 47 then prt8 cur && go8 [] r else let8 c && go8 (cur ++ [c]) r

theorem go8_is (cur l : List Nat) (h : cur.all let8 = true) {p : List Nat} {ps : List (List Nat)} (hs : spl8 l = p :: ps) : go8 cur l = (okp8 (cur ++ p) && ps.all okp8) := by
 induction l generalizing cur p ps with
 | nil =>
  simp only [spl8, List.cons.injEq] at hs
  obtain ⟨rfl, rfl⟩ := hs
  simp [go8, okp8, h]
 | cons c r ih =>
  by_cases hc : c = 47
  ·subst hc
   rw [spl8, if_pos rfl] at hs
   simp only [List.cons.injEq] at hs
   obtain ⟨rfl, rfl⟩ := hs
   obtain ⟨q, qs, hq⟩ := spl8_ne r
   rw [go8, if_pos rfl, ih [] rfl hq, hq]
   simp [okp8, h]
  ·obtain ⟨q, qs, hq⟩ := spl8_ne r
   rw [spl8_cons hc hq] at hs
   simp only [List.cons.injEq] at hs
   obtain ⟨rfl, rfl⟩ := hs
   rw [go8, if_neg hc]
   by_cases hl : let8 c = true
   ·rw [hl, Bool.true_and, ih (cur ++ [c]) (by simp [h, hl]) hq]
    simp
   ·have hl' : let8 c = false := by simpa using hl
    rw [hl']
    have : okp8 (cur ++ c :: q) = false := by simp [okp8, hl']
    rw [this]
    simp

theorem go8_nam (l : List Nat) : (decide (l.length ≤ 64) && go8 [] l) = nam8 l := by
 obtain ⟨p, ps, h⟩ := spl8_ne l
 rw [go8_is [] l rfl h, nam8, h]
 simp

def txt (l : List Nat) : ByteArray := ⟨(l.map UInt8.ofNat).toArray⟩
def sb (s : ByteArray) : List Nat := s.data.toList.map UInt8.toNat

theorem sb_lt (s : ByteArray) : ∀ b ∈ sb s, b < 256 := by
 intro b hb
 obtain ⟨u, _, rfl⟩ := List.mem_map.1 hb
 exact u.toNat_lt

theorem sb_txt (l : List Nat) (h : ∀ b ∈ l, b < 256) : sb (txt l) = l := by
 unfold sb txt
 simp only [List.map_map]
 conv => rhs; rw [← List.map_id l]
 refine List.map_congr_left (fun b hb => ?_)
 have := h b hb
 simp only [Function.comp_apply, id_eq, UInt8.toNat_ofNat']
 omega

theorem txt_sb (s : ByteArray) : txt (sb s) = s := by
 unfold sb txt
 rw [List.map_map]
 have : (UInt8.ofNat ∘ UInt8.toNat) = id := by funext u; simp
 rw [this, List.map_id]

theorem txt_inj {a b : List Nat} (ha : ∀ x ∈ a, x < 256) (hb : ∀ x ∈ b, x < 256) (h : txt a = txt b) : a = b := by
 rw [← sb_txt a ha, ← sb_txt b hb, h]

theorem sb_inj {s t : ByteArray} (h : sb s = sb t) : s = t := by rw [← txt_sb s, ← txt_sb t, h]

theorem sb_size (s : ByteArray) : (sb s).length = s.size := by simp [sb]

theorem txt_size (l : List Nat) : (txt l).size = l.length := by simp [txt, ByteArray.size]

end Go.Proofs.YtljlmfnbeofmmaaGreatDoor

namespace Go.Proofs.YtljlmfnbeofmmaaGreatDoor

structure It where
 lab : Mk
 bytes : List Nat

def chk8 (m : Mk) (ahead : List (List Nat)) : Nat :=
 if nam8 m.name = false ∨ m.name ∈ ahead then 80
 else if m.way ≠ 0 ∧ m.way ≠ 8 then 82
 else if 8192 < m.size ∨ 16384 < m.packed then 87
 else if m.way ≠ 8 ∧ m.packed ≠ m.size then 81
 else 0

def names8 (l : List It) : List (List Nat) := l.map (·.lab.name)

def opn8 (first : Nat) : Nat → List Nat → List Nat → List It → Except Nat (List It)
 | 0, P, R, l => if P.length = 0 ∧ R.length = 0 then .ok l else .error 81
 | n + 1, P, R, l => match rec8 R with
  | none => .error 81
  | some x => if chk8 x.1.1 (names8 l) ≠ 0 then .error (chk8 x.1.1 (names8 l)) else if x.1.2 ≠ first - P.length then .error 81
   else match pie8 x.1.1 P with
    | none => .error 81
    | some y => opn8 first n y.2 x.2 (l ++ [⟨x.1.1, y.1⟩])

def enf8 (r : List Nat) : Option (Nat × Nat × Nat) :=
 bnd8 (ex8 4 101010256 r) fun r => bnd8 (ex8 2 0 r) fun r => bnd8 (ex8 2 0 r) fun r => bnd8 (nm8 2 r) fun n => bnd8 (ex8 2 n.1 n.2) fun r =>
 bnd8 (nm8 4 r) fun long => bnd8 (nm8 4 long.2) fun from' => bnd8 (ex8 2 0 from'.2) fun _ => some (n.1, long.1, from'.1)

def end8 (r : List Nat) (place : Nat) : Except Nat (Nat × Nat) := match enf8 r with
 | none => .error 81
 | some x => if x.2.2 + x.2.1 ≠ place then .error 81 else if 64 < x.1 then .error 86 else .ok (x.1, x.2.2)

def opf8 (b : List Nat) : Except Nat (List It) :=
 if 1048576 < b.length then .error 2 else if b.length < 22 then .error 81
 else match end8 (b.drop (b.length - 22)) (b.length - 22) with
  | .error e => .error e
  | .ok x => opn8 x.2 x.1 (b.take x.2) ((b.take (b.length - 22)).drop x.2) []

def pieB (x : It) : List Nat := hedB x.lab ++ x.bytes
def piesB (l : List It) : List Nat := l.flatMap pieB
def recsB : Nat → List It → List Nat
 | _, [] => []
 | at', x :: r => recB x.lab at' ++ recsB (at' + (pieB x).length) r
def filB (l : List It) : List Nat := piesB l ++ (recsB 0 l ++ endB l.length (recsB 0 l).length (piesB l).length)

structure ItOk (x : It) : Prop where
 lab : MkOk x.lab
 len : x.bytes.length = x.lab.packed
 ok : chk8 x.lab [] = 0

theorem chk8_zero {m : Mk} {a : List (List Nat)} (h : chk8 m a = 0) : nam8 m.name = true ∧ m.name ∉ a ∧ (m.way = 0 ∨ m.way = 8) ∧ m.size ≤ 8192 ∧ m.packed ≤ 16384 ∧ (m.way = 8 ∨ m.packed = m.size) := by
 unfold chk8 at h
 split at h
 ·cases h
 ·rename_i h1
  split at h
  ·cases h
  ·rename_i h2
   split at h
   ·cases h
   ·rename_i h3
    split at h
    ·cases h
    ·rename_i h4
     refine ⟨?_, fun h9 => h1 (.inr h9), by omega, by omega, by omega, by omega⟩
     cases hn : nam8 m.name with
     | true => rfl
     | false => exact absurd (.inl hn) h1

theorem chk8_mk {m : Mk} {a : List (List Nat)} (h1 : nam8 m.name = true) (h2 : m.name ∉ a) (h3 : m.way = 0 ∨ m.way = 8) (h4 : m.size ≤ 8192) (h5 : m.packed ≤ 16384) (h6 : m.way = 8 ∨ m.packed = m.size) : chk8 m a = 0 := by
 unfold chk8
 rw [if_neg (by rw [h1]; simp [h2]), if_neg (by omega), if_neg (by omega), if_neg (by omega)]

theorem ItOk.chk {x : It} (h : ItOk x) {a : List (List Nat)} (hn : x.lab.name ∉ a) : chk8 x.lab a = 0 := by
 obtain ⟨h1, _, h3, h4, h5, h6⟩ := chk8_zero h.ok
 exact chk8_mk h1 hn h3 h4 h5 h6

theorem recsB_length (at' : Nat) (l : List It) : (recsB at' l).length = (l.map (fun x => 46 + x.lab.name.length)).sum := by
 induction l generalizing at' with
 | nil => rfl
 | cons x r ih => rw [recsB, List.length_append, ih, recB_length]; simp

theorem pieB_length (x : It) : (pieB x).length = 30 + x.lab.name.length + x.bytes.length := by rw [pieB, List.length_append, hedB_length]

theorem piesB_cons (x : It) (r : List It) : piesB (x :: r) = pieB x ++ piesB r := by simp [piesB]

theorem opn8_laid (first at' : Nat) (l acc : List It) (ho : ∀ x ∈ l, ItOk x) (hd : (names8 acc ++ names8 l).Nodup) (hf : at' + (piesB l).length = first) (h32 : first < 4294967296) : opn8 first l.length (piesB l) (recsB at' l) acc = .ok (acc ++ l) := by
 induction l generalizing at' acc with
 | nil => simp [opn8, piesB, recsB]
 | cons x r ih =>
  have hx := ho x (by simp)
  rw [piesB_cons, List.length_append] at hf
  rw [List.length_cons, opn8, recsB, rec8_app x.lab hx.lab at' (by omega)]
  simp only
  have hn : x.lab.name ∉ names8 acc := by
   intro h9
   rw [List.nodup_append] at hd
   exact hd.2.2 _ h9 _ (by simp [names8]) rfl
  rw [hx.chk hn, if_neg (by simp), if_neg (by rw [piesB_cons, List.length_append]; omega), piesB_cons]
  obtain ⟨k, hk⟩ : ∃ k, k = (pieB x).length := ⟨_, rfl⟩
  rw [← hk]
  unfold pieB
  rw [List.append_assoc, pie8_app x.lab hx.lab x.bytes (piesB r) hx.len]
  simp only
  have := ih (at' + k) (acc ++ [⟨x.lab, x.bytes⟩]) (fun y hy => ho y (by simp [hy])) (by
   simp only [names8, List.map_append, List.map_cons, List.map_nil, List.append_assoc] at hd ⊢
   simpa using hd) (by omega)
  rw [this]
  simp

theorem enf8_app (n l f : Nat) (hn : n < 65536) (hl : l < 4294967296) (hf : f < 4294967296) : enf8 (endB n l f) = some (n, l, f) := by
 unfold enf8 endB
 rw [bnd8_some (ex8_app 101010256 4 _ (by decide)), bnd8_some (ex8_app 0 2 _ (by decide)), bnd8_some (ex8_app 0 2 _ (by decide)), bnd8_some (nm8_app n 2 _ hn)]
 simp only
 rw [bnd8_some (ex8_app n 2 _ hn), bnd8_some (nm8_app l 4 _ hl)]
 simp only
 rw [bnd8_some (nm8_app f 4 _ hf)]
 simp only
 have := ex8_app 0 2 [] (by decide)
 rw [List.append_nil] at this
 rw [bnd8_some this]

theorem filB_length (l : List It) : (filB l).length = (piesB l).length + (recsB 0 l).length + 22 := by simp [filB, endB_length]; omega

theorem opf8_laid (l : List It) (ho : ∀ x ∈ l, ItOk x) (hd : (names8 l).Nodup) (h64 : l.length ≤ 64) (hlen : (filB l).length ≤ 1048576) : opf8 (filB l) = .ok l := by
 have hfl := filB_length l
 unfold opf8
 rw [if_neg (by omega), if_neg (by omega)]
 have e1 : (filB l).length - 22 = (piesB l ++ recsB 0 l).length := by rw [List.length_append]; omega
 have e2 : filB l = (piesB l ++ recsB 0 l) ++ endB l.length (recsB 0 l).length (piesB l).length := by simp [filB]
 rw [e1]
 conv => lhs; rw [e2]
 rw [List.drop_left, List.take_left]
 unfold end8
 rw [enf8_app _ _ _ (by omega) (by omega) (by omega)]
 simp only
 rw [List.length_append, if_neg (by omega), if_neg (by omega)]
 simp only
 rw [List.append_assoc, List.take_left, List.drop_left]
 have := opn8_laid (piesB l).length 0 l [] ho (by simpa [names8] using hd) (by omega) (by omega)
 simpa using this

end Go.Proofs.YtljlmfnbeofmmaaGreatDoor
