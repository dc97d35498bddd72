/-
  Of the proof: parts DkA, DkB, DkC, DkD.
-/
import Derived.Maps.OwnSet
import Derived.Maps.Range
import Derived.StringKeys
import Derived.Test.YtjcobogajkfnmaaJ3

/-
  Layer 9: maps of names to files.
-/
namespace Go.Proofs.Ytjcobogajkfnmaa
open Go.RowKit Go.Maps

/-- How a pointer to a file reads: by its block. -/
def ptR : Value → Option (DataW Unit × List MemPlace)
  | .pointer none => some (.nil, [])
  | .pointer (some ⟨b, 0, none⟩) => some (.lit (.int .i64 (b : Nat)), [])
  | _ => none

theorem ptR_inv {v : Value} {b : Nat} {ps : List MemPlace} (h : ptR v = some (.lit (.int .i64 (b : Nat)), ps)) : v = .pointer (some ⟨b, 0, none⟩) := by
  unfold ptR at h
  split at h
  · simp at h
  · simp only [Option.some.injEq, Prod.mk.injEq, DataW.lit.injEq, Lit.int.injEq, true_and] at h
    have h1 := Int.ofNat_inj.1 h.1
    rw [h1]
  · cases h

theorem ptR_nil {v : Value} {ps : List MemPlace} (h : ptR v = some (.nil, ps)) : v = .pointer none := by
  unfold ptR at h
  split at h
  · rfl
  · simp at h
  · cases h

abbrev Nms := List (ByteArray × Nat)

def litN (s : ByteArray) : Lit := .string s.data.toList

theorem litN_inj {s t : ByteArray} (h : litN s = litN t) : s = t := by
  unfold litN at h
  simp only [Lit.string.injEq] at h
  cases s
  cases t
  simp only at h
  rw [Array.toList_inj] at h
  rw [h]

theorem sameN (s t : ByteArray) : (litN s).sameKey (litN t) = decide (s = t) := by
  by_cases h : s = t
  · subst h; simp [litN, Lit.sameKey]
  · rw [sameKey_ne (fun e => h (litN_inj e))]; simp [h]

def entN (p : ByteArray × Nat) : Lit × DataW Unit := (litN p.1, .lit (.int .i64 (p.2 : Nat)))

def nmD (L : Nms) : DataW Unit := .map (L.map entN)

/-- The file of a name. -/
def getN (s : ByteArray) (L : Nms) : Option Nat := (L.find? (fun p => decide (p.1 = s))).map (·.2)

def delN (s : ByteArray) (L : Nms) : Nms := L.filter (fun p => !decide (p.1 = s))

def insN (x : ByteArray × Nat) : Nms → Nms
  | [] => [x]
  | y :: r => if (litN x.1).before (litN y.1) then x :: y :: r else y :: insN x r

def putN (s : ByteArray) (f : Nat) (L : Nms) : Nms := insN (s, f) (delN s L)

theorem nmD_ins (x : ByteArray × Nat) (L : Nms) : DataW.insert (entN x) (L.map entN) = (insN x L).map entN := by
  induction L with
  | nil => rfl
  | cons y r ih =>
    rw [List.map_cons, DataW.insert, insN]
    by_cases h : (litN x.1).before (litN y.1) = true
    · rw [if_pos (by exact h), if_pos h]; rfl
    · rw [if_neg (by exact h), if_neg h, ih]; rfl

theorem filter_ent (s : ByteArray) (L : Nms) : (L.map entN).filter (fun p => !p.1.sameKey (litN s)) = (delN s L).map entN := by
  induction L with
  | nil => rfl
  | cons y r ih =>
    have e : (entN y).1.sameKey (litN s) = decide (y.1 = s) := sameN y.1 s
    rw [List.map_cons, List.filter_cons, e]
    unfold delN at ih ⊢
    rw [List.filter_cons]
    split
    · rw [List.map_cons, ih]
    · exact ih

theorem nmD_put (s : ByteArray) (f : Nat) (L : Nms) : (nmD L).put (litN s) (.lit (.int .i64 (f : Nat))) = nmD (putN s f L) := by
  unfold nmD DataW.put putN
  simp only
  rw [filter_ent]
  congr 1
  exact nmD_ins (s, f) (delN s L)

theorem nmD_del (s : ByteArray) (L : Nms) : (nmD L).del (litN s) = nmD (delN s L) := by
  unfold nmD DataW.del
  simp only
  rw [filter_ent]

theorem nmD_at (s : ByteArray) (L : Nms) (z : DataW Unit) : (nmD L).atKey (litN s) z = match getN s L with | some f => .lit (.int .i64 (f : Nat)) | none => z := by
  unfold nmD DataW.atKey getN
  simp only
  induction L with
  | nil => rfl
  | cons y r ih =>
    have e : (entN y).1.sameKey (litN s) = decide (y.1 = s) := sameN y.1 s
    rw [List.map_cons, List.find?_cons, List.find?_cons, e]
    cases decide (y.1 = s) with
    | true => rfl
    | false => exact ih

theorem nmD_size (L : Nms) : Maps.size (nmD L) = L.length := by unfold nmD; rw [size_eq, List.length_map]

theorem Try.strKey : Keyed Try.prog 9 := string_keyed Try.underlying9

/-- A map of names to files. -/
def Mp (w : World) (b : Nat) (L : Nms) : Prop := w.ownsMap Try.prog 9 ptR b L.length (nmD L)

theorem ownsMap_tight {w : World} {b n : Nat} {L : Nms} (h : w.ownsMap Try.prog 9 ptR b n (nmD L)) : Mp w b L := by
  obtain ⟨es, clock, h1, h2, h3, h4⟩ := h
  refine ⟨es, clock, h1, h2, ?_, h4⟩
  have h5 := congrArg Maps.size h4
  rw [nmD_size] at h5
  rw [h5]
  simp [Maps.size, length_sorted]

theorem Mp.new (w : World) : Mp (w.alloc (.map #[] 0)) w.heap.size [] := World.ownsMap_made w Try.prog 9 ptR

theorem Mp.lt {w : World} {b : Nat} {L : Nms} (h : Mp w b L) : b < w.heap.size := World.ownsMap.lt h

theorem Mp.kept {F : Nat → Prop} {w w' : World} {b : Nat} {L : Nms} (h : Mp w b L) (hk : Kept F w w') (hF : ¬ F b) : Mp w' b L := by
  obtain ⟨es, clock, h1, h2⟩ := h
  refine ⟨es, clock, ?_, h2⟩
  rw [hk.block b (Array.getElem?_eq_some_iff.1 h1).1 hF]
  exact h1

theorem turned_kept {w w' : World} {b : Nat} (h : w.mapTurned w' b) : Kept (· = b) w w' := (Kept.refl _ w).grown h.grown (fun k e => .inl (by simpa using e.symm))

theorem zeroP (w : World) : (zeroValue 70).run Try.prog w = .ok (.pointer none) w := by kernel_rfl

theorem keyS (s : ByteArray) (h : s.size ≤ maxLen) : keyOf Try.prog 9 (.string s) = some (litN s) := Go.WideMaps.keyOf_string_mk Try.underlying9 h

/-- m[s]. -/
theorem Mp.look {w : World} {b : Nat} {L : Nms} (h : Mp w b L) (s : ByteArray) (hs : s.size ≤ maxLen) : (Instr.lookup 59 (.map (some b)) (.string s) false).run Try.prog w = .ok (match getN s L with | some f => .pointer (some ⟨f, 0, none⟩) | none => .pointer none) w := by
  obtain ⟨v, ps, h1, h2⟩ := World.ownsMap.lookup (t := 59) h Try.strKey Try.underlying59 (zeroP w) (zd := .nil) (zp := []) rfl (keyS s hs)
  rw [nmD_at] at h2
  rw [h1]
  cases hg : getN s L with
  | none => rw [hg] at h2; rw [ptR_nil h2]
  | some f => rw [hg] at h2; rw [ptR_inv h2]

/-- delete(m, s). -/
theorem Mp.del {w : World} {b : Nat} {L : Nms} (h : Mp w b L) (s : ByteArray) (hs : s.size ≤ maxLen) (ty : TypeId) : ∃ w', (Builtin.delete_ #[59, 9] ty #[.map (some b), .string s]).run Try.prog w = .ok (.tuple #[]) w' ∧ Mp w' b (delN s L) ∧ Kept (· = b) w w' := by
  obtain ⟨w', h1, h2, h3⟩ := World.ownsMap.drop (t := 59) h Try.strKey Try.underlying59 (keyS s hs) ty
  rw [nmD_del] at h2
  exact ⟨w', h1, ownsMap_tight h2, turned_kept h3⟩

/-- m[s] = f. -/
theorem Mp.put {w : World} {b : Nat} {L : Nms} (h : Mp w b L) (s : ByteArray) (hs : s.size ≤ maxLen) (hL : L.length ≤ 1000000000) (f : Nat) : ∃ w', (Instr.mapUpdate 59 (.map (some b)) (.string s) (.pointer (some ⟨f, 0, none⟩))).run Try.prog w = .ok () w' ∧ Mp w' b (putN s f L) ∧ Kept (· = b) w w' := by
  obtain ⟨w', h1, h2, h3⟩ := World.ownsMap.store (t := 59) h Try.strKey Try.underlying59 (by unfold maxLen; omega) (keyS s hs) (d := .lit (.int .i64 (f : Nat))) (ps := []) (val := .pointer (some ⟨f, 0, none⟩)) rfl
  rw [nmD_put] at h2
  exact ⟨w', h1, ownsMap_tight h2, turned_kept h3⟩

theorem Mp.len {w : World} {b : Nat} {L : Nms} (h : Mp w b L) (ty : TypeId) : (Builtin.len_ #[59] ty #[.map (some b)]).run Try.prog w = .ok (.int .i64 (L.length : Nat)) w := by
  have := World.ownsMap.len (t := 59) h Try.underlying59 ty
  rw [nmD_size] at this
  exact this

theorem delN_len (s : ByteArray) (L : Nms) : (delN s L).length ≤ L.length := List.length_filter_le _ _
theorem insN_len (x : ByteArray × Nat) (L : Nms) : (insN x L).length = L.length + 1 := by
  induction L with
  | nil => rfl
  | cons y r ih => rw [insN]; split <;> simp [ih]
theorem putN_len (s : ByteArray) (f : Nat) (L : Nms) : (putN s f L).length ≤ L.length + 1 := by
  unfold putN
  rw [insN_len]
  have := delN_len s L
  omega
theorem insN_mem {x p : ByteArray × Nat} {L : Nms} : p ∈ insN x L ↔ p = x ∨ p ∈ L := by
  induction L with
  | nil => simp [insN]
  | cons y r ih =>
    rw [insN]
    split
    · simp
    · rw [List.mem_cons, ih, List.mem_cons]
      constructor
      · rintro (h | h | h)
        · exact .inr (.inl h)
        · exact .inl h
        · exact .inr (.inr h)
      · rintro (h | h | h)
        · exact .inr (.inl h)
        · exact .inl h
        · exact .inr (.inr h)
theorem putN_mem {s : ByteArray} {f : Nat} {L : Nms} {p : ByteArray × Nat} (h : p ∈ putN s f L) : p = (s, f) ∨ p ∈ L := by
  rcases insN_mem.1 h with h | h
  · exact .inl h
  · exact .inr (List.mem_filter.1 h).1
theorem delN_mem {s : ByteArray} {L : Nms} {p : ByteArray × Nat} (h : p ∈ delN s L) : p ∈ L := (List.mem_filter.1 h).1
theorem getN_mem {s : ByteArray} {L : Nms} {f : Nat} (h : getN s L = some f) : (s, f) ∈ L := by
  unfold getN at h
  cases hf : L.find? (fun p => decide (p.1 = s)) with
  | none => rw [hf] at h; cases h
  | some p =>
    rw [hf] at h
    simp only [Option.map_some, Option.some.injEq] at h
    have h1 := List.find?_some hf
    have h2 := List.mem_of_find?_eq_some hf
    simp only [decide_eq_true_eq] at h1
    rw [← h1, ← h]
    exact h2

end Go.Proofs.Ytjcobogajkfnmaa

/-
  Layer 9: a disk as it lies in memory.
-/
namespace Go.Proofs.Ytjcobogajkfnmaa
open Go.RowKit Go.Maps

/-- A file: its bytes, how many are safe. -/
structure Fl where
  bs : List Nat
  safe : Nat

/-- A change: from, to, the file's block. -/
structure Chg where
  src : ByteArray
  dst : ByteArray
  f : Nat

instance : Inhabited Chg := ⟨⟨⟨#[]⟩, ⟨#[]⟩, 0⟩⟩

def chE (c : Chg) : List Value := [.string c.src, .string c.dst, .pointer (some ⟨c.f, 0, none⟩)]
theorem chE_ok : EncOk chE 3 := ⟨fun _ => rfl, fun x u hu => by simp [chE] at hu; rcases hu with rfl | rfl | rfl <;> rfl, by decide⟩

/-- A disk's state; files by their blocks. -/
structure Ds where
  room : Nat
  names : Nms
  safe : Nms
  chg : List Chg
  steps : Nat
  left : Int
  fl : Nat → Fl

/-- What a block is to a disk: 0 nothing, 1 the disk, 2 its names, 3 its safe names, 4 its changes, 5 a file, 10 and f: the bytes of file f. -/
abbrev Rho := Nat → Nat

/-- A file in memory. -/
def FlAt (w : World) (ρ : Rho) (f : Nat) (x : Fl) : Prop := ∃ v, Blk w f #[v, .int .i64 (x.safe : Nat)] 73 ∧ Row w v x.bs ∧ ∀ k, v.ownBlock = some k → ρ k = 10 + f

structure Dk (N : Nat) (w : World) (d : Nat) (s : Ds) (ρ : Rho) (nb sb : Nat) (cv : Value) : Prop where
  blk : Blk w d #[.int .i64 (s.room : Nat), .map (some nb), .map (some sb), cv, .int .i64 (s.steps : Nat), .int .i64 s.left] 62
  nm : Mp w nb s.names
  sf : Mp w sb s.safe
  ch : RowC N 78 3 chE w cv s.chg
  fil : ∀ f, ρ f = 5 → FlAt w ρ f (s.fl f)
  okf : ∀ f, ρ f = 5 → (s.fl f).safe ≤ (s.fl f).bs.length ∧ (s.fl f).bs.length ≤ s.room ∧ ∀ b ∈ (s.fl f).bs, b < 256
  nmf : ∀ p ∈ s.names, ρ p.2 = 5
  sff : ∀ p ∈ s.safe, ρ p.2 = 5
  chf : ∀ c ∈ s.chg, ρ c.f = 5
  rd : ρ d = 1
  rn : ρ nb = 2
  rs : ρ sb = 3
  rc : ∀ k, cv.ownBlock = some k → ρ k = 4
  new : ∀ k, ρ k ≠ 0 → N ≤ k ∧ k < w.heap.size
  room : s.room ≤ 4194304
  lens : s.names.length ≤ s.steps ∧ s.safe.length + s.chg.length ≤ s.steps
  left : -1 ≤ s.left ∧ s.left ≤ 9223372036854775807
  txs : (∀ c ∈ s.chg, c.src.size ≤ 100000 ∧ c.dst.size ≤ 100000) ∧ (∀ p ∈ s.names, p.1.size ≤ 100000) ∧ ∀ p ∈ s.safe, p.1.size ≤ 100000

section
variable {N : Nat} {w : World} {d : Nat} {s : Ds} {ρ : Rho} {nb sb : Nat} {cv : Value}

theorem Dk.kept (h : Dk N w d s ρ nb sb cv) {F : Nat → Prop} {w' : World} (hk : Kept F w w') (hF : ∀ k, F k → ρ k = 0) : Dk N w' d s ρ nb sb cv := by
  have hn : ∀ k, ρ k ≠ 0 → ¬ F k := fun k h1 h2 => h1 (hF k h2)
  refine ⟨h.blk.kept hk (hn d (by rw [h.rd]; decide)), h.nm.kept hk (hn nb (by rw [h.rn]; decide)), h.sf.kept hk (hn sb (by rw [h.rs]; decide)), h.ch.kept hk (fun k e => hn k (by rw [h.rc k e]; decide)), fun f hf => ?_, h.okf, h.nmf, h.sff, h.chf, h.rd, h.rn, h.rs, h.rc, fun k hk2 => ⟨(h.new k hk2).1, Nat.lt_of_lt_of_le (h.new k hk2).2 hk.size⟩, h.room, h.lens, h.left, h.txs⟩
  obtain ⟨v, h1, h2, h3⟩ := h.fil f hf
  exact ⟨v, h1.kept hk (hn f (by rw [hf]; decide)), h2.kept hk (fun k e => hn k (by rw [h3 k e]; omega)), h3⟩

theorem Dk.same (h : Dk N w d s ρ nb sb cv) {w' : World} (hk : Same w w') : Dk N w' d s ρ nb sb cv := h.kept hk (fun _ f => f.elim)

/-- The disk's own cells written anew. -/
theorem Dk.setBlk (h : Dk N w d s ρ nb sb cv) {w' : World} {s' : Ds} (hk : Kept (· = d) w w') (hb : Blk w' d #[.int .i64 (s.room : Nat), .map (some nb), .map (some sb), cv, .int .i64 (s'.steps : Nat), .int .i64 s'.left] 62) (he : s'.room = s.room ∧ s'.names = s.names ∧ s'.safe = s.safe ∧ s'.chg = s.chg ∧ s'.fl = s.fl) (hst : s.steps ≤ s'.steps) (hl : -1 ≤ s'.left ∧ s'.left ≤ 9223372036854775807) : Dk N w' d s' ρ nb sb cv := by
  obtain ⟨e1, e2, e3, e4, e5⟩ := he
  have hne : ∀ k, ρ k ≠ 1 → ¬ k = d := fun k h1 e => h1 (by rw [e]; exact h.rd)
  refine ⟨by rw [e1]; exact hb, by rw [e2]; exact h.nm.kept hk (hne nb (by rw [h.rn]; decide)), by rw [e3]; exact h.sf.kept hk (hne sb (by rw [h.rs]; decide)), by rw [e4]; exact h.ch.kept hk (fun k e => hne k (by rw [h.rc k e]; decide)), fun f hf => ?_, by rw [e1, e5]; exact h.okf, by rw [e2]; exact h.nmf, by rw [e3]; exact h.sff, by rw [e4]; exact h.chf, h.rd, h.rn, h.rs, h.rc, fun k hk2 => ⟨(h.new k hk2).1, Nat.lt_of_lt_of_le (h.new k hk2).2 hk.size⟩, by rw [e1]; exact h.room, by rw [e2, e3, e4]; have := h.lens; omega, hl, by rw [e2, e3, e4]; exact h.txs⟩
  obtain ⟨v, h1, h2, h3⟩ := h.fil f hf
  rw [e5]
  exact ⟨v, h1.kept hk (hne f (by rw [hf]; decide)), h2.kept hk (fun k e => hne k (by rw [h3 k e]; omega)), h3⟩

end

/-- May it be a file's name? -/
def let9 (c : Nat) : Bool := decide (97 ≤ c ∧ c ≤ 122) || decide (48 ≤ c ∧ c ≤ 57) || c == 46 || c == 45

set_option maxHeartbeats 400000 in
theorem ddown_any (w : World) (d : Nat) (x : Int) (h : w.cell? ⟨d, 5, none⟩ = some (.int .i64 x)) :
    Calls Try.prog 26 #[.pointer (some ⟨d, 0, none⟩)] w fun e w' => e = .returned (.bool (x == 0)) ∧ w' = w := by
  go_enter Try.func26, Try.ntmps26
  go_wp2_with fail
  all_goals
    go_ret
    exact ⟨rfl, rfl⟩

set_option maxHeartbeats 400000 in
theorem ddown_nil (w : World) :
    Calls Try.prog 26 #[.pointer none] w fun e w' => e = .returned (.bool false) ∧ w' = w := by
  go_enter Try.func26, Try.ntmps26
  go_wp2_with fail
  all_goals
    go_ret
    exact ⟨rfl, rfl⟩

/-- Whether it has stopped, as an error. -/
def dwn (x : Int) : Nat := if x = 0 then 94 else 0

set_option maxHeartbeats 400000 in
theorem drefuse_any (w : World) (d : Nat) (x : Int) (h : w.cell? ⟨d, 5, none⟩ = some (.int .i64 x)) :
    Calls Try.prog 57 #[.pointer (some ⟨d, 0, none⟩)] w fun e w' => e = .returned (.int .i64 (dwn x : Nat)) ∧ w' = w := by
  have HD := ddown_any w d x h
  have HDW : Hid (dwn x = if x = 0 then 94 else 0) := hid rfl
  by_cases hx : x = 0
  · rw [show (x == 0) = true by simp [hx]] at HD
    have HE : Hid (dwn x = 94) := hid (by rw [HDW.out, if_pos hx])
    clear hx h
    go_enter Try.func57, Try.ntmps57
    go_wp2_with fail
    refine HD.mono ?_
    rintro e w1 ⟨rfl, hw1⟩
    subst hw1
    go_wp2_with fail
    go_ret
    exact ⟨by rw [HE.out]; rfl, rfl⟩
  · rw [show (x == 0) = false by simp [hx]] at HD
    have HE : Hid (dwn x = 0) := hid (by rw [HDW.out, if_neg hx])
    clear hx h
    go_enter Try.func57, Try.ntmps57
    go_wp2_with fail
    refine HD.mono ?_
    rintro e w1 ⟨rfl, hw1⟩
    subst hw1
    go_wp2_with fail
    go_ret
    exact ⟨by rw [HE.out]; rfl, rfl⟩

set_option maxHeartbeats 400000 in
theorem drefuse_nil (w : World) :
    Calls Try.prog 57 #[.pointer none] w fun e w' => e = .returned (.int .i64 3) ∧ w' = w := by
  go_enter Try.func57, Try.ntmps57
  go_wp2_with fail
  go_ret
  exact ⟨rfl, rfl⟩

/-- The state behind a step. -/
def stepS (s : Ds) : Ds := { s with steps := s.steps + 1, left := if s.left = -1 then -1 else s.left - 1 }

set_option maxRecDepth 100000 in
set_option maxHeartbeats 400000 in
theorem dstep_any {N : Nat} {w : World} {d : Nat} {s : Ds} {ρ : Rho} {nb sb : Nat} {cv : Value} (h : Dk N w d s ρ nb sb cv) (hst : s.steps ≤ 1000000000) :
    Calls Try.prog 60 #[.pointer (some ⟨d, 0, none⟩)] w fun e w' => e = .returned (.int .i64 0) ∧ Dk N w' d (stepS s) ρ nb sb cv ∧ Kept (· = d) w w' := by
  have HD : Hid (Dk N w d s ρ nb sb cv) := h
  have c4 : w.cell? ⟨d, 4, none⟩ = some (.int .i64 (s.steps : Nat)) := h.blk.cell 4
  have c5 : w.cell? ⟨d, 5, none⟩ = some (.int .i64 s.left) := h.blk.cell 5
  have z4 := h.blk.frozen 4
  have z5 := h.blk.frozen 5
  have hlb := h.left
  obtain ⟨st, hst'⟩ : ∃ n, n = s.steps := ⟨_, rfl⟩
  obtain ⟨lf, hlf⟩ : ∃ n, n = s.left := ⟨_, rfl⟩
  rw [← hst'] at c4 hst
  rw [← hlf] at c5 hlb
  have HX : Hid (st = s.steps ∧ lf = s.left) := hid ⟨hst', hlf⟩
  obtain ⟨st1, hst1⟩ : ∃ n, n = st + 1 := ⟨_, rfl⟩
  have q1 : (st : Int) + 1 = (st1 : Int) := by omega
  have q1w : IntKind.i64.wrap (st1 : Int) = (st1 : Int) := by rw [IntKind.wrap_i64]; omega
  have HS1 : Hid (st1 = st + 1) := hst1
  clear h hst' hlf hst1
  by_cases hn : lf = -1
  · have b1 : (lf != -1) = false := by simp [hn]
    have HN : Hid (lf = -1) := hn
    clear hn
    go_enter Try.func60, Try.ntmps60
    go_wp2_with fail
    go_ret
    have hk : Kept (· = d) w (w.setCell ⟨d, 4, none⟩ (.int .i64 (st1 : Nat))) := (Kept.refl (· = d) w).setCell _ _ (.inl rfl)
    refine ⟨rfl, HD.out.setBlk hk ?_ ⟨rfl, rfl, rfl, rfl, rfl⟩ (Nat.le_succ _) ?_, hk⟩
    · have h9 := HD.out.blk.set 4 (.int .i64 (st1 : Nat))
      have e1 : (stepS s).steps = st1 := by rw [HS1.out, HX.out.1]; rfl
      have e2 : (stepS s).left = s.left := by show (if s.left = -1 then -1 else s.left - 1) = s.left; rw [← HX.out.2, HN.out, if_pos rfl]
      rw [e1, e2]
      simpa using h9
    · show -1 ≤ (if s.left = -1 then -1 else s.left - 1) ∧ (if s.left = -1 then -1 else s.left - 1) ≤ 9223372036854775807
      rw [← HX.out.2, HN.out, if_pos rfl]; omega
  · have b1 : (lf != -1) = true := by simp [hn]
    have q2w : IntKind.i64.wrap (lf - 1) = lf - 1 := by rw [IntKind.wrap_i64]; omega
    have HN : Hid (¬ lf = -1) := hn
    clear hn
    go_enter Try.func60, Try.ntmps60
    go_wp2_with fail
    go_ret
    obtain ⟨wz, hwz⟩ : ∃ W, W = (w.setCell ⟨d, 4, none⟩ (.int .i64 (st1 : Nat))).setCell ⟨d, 5, none⟩ (.int .i64 (lf - 1)) := ⟨_, rfl⟩
    have hk : Kept (· = d) w wz := by rw [hwz]; exact ((Kept.refl (· = d) w).setCell _ _ (.inl rfl)).setCell _ _ (.inl rfl)
    rw [← hwz]
    have e1 : (stepS s).steps = st1 := by rw [HS1.out, HX.out.1]; rfl
    have e2 : (stepS s).left = lf - 1 := by show (if s.left = -1 then -1 else s.left - 1) = lf - 1; rw [← HX.out.2, if_neg HN.out]
    refine ⟨rfl, HD.out.setBlk hk ?_ ⟨rfl, rfl, rfl, rfl, rfl⟩ (Nat.le_succ _) ?_, hk⟩
    · have h9 := (HD.out.blk.set 4 (.int .i64 (st1 : Nat))).set 5 (.int .i64 (lf - 1))
      rw [e1, e2, hwz]
      simpa using h9
    · have h8 := HD.out.left; have h7 := HN.out; have h6 := HX.out.2; rw [e2]; omega

end Go.Proofs.Ytjcobogajkfnmaa

/-
  Layer 9: New; what may be a name; find.
-/
namespace Go.Proofs.Ytjcobogajkfnmaa
open Go.RowKit Go.Maps

set_option maxHeartbeats 400000 in
theorem dnew_bad (w : World) (n : Int) (h : n < 1 ∨ 4194304 < n) :
    Calls Try.prog 8 #[.int .i64 n] w fun e w' => e = .returned (.tuple #[.pointer none, .int .i64 1]) ∧ w' = w := by
  by_cases h1 : n < 1
  · have b1 : decide (n < 1) = true := by simp; omega
    go_enter Try.func8, Try.ntmps8
    go_wp2_with fail
    all_goals
      go_ret2
      exact ⟨rfl, rfl⟩
  · have b1 : decide (n < 1) = false := by simp; omega
    have b2 : decide (4194304 < n) = true := by simp; omega
    go_enter Try.func8, Try.ntmps8
    go_wp2_with fail
    all_goals
      go_ret2
      exact ⟨rfl, rfl⟩

/-- A new disk. -/
def newD (room : Nat) : Ds := ⟨room, [], [], [], 0, -1, fun _ => ⟨[], 0⟩⟩

set_option maxHeartbeats 400000 in
theorem dnew_good (w : World) (n : Nat) (h1 : 1 ≤ n) (h2 : n ≤ 4194304) :
    Calls Try.prog 8 #[.int .i64 (n : Nat)] w fun e w' => ∃ d ρ nb sb cv, e = .returned (.tuple #[.pointer (some ⟨d, 0, none⟩), .int .i64 0]) ∧ Dk w.heap.size w' d (newD n) ρ nb sb cv ∧ Same w w' := by
  have b1 : decide ((n : Int) < 1) = false := by simp; omega
  have b1' : decide (n < 1) = false := by simp; omega
  have b2 : decide ((4194304 : Int) < (n : Int)) = false := by simp; omega
  have b2' : decide (4194304 < n) = false := by simp; omega
  have HH : Hid (1 ≤ n ∧ n ≤ 4194304) := hid ⟨h1, h2⟩
  have hmm := @run_makeMap Try.prog
  clear h1 h2
  go_enter Try.func8, Try.ntmps8
  go_wp2_with fail
  go_ret2
  obtain ⟨w1, hw1⟩ : ∃ W, W = w.alloc (.map #[] 0) := ⟨_, rfl⟩
  obtain ⟨w2, hw2⟩ : ∃ W, W = w1.alloc (.map #[] 0) := ⟨_, rfl⟩
  have s1 : w1.heap.size = w.heap.size + 1 := by rw [hw1]; exact Array.size_push ..
  have s2 : w2.heap.size = w.heap.size + 2 := by rw [hw2, ← Nat.add_assoc w.heap.size 1 1, ← s1]; exact Array.size_push ..
  have m1 : Mp w1 w.heap.size [] := by rw [hw1]; exact Mp.new w
  have m2 : Mp w2 (w.heap.size + 1) [] := by rw [hw2, ← s1]; exact Mp.new w1
  have k1 : Same w w1 := by rw [hw1]; exact (Kept.refl _ w).alloc _
  have k2 : Same w1 w2 := by rw [hw2]; exact (Kept.refl _ w1).alloc _
  rw [← hw1, ← hw2]
  obtain ⟨w3, hw3⟩ : ∃ W, W = w2.alloc (.cells #[.int .i64 (n : Nat), .map (some w.heap.size), .map (some (w.heap.size + 1)), .slice none 0 0, .int .i64 0, .int .i64 (-1)] 62) := ⟨_, rfl⟩
  have k3 : Same w2 w3 := by rw [hw3]; exact (Kept.refl _ w2).alloc _
  have B3 : Blk w3 w2.heap.size #[.int .i64 (n : Nat), .map (some w.heap.size), .map (some (w.heap.size + 1)), .slice none 0 0, .int .i64 0, .int .i64 (-1)] 62 := by rw [hw3]; exact Blk.new w2 _ _
  have s3 : w3.heap.size = w.heap.size + 3 := by rw [hw3, ← Nat.add_assoc w.heap.size 2 1, ← s2]; exact Array.size_push ..
  refine ⟨w.heap.size + 2, fun k => if k = w.heap.size + 2 then 1 else if k = w.heap.size then 2 else if k = w.heap.size + 1 then 3 else 0, w.heap.size, w.heap.size + 1, .slice none 0 0, by rw [← s2]; rfl, ?_, ?_⟩
  rotate_left
  · rw [← hw3]; exact Same.trans k1 (Same.trans k2 k3)
  · rw [← hw3]
    rw [s2] at B3
    have hne : ∀ k, (if k = w.heap.size + 2 then 1 else if k = w.heap.size then 2 else if k = w.heap.size + 1 then 3 else 0) ≠ 5 := by
      intro k; split; decide; split; decide; split <;> decide
    refine ⟨B3, (m1.kept k2 (fun f => f)).kept k3 (fun f => f), m2.kept k3 (fun f => f), RowC.nil, fun f hf => absurd hf (hne f), fun f hf => absurd hf (hne f), by simp [newD], by simp [newD], by simp [newD], by simp, by simp, by simp, by simp [Value.ownBlock], ?_, HH.out.2, by simp [newD], by simp [newD], by simp [newD]⟩
    intro k hk
    rw [s3]
    revert hk
    split; omega; split; omega; split; omega; simp

set_option maxHeartbeats 800000 in
theorem dlet_any (w : World) (c : Nat) (hc : c < 256) :
    Calls Try.prog 73 #[.int .u8 (c : Nat)] w fun e w' => e = .returned (.bool (let9 c)) ∧ w' = w := by
  rcases (by omega : (c < 45) ∨ (c = 45) ∨ (c = 46) ∨ (c = 47) ∨ (48 ≤ c ∧ c ≤ 57) ∨ (58 ≤ c ∧ c ≤ 96) ∨ (97 ≤ c ∧ c ≤ 122) ∨ (122 < c)) with h | h | h | h | h | h | h | h
  · have b0 : decide ((97 : Int) ≤ (c : Int)) = false := by simp; omega
    have n0 : decide (97 ≤ c) = false := by simp; omega
    have b1 : decide ((c : Int) ≤ 122) = true := by simp; omega
    have n1 : decide (c ≤ 122) = true := by simp; omega
    have b2 : decide ((48 : Int) ≤ (c : Int)) = false := by simp; omega
    have n2 : decide (48 ≤ c) = false := by simp; omega
    have b3 : decide ((c : Int) ≤ 57) = true := by simp; omega
    have n3 : decide (c ≤ 57) = true := by simp; omega
    have b4 : ((c : Int) == 46) = false := by simp; omega
    have b5 : ((c : Int) == 45) = false := by simp; omega
    have HR : Hid (let9 c = false) := hid (by unfold let9; simp; omega)
    clear h
    go_enter Try.func73, Try.ntmps73
    go_wp2_with fail
    go_ret
    exact ⟨by rw [HR.out]; rfl, rfl⟩
  · have b0 : decide ((97 : Int) ≤ (c : Int)) = false := by simp; omega
    have n0 : decide (97 ≤ c) = false := by simp; omega
    have b1 : decide ((c : Int) ≤ 122) = true := by simp; omega
    have n1 : decide (c ≤ 122) = true := by simp; omega
    have b2 : decide ((48 : Int) ≤ (c : Int)) = false := by simp; omega
    have n2 : decide (48 ≤ c) = false := by simp; omega
    have b3 : decide ((c : Int) ≤ 57) = true := by simp; omega
    have n3 : decide (c ≤ 57) = true := by simp; omega
    have b4 : ((c : Int) == 46) = false := by simp; omega
    have b5 : ((c : Int) == 45) = true := by simp; omega
    have HR : Hid (let9 c = true) := hid (by unfold let9; simp; omega)
    clear h
    go_enter Try.func73, Try.ntmps73
    go_wp2_with fail
    go_ret
    exact ⟨by rw [HR.out]; rfl, rfl⟩
  · have b0 : decide ((97 : Int) ≤ (c : Int)) = false := by simp; omega
    have n0 : decide (97 ≤ c) = false := by simp; omega
    have b1 : decide ((c : Int) ≤ 122) = true := by simp; omega
    have n1 : decide (c ≤ 122) = true := by simp; omega
    have b2 : decide ((48 : Int) ≤ (c : Int)) = false := by simp; omega
    have n2 : decide (48 ≤ c) = false := by simp; omega
    have b3 : decide ((c : Int) ≤ 57) = true := by simp; omega
    have n3 : decide (c ≤ 57) = true := by simp; omega
    have b4 : ((c : Int) == 46) = true := by simp; omega
    have b5 : ((c : Int) == 45) = false := by simp; omega
    have HR : Hid (let9 c = true) := hid (by unfold let9; simp; omega)
    clear h
    go_enter Try.func73, Try.ntmps73
    go_wp2_with fail
    go_ret
    exact ⟨by rw [HR.out]; rfl, rfl⟩
  · have b0 : decide ((97 : Int) ≤ (c : Int)) = false := by simp; omega
    have n0 : decide (97 ≤ c) = false := by simp; omega
    have b1 : decide ((c : Int) ≤ 122) = true := by simp; omega
    have n1 : decide (c ≤ 122) = true := by simp; omega
    have b2 : decide ((48 : Int) ≤ (c : Int)) = false := by simp; omega
    have n2 : decide (48 ≤ c) = false := by simp; omega
    have b3 : decide ((c : Int) ≤ 57) = true := by simp; omega
    have n3 : decide (c ≤ 57) = true := by simp; omega
    have b4 : ((c : Int) == 46) = false := by simp; omega
    have b5 : ((c : Int) == 45) = false := by simp; omega
    have HR : Hid (let9 c = false) := hid (by unfold let9; simp; omega)
    clear h
    go_enter Try.func73, Try.ntmps73
    go_wp2_with fail
    go_ret
    exact ⟨by rw [HR.out]; rfl, rfl⟩
  · have b0 : decide ((97 : Int) ≤ (c : Int)) = false := by simp; omega
    have n0 : decide (97 ≤ c) = false := by simp; omega
    have b1 : decide ((c : Int) ≤ 122) = true := by simp; omega
    have n1 : decide (c ≤ 122) = true := by simp; omega
    have b2 : decide ((48 : Int) ≤ (c : Int)) = true := by simp; omega
    have n2 : decide (48 ≤ c) = true := by simp; omega
    have b3 : decide ((c : Int) ≤ 57) = true := by simp; omega
    have n3 : decide (c ≤ 57) = true := by simp; omega
    have b4 : ((c : Int) == 46) = false := by simp; omega
    have b5 : ((c : Int) == 45) = false := by simp; omega
    have HR : Hid (let9 c = true) := hid (by unfold let9; simp; omega)
    clear h
    go_enter Try.func73, Try.ntmps73
    go_wp2_with fail
    go_ret
    exact ⟨by rw [HR.out]; rfl, rfl⟩
  · have b0 : decide ((97 : Int) ≤ (c : Int)) = false := by simp; omega
    have n0 : decide (97 ≤ c) = false := by simp; omega
    have b1 : decide ((c : Int) ≤ 122) = true := by simp; omega
    have n1 : decide (c ≤ 122) = true := by simp; omega
    have b2 : decide ((48 : Int) ≤ (c : Int)) = true := by simp; omega
    have n2 : decide (48 ≤ c) = true := by simp; omega
    have b3 : decide ((c : Int) ≤ 57) = false := by simp; omega
    have n3 : decide (c ≤ 57) = false := by simp; omega
    have b4 : ((c : Int) == 46) = false := by simp; omega
    have b5 : ((c : Int) == 45) = false := by simp; omega
    have HR : Hid (let9 c = false) := hid (by unfold let9; simp; omega)
    clear h
    go_enter Try.func73, Try.ntmps73
    go_wp2_with fail
    go_ret
    exact ⟨by rw [HR.out]; rfl, rfl⟩
  · have b0 : decide ((97 : Int) ≤ (c : Int)) = true := by simp; omega
    have n0 : decide (97 ≤ c) = true := by simp; omega
    have b1 : decide ((c : Int) ≤ 122) = true := by simp; omega
    have n1 : decide (c ≤ 122) = true := by simp; omega
    have b2 : decide ((48 : Int) ≤ (c : Int)) = true := by simp; omega
    have n2 : decide (48 ≤ c) = true := by simp; omega
    have b3 : decide ((c : Int) ≤ 57) = false := by simp; omega
    have n3 : decide (c ≤ 57) = false := by simp; omega
    have b4 : ((c : Int) == 46) = false := by simp; omega
    have b5 : ((c : Int) == 45) = false := by simp; omega
    have HR : Hid (let9 c = true) := hid (by unfold let9; simp; omega)
    clear h
    go_enter Try.func73, Try.ntmps73
    go_wp2_with fail
    go_ret
    exact ⟨by rw [HR.out]; rfl, rfl⟩
  · have b0 : decide ((97 : Int) ≤ (c : Int)) = true := by simp; omega
    have n0 : decide (97 ≤ c) = true := by simp; omega
    have b1 : decide ((c : Int) ≤ 122) = false := by simp; omega
    have n1 : decide (c ≤ 122) = false := by simp; omega
    have b2 : decide ((48 : Int) ≤ (c : Int)) = true := by simp; omega
    have n2 : decide (48 ≤ c) = true := by simp; omega
    have b3 : decide ((c : Int) ≤ 57) = false := by simp; omega
    have n3 : decide (c ≤ 57) = false := by simp; omega
    have b4 : ((c : Int) == 46) = false := by simp; omega
    have b5 : ((c : Int) == 45) = false := by simp; omega
    have HR : Hid (let9 c = false) := hid (by unfold let9; simp; omega)
    clear h
    go_enter Try.func73, Try.ntmps73
    go_wp2_with fail
    go_ret
    exact ⟨by rw [HR.out]; rfl, rfl⟩

set_option maxHeartbeats 400000 in
theorem dfind_down (w : World) (d : Nat) (s : ByteArray) (h : w.cell? ⟨d, 5, none⟩ = some (.int .i64 0)) :
    Calls Try.prog 61 #[.pointer (some ⟨d, 0, none⟩), .string s] w fun e w' => e = .returned (.tuple #[.pointer none, .int .i64 94]) ∧ w' = w := by
  have HR := drefuse_any w d 0 h
  rw [show dwn 0 = 94 from rfl] at HR
  go_enter Try.func61, Try.ntmps61
  go_wp2_with fail
  refine HR.mono ?_
  rintro e w1 ⟨rfl, hw1⟩
  subst hw1
  go_wp2_with fail
  go_ret2
  exact ⟨rfl, rfl⟩

set_option maxHeartbeats 400000 in
theorem dfind_nil (w : World) (s : ByteArray) :
    Calls Try.prog 61 #[.pointer none, .string s] w fun e w' => e = .returned (.tuple #[.pointer none, .int .i64 3]) ∧ w' = w := by
  have HR := drefuse_nil w
  go_enter Try.func61, Try.ntmps61
  go_wp2_with fail
  refine HR.mono ?_
  rintro e w1 ⟨rfl, hw1⟩
  subst hw1
  go_wp2_with fail
  go_ret2
  exact ⟨rfl, rfl⟩

/-- What find answers of a disk that has not stopped. -/
def fndD (x : Option Nat) : Value := match x with
  | some f => .tuple #[.pointer (some ⟨f, 0, none⟩), .int .i64 0]
  | none => .tuple #[.pointer none, .int .i64 92]

set_option maxHeartbeats 400000 in
theorem dfind_any {N : Nat} {w : World} {d : Nat} {s : Ds} {ρ : Rho} {nb sb : Nat} {cv : Value} (h : Dk N w d s ρ nb sb cv) (hl : s.left ≠ 0) (t : ByteArray) (ht : t.size ≤ maxLen) :
    Calls Try.prog 61 #[.pointer (some ⟨d, 0, none⟩), .string t] w fun e w' => e = .returned (fndD (getN t s.names)) ∧ w' = w := by
  have HR := drefuse_any w d s.left (h.blk.cell 5)
  rw [show dwn s.left = 0 from if_neg hl] at HR
  have hlk := h.nm.look t ht
  have c1 : w.cell? ⟨d, 1, none⟩ = some (.map (some nb)) := h.blk.cell 1
  obtain ⟨g, hg⟩ : ∃ g, g = getN t s.names := ⟨_, rfl⟩
  rw [← hg] at hlk ⊢
  clear h hl hg
  go_enter Try.func61, Try.ntmps61
  go_wp2_with fail
  refine HR.mono ?_
  rintro e w1 ⟨rfl, hw1⟩
  subst hw1
  cases g with
  | none =>
    go_wp2_with fail
    go_ret2
    exact ⟨rfl, rfl⟩
  | some f =>
    go_wp2_with fail
    go_ret2
    exact ⟨rfl, rfl⟩

end Go.Proofs.Ytjcobogajkfnmaa

/-
  Layer 9: what may be a name.
-/
namespace Go.Proofs.Ytjcobogajkfnmaa
open Go.RowKit Go.Maps

/-- The bytes of a text. -/
def by9 (s : ByteArray) : List Nat := s.data.toList.map UInt8.toNat
theorem by9_size (s : ByteArray) : (by9 s).length = s.size := by simp [by9]
theorem by9_lt (s : ByteArray) : ∀ b ∈ by9 s, b < 256 := by
  intro b hb
  obtain ⟨x, _, rfl⟩ := List.mem_map.1 hb
  exact x.toNat_lt
theorem by9_at (s : ByteArray) (i : Nat) (h : i < s.size) : (by9 s)[i]? = some s[i].toNat := by
  unfold by9
  rw [List.getElem?_map]
  have : s.data.toList[i]? = some s[i] := by
    rw [Array.getElem?_toList, Array.getElem?_eq_getElem h]
    rfl
  rw [this]
  rfl

/-- May it be a name? -/
def nam9 (s : ByteArray) : Bool := decide (1 ≤ s.size) && decide (s.size ≤ 32) && (by9 s).all let9

set_option maxRecDepth 100000 in
set_option maxHeartbeats 1000000 in
theorem dname_any (w : World) (s : ByteArray) (hn : s.size ≤ 100000000) :
    Calls Try.prog 58 #[.string s] w fun e w' => e = .returned (.bool (nam9 s)) ∧ w' = w := by
  obtain ⟨n, hnn⟩ : ∃ n, n = s.size := ⟨_, rfl⟩
  have HN : Hid (n = s.size ∧ (by9 s).length = n) := hid ⟨hnn, by rw [by9_size, hnn]⟩
  have hlen : (s.size : Int) = (n : Int) := by rw [hnn]
  have HG : Hid (nam9 s = (decide (1 ≤ n) && decide (n ≤ 32) && (by9 s).all let9)) := hid (by rw [hnn]; rfl)
  have hnb : n ≤ 100000000 := by omega
  clear hnn hn
  by_cases h1 : n < 1
  · have HF : Hid (nam9 s = false) := hid (by rw [HG.out, decide_eq_false (by omega)]; rfl)
    go_enter Try.func58, Try.ntmps58
    go_wp2_with fail
    all_goals
      go_ret
      exact ⟨by rw [HF.out]; rfl, rfl⟩
  · by_cases h2 : 32 < n
    · have HF : Hid (nam9 s = false) := hid (by rw [HG.out, decide_eq_false (p := n ≤ 32) (by omega), Bool.and_false]; rfl)
      go_enter Try.func58, Try.ntmps58
      go_wp2_with fail
      all_goals
        go_ret
        exact ⟨by rw [HF.out]; rfl, rfl⟩
    · have HF : Hid (nam9 s = (by9 s).all let9) := hid (by rw [HG.out, decide_eq_true (p := 1 ≤ n) (by omega), decide_eq_true (p := n ≤ 32) (by omega)]; rfl)
      clear HG
      go_enter Try.func58, Try.ntmps58
      go_wp2_with fail
      go_loopg [3, 14] n (fun k z3 z14 wr => ∃ i : Nat, z14 = .int .i64 (i : Nat) ∧ n - i ≤ k ∧ wr = w ∧ i ≤ n ∧ Hid (nam9 s = ((by9 s).drop i).all let9))
      case atStart => exact ⟨0, rfl, by omega, rfl, by omega, hid HF.out⟩
      case round =>
        obtain ⟨i, rfl, hk, rfl, hi, HI⟩ := hrel
        by_cases hin : i < n
        · have hiw : IntKind.i64.wrap ((i : Int) + 1) = ((i + 1 : Nat) : Int) := by rw [IntKind.wrap_i64]; omega
          have b1 : decide (i < n) = true := by simp; omega
          have i1 : (0 : Int) ≤ (i : Int) := by omega
          have i2 : (i : Int) < (n : Int) := by omega
          have hs : i < s.size := by have := HN.out.1; omega
          have hat := by9_at s i hs
          obtain ⟨c, hc⟩ : ∃ c, c = s[i].toNat := ⟨_, rfl⟩
          have hc256 : c < 256 := by rw [hc]; exact UInt8.toNat_lt _
          rw [← hc] at hat
          have hD : (by9 s).drop i = c :: (by9 s).drop (i + 1) := by
            rw [List.drop_eq_getElem_cons (List.getElem?_eq_some_iff.1 hat).1, (List.getElem?_eq_some_iff.1 hat).2]
          have HI2 : Hid (nam9 s = (let9 c && ((by9 s).drop (i + 1)).all let9)) := hid (by rw [HI.out, hD]; rfl)
          have HL := dlet_any wr c hc256
          have hxI : (s[i].toNat : Int) = (c : Int) := by rw [hc]
          clear hD hat hc256 hc HI
          cases hp : let9 c with
          | true =>
            rw [hp] at HL HI2
            clear hp
            go_wp2_with fail
            refine HL.mono ?_
            rintro e w2 ⟨rfl, hw2⟩
            subst hw2
            clear HL
            go_wp2_with fail
            go_roundg (gk - 1)
            case measure => omega
            case rel => exact ⟨i + 1, by go_num, by omega, rfl, by omega, hid (by rw [HI2.out]; rfl)⟩
          | false =>
            rw [hp] at HL HI2
            clear hp
            go_wp2_with fail
            refine HL.mono ?_
            rintro e w2 ⟨rfl, hw2⟩
            subst hw2
            clear HL
            go_wp2_with fail
            go_ret
            exact ⟨by rw [HI2.out]; rfl, rfl⟩
        · have b1 : decide (i < n) = false := by simp; omega
          have HD : Hid (nam9 s = true) := hid (by rw [HI.out, List.drop_eq_nil_of_le (by have := HN.out; omega)]; rfl)
          clear HI
          go_wp2_with fail
          go_ret
          exact ⟨by rw [HD.out]; rfl, rfl⟩

end Go.Proofs.Ytjcobogajkfnmaa
