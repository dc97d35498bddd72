/-
  Of the proof: parts Math, Base, Own, Own2, HRow, HSortM, HSwap, HIns, HSym, HSym2.
-/
import Derived.WalkKit
import Derived.WalkSpells
import Derived.WalkLawsBesides
import Derived.Deep.QuietTactic
import Derived.Deep.LoopGhost
import Derived.Deep.Cut
import Derived.Deep.CutRange
import Derived.BigQuiet
import Derived.BigRegion
import Derived.Laws.CopyOwn
import Derived.RegionTactic
import Derived.ChangeAlike
import Derived.Deep.RegionWith
import Derived.Test.YtofhlnpbflkdlaaDoorProg

/-
  Plain arithmetic on bits and bytes: nothing of the program.
-/
namespace Go.Proofs.YtofhlnpbflkdlaaDoor

/-- The number of bytes, the lowest first. -/
def n256 : List Nat → Nat
  | [] => 0
  | b :: r => b + 256 * n256 r

/-- The number of bits, the lowest first. -/
def n2 : List Nat → Nat
  | [] => 0
  | b :: r => b + 2 * n2 r

theorem n256_append (a b : List Nat) : n256 (a ++ b) = n256 a + 256 ^ a.length * n256 b := by
  induction a with
  | nil => simp [n256]
  | cons x r ih => 
    simp only [List.cons_append, n256, ih, List.length_cons, Nat.pow_succ, Nat.mul_add, Nat.add_assoc]
    rw [Nat.mul_comm (256 ^ r.length) 256, Nat.mul_assoc]

theorem n2_append (a b : List Nat) : n2 (a ++ b) = n2 a + 2 ^ a.length * n2 b := by
  induction a with
  | nil => simp [n2]
  | cons x r ih => 
    simp only [List.cons_append, n2, ih, List.length_cons, Nat.pow_succ, Nat.mul_add, Nat.add_assoc]
    rw [Nat.mul_comm (2 ^ r.length) 2, Nat.mul_assoc]

theorem n256_lt (l : List Nat) (h : ∀ b ∈ l, b < 256) : n256 l < 256 ^ l.length := by
  induction l with
  | nil => simp [n256]
  | cons x r ih =>
    have h1 := h x (by simp)
    have h2 := ih (fun b hb => h b (by simp [hb]))
    simp only [n256, List.length_cons, Nat.pow_succ]
    omega

theorem n2_lt (l : List Nat) (h : ∀ b ∈ l, b < 2) : n2 l < 2 ^ l.length := by
  induction l with
  | nil => simp [n2]
  | cons x r ih =>
    have h1 := h x (by simp)
    have h2 := ih (fun b hb => h b (by simp [hb]))
    simp only [n2, List.length_cons, Nat.pow_succ]
    omega

theorem n256_inj (a b : List Nat) (hl : a.length = b.length) (ha : ∀ x ∈ a, x < 256) (hb : ∀ x ∈ b, x < 256) (h : n256 a = n256 b) : a = b := by
  induction a generalizing b with
  | nil => cases b with
    | nil => rfl
    | cons => simp at hl
  | cons x r ih => cases b with
    | nil => simp at hl
    | cons y s =>
      have h1 := ha x (by simp)
      have h2 := hb y (by simp)
      simp only [n256] at h
      simp only [List.length_cons, Nat.add_right_cancel_iff] at hl
      have e := ih s hl (fun b hb' => ha b (by simp [hb'])) (fun b hb' => hb b (by simp [hb'])) (by omega)
      rw [e]
      congr 1
      omega

theorem pow8 (k : Nat) : 256 ^ k = 2 ^ (8 * k) := by rw [Nat.pow_mul]

theorem n256_get (l : List Nat) (h : ∀ b ∈ l, b < 256) (i : Nat) (hi : i < l.length) : n256 l / 2 ^ (8 * i) % 256 = l[i] := by
  rw [← pow8]
  induction l generalizing i with
  | nil => simp at hi
  | cons x r ih =>
    have h1 := h x (by simp)
    cases i with
    | zero => simp [n256]; omega
    | succ k =>
      have := ih (fun b hb => h b (by simp [hb])) k (by simpa using hi)
      simp only [n256, Nat.pow_succ, List.getElem_cons_succ]
      rw [Nat.mul_comm (256 ^ k) 256, ← Nat.div_div_eq_div_mul, show (x + 256 * n256 r) / 256 = n256 r by omega]
      exact this

/-- The last byte has no bit beyond what was laid. -/
theorem last_lt (bs : List Nat) (b c free : Nat) (hc : 8 * (bs.length + 1) = c + free) (hf : free ≤ 8) (h : n256 (bs ++ [b]) < 2 ^ c) : b < 2 ^ (8 - free) := by
  rw [n256_append] at h
  simp only [n256, Nat.mul_zero, Nat.add_zero] at h
  have e : c = 8 * bs.length + (8 - free) := by omega
  rw [e, Nat.pow_add, ← pow8] at h
  have : 256 ^ bs.length * b < 256 ^ bs.length * 2 ^ (8 - free) := by omega
  exact Nat.lt_of_mul_lt_mul_left this

/-- What the last byte takes up. -/
theorem last_set (bs : List Nat) (b c free x : Nat) (hc : 8 * (bs.length + 1) = c + free) (hf : free ≤ 8) : n256 (bs ++ [b + 2 ^ (8 - free) * x]) = n256 (bs ++ [b]) + 2 ^ c * x := by
  have e : c = 8 * bs.length + (8 - free) := by omega
  simp only [n256_append, n256, Nat.mul_zero, Nat.add_zero]
  rw [e, Nat.pow_add, ← pow8, Nat.mul_add, Nat.mul_assoc, Nat.add_assoc]

theorem or_add (b k x : Nat) (h : b < 2 ^ k) : b ||| (2 ^ k * x) = b + 2 ^ k * x := by
  rw [Nat.or_comm, ← Nat.two_pow_add_eq_or_of_lt h, Nat.add_comm]

/-- A number that is shifted into a byte: what falls off its upper end. -/
theorem shl_byte (v free : Nat) (hf : free ≤ 8) : v * 2 ^ (8 - free) % 256 = 2 ^ (8 - free) * (v % 2 ^ free) := by
  have : (256 : Nat) = 2 ^ (8 - free) * 2 ^ free := by rw [← Nat.pow_add]; simp [hf]
  rw [this, Nat.mul_comm, Nat.mul_mod_mul_left]

theorem pow_split (v k : Nat) : v % 2 ^ k + 2 ^ k * (v / 2 ^ k) = v := by rw [Nat.mod_add_div]

/-- One round of laying: as many bits as the byte has room for. -/
theorem lay_step (X v n c free : Nat) (hv : v < 2 ^ n) :
    X + 2 ^ c * (v % 2 ^ free) + v / 2 ^ (min free n) * 2 ^ (c + min free n) = X + v * 2 ^ c := by
  by_cases h : free ≤ n
  · rw [Nat.min_eq_left h, Nat.pow_add]
    have e := pow_split v free
    calc X + 2 ^ c * (v % 2 ^ free) + v / 2 ^ free * (2 ^ c * 2 ^ free) = X + 2 ^ c * (v % 2 ^ free + 2 ^ free * (v / 2 ^ free)) := by
          rw [Nat.mul_add, Nat.add_assoc]; congr 2; rw [Nat.mul_comm, Nat.mul_assoc]
      _ = _ := by rw [e, Nat.mul_comm]
  · have h' : n ≤ free := by omega
    have h2 : v < 2 ^ free := Nat.lt_of_lt_of_le hv (Nat.pow_le_pow_right (by omega) h')
    rw [Nat.min_eq_right h', Nat.div_eq_of_lt hv, Nat.mod_eq_of_lt h2, Nat.zero_mul, Nat.add_zero, Nat.mul_comm]

/-- Of a byte some bits: they are the whole number's. -/
theorem byte_part (Z u k : Nat) (h : u + k ≤ 8) : Z % 256 / 2 ^ u % 2 ^ k = Z / 2 ^ u % 2 ^ k := by
  have e : (256 : Nat) = 2 ^ u * 2 ^ (8 - u) := by rw [← Nat.pow_add, show u + (8 - u) = 8 by omega]
  rw [e, Nat.mod_mul_right_div_self, Nat.mod_mod_of_dvd _ (Nat.pow_dvd_pow 2 (by omega))]

/-- More bits of a number. -/
theorem more_bits (Y a k : Nat) : Y % 2 ^ (a + k) = Y % 2 ^ a + 2 ^ a * (Y / 2 ^ a % 2 ^ k) := by
  rw [Nat.pow_add, Nat.mod_mul]

/-- One round of cutting: a part of the byte at which the reader stands. -/
theorem cut_step (bs : List Nat) (hb : ∀ b ∈ bs, b < 256) (g got k : Nat) (hk : (g + got) % 8 + k ≤ 8) (hlt : (g + got) / 8 < bs.length) :
    n256 bs / 2 ^ g % 2 ^ got + 2 ^ got * (bs[(g + got) / 8] / 2 ^ ((g + got) % 8) % 2 ^ k) = n256 bs / 2 ^ g % 2 ^ (got + k) := by
  have e := n256_get bs hb _ hlt
  rw [← e, byte_part _ _ _ hk, Nat.div_div_eq_div_mul, ← Nat.pow_add, show 8 * ((g + got) / 8) + (g + got) % 8 = g + got by omega, more_bits, Nat.div_div_eq_div_mul, ← Nat.pow_add]

theorem and_mask (x k : Nat) : x &&& (2 ^ k - 1) = x % 2 ^ k := Nat.and_two_pow_sub_one_eq_mod x k

end Go.Proofs.YtofhlnpbflkdlaaDoor

/-
  Worlds: what a call may write, what an object of two fields (bytes, a count) holds.
-/
namespace Go.Proofs.YtofhlnpbflkdlaaDoor
open Go.RowKit

/-- A byte's cell. -/
def byteV (b : Nat) : Value := .int .u8 b

theorem byteV_one (l : List Nat) : ∀ u ∈ l.map byteV, u.oneCell' = true := by
  intro u hu
  obtain ⟨b, _, rfl⟩ := List.mem_map.1 hu
  rfl

/-- Of what was there blocks of F alone may have turned. -/
structure Kept (F : Nat → Prop) (w w' : World) : Prop where
  os : w'.os = w.os
  tape : w'.tape = w.tape
  output : w'.output = w.output
  size : w.heap.size ≤ w'.heap.size
  block : ∀ k, k < w.heap.size → ¬ F k → w'.heap[k]? = w.heap[k]?

theorem Kept.refl (F : Nat → Prop) (w : World) : Kept F w w := ⟨rfl, rfl, rfl, Nat.le_refl _, fun _ _ _ => rfl⟩

theorem Kept.trans {F G H : Nat → Prop} {a b c : World} (h : Kept F a b) (k : Kept G b c) (hF : ∀ x, x < a.heap.size → F x → H x) (hG : ∀ x, x < a.heap.size → G x → H x) : Kept H a c :=
  ⟨k.os.trans h.os, k.tape.trans h.tape, k.output.trans h.output, Nat.le_trans h.size k.size,
    fun i hi hn => (k.block i (Nat.lt_of_lt_of_le hi h.size) (fun g => hn (hG i hi g))).trans (h.block i hi (fun g => hn (hF i hi g)))⟩

theorem Kept.mono {F G : Nat → Prop} {a b : World} (h : Kept F a b) (hF : ∀ x, x < a.heap.size → F x → G x) : Kept G a b :=
  ⟨h.os, h.tape, h.output, h.size, fun i hi hn => h.block i hi (fun g => hn (hF i hi g))⟩

theorem Kept.drewN {F : Nat → Prop} {a b : World} (h : Kept F a b) (n : Nat) : Kept F a (b.drewN n) := ⟨h.os, h.tape, h.output, h.size, h.block⟩

theorem Kept.drew {F : Nat → Prop} {a b : World} (h : Kept F a b) : Kept F a b.drew := ⟨h.os, h.tape, h.output, h.size, h.block⟩

theorem Kept.alloc {F : Nat → Prop} {a b : World} (h : Kept F a b) (o : Obj) : Kept F a (b.alloc o) :=
  ⟨h.os, h.tape, h.output, Nat.le_trans h.size (by simp), fun k hk hn => (Below.heap_alloc _ _ _ (Nat.lt_of_lt_of_le hk h.size)).trans (h.block k hk hn)⟩

theorem Kept.setCell {F : Nat → Prop} {a b : World} (h : Kept F a b) (p : Addr) (u : Value) (hp : F p.block ∨ a.heap.size ≤ p.block) : Kept F a (b.setCell p u) :=
  ⟨h.os, h.tape, h.output, Nat.le_trans h.size (by simp [World.setCell]),
    fun k hk hn => (Below.heap_setCell _ _ _ _ (by rintro rfl; rcases hp with hp | hp; exact hn hp; omega)).trans (h.block k hk hn)⟩

theorem Kept.grown {F : Nat → Prop} {a w w' : World} {row : Option Nat} (h : Kept F a w) (hg : w.grownBy w' row) (hr : ∀ k, row = some k → F k ∨ a.heap.size ≤ k) : Kept F a w' :=
  ⟨hg.os.trans h.os, hg.tape.trans h.tape, hg.output.trans h.output, Nat.le_trans h.size hg.size,
    fun k hk hn => (hg.block k (Nat.lt_of_lt_of_le hk h.size) (fun e => by rcases hr k e.symm with q | q; exact hn q; omega)).trans (h.block k hk hn)⟩

theorem Kept.below {F : Nat → Prop} {a b : World} (h : Kept F a b) {B : Nat} (hB : B ≤ a.heap.size) (hF : ∀ x, x < B → ¬ F x) : Below B a b :=
  ⟨h.os, h.tape, h.output, h.size, fun k hk => h.block k (Nat.lt_of_lt_of_le hk hB) (hF k hk)⟩

theorem Kept.ofBelow {F : Nat → Prop} {a b : World} (h : Below a.heap.size a b) : Kept F a b := ⟨h.os, h.tape, h.output, h.size, fun k hk _ => h.block k hk⟩

theorem Kept.cell {F : Nat → Prop} {w w' : World} (h : Kept F w w') {p : Addr} {v : Value} (hc : w.cell? p = some v) (hp : ¬ F p.block) : w'.cell? p = some v :=
  (World.cell?_of_block (h.block p.block (World.block_lt_of_cell? w p hc) hp)).trans hc

theorem Kept.frozen {F : Nat → Prop} {w w' : World} (h : Kept F w w') {p : Addr} (hlt : p.block < w.heap.size) (hp : ¬ F p.block) : w'.frozen? p = w.frozen? p :=
  World.frozen?_of_block (h.block p.block hlt hp)

/-- A slice of bytes that lies at the head of a row of its own. -/
abbrev Row (w : World) (v : Value) (bs : List Nat) : Prop := w.ownsRow 0 5 1 v bs.length (bs.map byteV)

theorem Row.kept {F : Nat → Prop} {w w' : World} {v : Value} {bs : List Nat} (h : Row w v bs) (hk : Kept F w w') (hn : ∀ k, v.ownBlock = some k → ¬ F k) : Row w' v bs := by
  refine ⟨h.1, ?_⟩
  rcases h.2 with hn' | ⟨g, cap, cur, rfl, hb, hgg, rest⟩
  · exact .inl hn'
  · refine .inr ⟨g, cap, cur, rfl, hb, ?_, rest⟩
    rw [hk.block g (Array.getElem?_eq_some_iff.1 hgg).1 (hn g rfl)]
    exact hgg

theorem Row.lt {w : World} {v : Value} {bs : List Nat} (h : Row w v bs) {k : Nat} (hk : v.ownBlock = some k) : k < w.heap.size := (World.ownsRow.lt h k hk).2

theorem Row.shape {w : World} {v : Value} {bs : List Nat} (h : Row w v bs) : ∃ ao cap, v = .slice ao bs.length cap ∧ (bs ≠ [] → ∃ g, ao = some ⟨g, 0, none⟩) := by
  rcases h.2 with ⟨rfl, hn⟩ | ⟨g, cap, cur, rfl, _⟩
  · exact ⟨none, 0, by rw [hn], fun hb => absurd (List.eq_nil_of_length_eq_zero hn) hb⟩
  · exact ⟨_, cap, rfl, fun _ => ⟨g, rfl⟩⟩

theorem Row.cell {w : World} {g cap : Nat} {bs : List Nat} (h : Row w (.slice (some ⟨g, 0, none⟩) bs.length cap) bs) (j : Nat) (hj : j < bs.length) : w.cell? ⟨g, j, none⟩ = some (.int .u8 (bs[j] : Nat)) := by
  rw [h.cellAt j (by omega)]
  simp [byteV, hj]

/-- An object of two fields at block p: a row of bytes, a count. -/
structure St (w : World) (p : Nat) (v : Value) (bs : List Nat) (c : Nat) : Prop where
  cb : w.cell? ⟨p, 0, none⟩ = some v
  cc : w.cell? ⟨p, 1, none⟩ = some (.int .i64 c)
  fb : w.frozen? ⟨p, 0, none⟩ = false
  fc : w.frozen? ⟨p, 1, none⟩ = false
  row : Row w v bs
  ne : v.ownBlock ≠ some p
  byte : ∀ b ∈ bs, b < 256

/-- The blocks of such an object. -/
def Fp (p : Nat) (v : Value) (k : Nat) : Prop := k = p ∨ v.ownBlock = some k

theorem St.lt {w : World} {p : Nat} {v : Value} {bs : List Nat} {c : Nat} (h : St w p v bs c) : p < w.heap.size := World.block_lt_of_cell? w _ h.cb

theorem St.fp_lt {w : World} {p : Nat} {v : Value} {bs : List Nat} {c : Nat} (h : St w p v bs c) {k : Nat} (hk : Fp p v k) : k < w.heap.size := by
  rcases hk with rfl | hk
  · exact h.lt
  · exact h.row.lt hk

theorem St.kept {F : Nat → Prop} {w w' : World} {p : Nat} {v : Value} {bs : List Nat} {c : Nat} (h : St w p v bs c) (hk : Kept F w w') (hn : ∀ k, Fp p v k → ¬ F k) : St w' p v bs c :=
  ⟨hk.cell h.cb (hn p (.inl rfl)), hk.cell h.cc (hn p (.inl rfl)), (hk.frozen h.lt (hn p (.inl rfl))).trans h.fb, (hk.frozen h.lt (hn p (.inl rfl))).trans h.fc,
    h.row.kept hk (fun k e => hn k (.inr e)), h.ne, h.byte⟩

theorem St.drewN {w : World} {p : Nat} {v : Value} {bs : List Nat} {c : Nat} (h : St w p v bs c) (n : Nat) : St (w.drewN n) p v bs c := ⟨h.cb, h.cc, h.fb, h.fc, h.row, h.ne, h.byte⟩

/-- The count is written. -/
theorem St.setCount {w : World} {p : Nat} {v : Value} {bs : List Nat} {c : Nat} (h : St w p v bs c) (c' : Nat) : St (w.setCell ⟨p, 1, none⟩ (.int .i64 c')) p v bs c' := by
  obtain ⟨cur, t, fr, hg, h1⟩ : ∃ cur t fr, w.heap[p]? = some (.cells cur t fr) ∧ cur[1]? = some (.int .i64 c) := by
    have := h.cc
    simp only [World.cell?] at this
    split at this
    · rename_i cu t fr e; exact ⟨cu, t, fr, e, by simpa using this⟩
    · cases this
  have hsz : 1 < cur.size := (Array.getElem?_eq_some_iff.1 h1).1
  have hk : Kept (· = p) w (w.setCell ⟨p, 1, none⟩ (.int .i64 c')) := (Kept.refl _ w).setCell _ _ (.inl rfl)
  have hh : (w.setCell ⟨p, 1, none⟩ (.int .i64 c')).heap[p]? = some (.cells (cur.setIfInBounds 1 (.int .i64 c')) t fr) := by
    simp [World.setCell, Array.getElem?_modify, hg]
  refine ⟨?_, ?_, ?_, ?_, h.row.kept hk (fun k e hkp => h.ne (by rw [e, hkp])), h.ne, h.byte⟩
  · have := h.cb
    simp only [World.cell?, hg] at this
    simp only [World.cell?, hh]
    simpa using this
  · simp [World.cell?, hh, hsz]
  · have := h.fb
    simpa only [World.frozen?, hg, hh] using this
  · have := h.fc
    simpa only [World.frozen?, hg, hh] using this

/-- The bytes are written. -/
theorem St.setBytes {w w1 : World} {p : Nat} {v v' : Value} {bs bs' : List Nat} {c : Nat} (h : St w p v bs c) (hk : Kept (fun k => v.ownBlock = some k) w w1) (hrow : Row w1 v' bs') (hne : v'.ownBlock ≠ some p) (hb : ∀ b ∈ bs', b < 256) :
    St (w1.setCell ⟨p, 0, none⟩ v') p v' bs' c := by
  have hcb := hk.cell h.cb h.ne
  have hcc := hk.cell h.cc h.ne
  have hfb := (hk.frozen (p := ⟨p, 0, none⟩) h.lt h.ne).trans h.fb
  have hfc := (hk.frozen (p := ⟨p, 1, none⟩) h.lt h.ne).trans h.fc
  obtain ⟨cur, t, fr, hg, h1⟩ : ∃ cur t fr, w1.heap[p]? = some (.cells cur t fr) ∧ cur[0]? = some v := by
    have := hcb
    simp only [World.cell?] at this
    split at this
    · rename_i cu t fr e; exact ⟨cu, t, fr, e, by simpa using this⟩
    · cases this
  have hsz : 0 < cur.size := (Array.getElem?_eq_some_iff.1 h1).1
  have hk2 : Kept (· = p) w1 (w1.setCell ⟨p, 0, none⟩ v') := (Kept.refl _ w1).setCell _ _ (.inl rfl)
  have hh : (w1.setCell ⟨p, 0, none⟩ v').heap[p]? = some (.cells (cur.setIfInBounds 0 v') t fr) := by
    simp [World.setCell, Array.getElem?_modify, hg]
  refine ⟨?_, ?_, ?_, ?_, hrow.kept hk2 (fun k e hkp => hne (by rw [e, hkp])), hne, hb⟩
  · simp [World.cell?, hh, hsz]
  · have := hcc
    simp only [World.cell?, hg] at this
    simp only [World.cell?, hh]
    simpa using this
  · have := hfb
    simpa only [World.frozen?, hg, hh] using this
  · have := hfc
    simpa only [World.frozen?, hg, hh] using this

theorem drewN_add (w : World) (a b : Nat) : (w.drewN a).drewN b = w.drewN (a + b) := by simp [World.drewN, Nat.add_assoc]

end Go.Proofs.YtofhlnpbflkdlaaDoor

/-
  append onto a row of bytes of one's own: where the row lies then.
-/
namespace Go.Proofs.YtofhlnpbflkdlaaDoor
open Go.RowKit

theorem Tryd.info8 : (Tryd.prog.info? 5).map (fun i => (i.zero, i.size, i.bytes)) = some (some (.int .u8 0), 1, 1) := by kernel_rfl

theorem addAt (b o j : Nat) : (⟨b, o, none⟩ : Addr).add j = ⟨b, o + j, none⟩ := by unfold Addr.add; simp

/-- The bytes that lie behind a slice's address. -/
def BytesAt (w : World) (a : Addr) (cs : List Nat) : Prop := ∀ j u, (cs.map byteV)[j]? = some u → w.cell? (a.add j) = some u

theorem run_append_row (w : World) (ty : TypeId) (v : Value) (bs : List Nat) (hrow : Row w v bs) (a : Addr) (c : Nat) (cs : List Nat) (hcs : BytesAt w a cs) (hlen : bs.length + cs.length ≤ 1000000000000) :
    ∃ v' w', (Builtin.append_ #[43, 43] ty #[v, .slice (some a) cs.length c]).run Tryd.prog w = .ok v' w' ∧ Row w' v' (bs ++ cs) ∧ w.grownBy w' v.ownBlock ∧
      (v'.ownBlock = v.ownBlock ∨ v'.ownBlock = some w.heap.size) := by
  obtain ⟨i0, hi, hz0, hz1, hz2⟩ := info_parts Tryd.info8
  have hl : (cs.map byteV).length = cs.length * 1 := by simp
  have hmax : bs.length + cs.length ≤ maxLen := by simp only [maxLen]; omega
  obtain ⟨v', w', hr, ho, hg, _⟩ := run_append_own (P := Tryd.prog) w 0 43 ty 5 i0 (.int .u8 0) 1 1 Tryd.underlying43 hi hz0 hz1 hz2 rfl (by decide) v bs.length (bs.map byteV) hrow a cs.length c (cs.map byteV) hl hcs (byteV_one _) hmax (by omega) (Nat.zero_le _)
  refine ⟨v', w', hr, by simpa [Row] using ho, hg, ?_⟩
  have hsz : i0.size = 1 := hz1
  rcases hrow.2 with ⟨rfl, hn⟩ | ⟨g, cap, cur, rfl, _⟩
  · by_cases hm : cs.length = 0
    · have e0 : cs = [] := List.eq_nil_of_length_eq_zero hm
      have hb0 : bs = [] := List.eq_nil_of_length_eq_zero hn
      subst e0 hb0
      rcases ho.2 with ⟨e, _⟩ | ⟨g', cap', cur', e, _, hh, _⟩
      · exact .inl (by rw [e])
      · by_cases hlt : g' < w.heap.size
        · exfalso
          have hr2 : (Builtin.append_ #[43, 43] ty #[.slice none 0 0, .slice (some a) ([] : List Nat).length c]).run Tryd.prog w = .ok (.slice none 0 0) w := by
            simp [Builtin.append_, run_underlying Tryd.underlying43, sizeOf, typeInfo, hi, Builtin.lenOf, Builtin.firstCells, loadCells, loadCellsFrom]
          rw [hr] at hr2
          simp only [Result.ok.injEq] at hr2
          rw [e] at hr2
          simp at hr2
        · exfalso
          have hr2 : (Builtin.append_ #[43, 43] ty #[.slice none 0 0, .slice (some a) ([] : List Nat).length c]).run Tryd.prog w = .ok (.slice none 0 0) w := by
            simp [Builtin.append_, run_underlying Tryd.underlying43, sizeOf, typeInfo, hi, Builtin.lenOf, Builtin.firstCells, loadCells, loadCellsFrom]
          rw [hr] at hr2
          simp only [Result.ok.injEq] at hr2
          rw [e] at hr2
          simp at hr2
    · have hr2 := run_append_nil (P := Tryd.prog) w 43 ty 5 i0 (.int .u8 0) Tryd.underlying43 hi hz0 a cs.length c (cs.map byteV) (by rw [hsz]; simp) hcs (by omega) (by omega) (by rw [hz2]; omega)
      rw [hr] at hr2
      simp only [Result.ok.injEq] at hr2
      exact .inr (by rw [hr2.1]; rfl)
  · by_cases hroom : bs.length + cs.length ≤ cap
    · obtain ⟨w2, hr2, _⟩ := run_append_fits (P := Tryd.prog) w 0 43 ty 5 i0 1 Tryd.underlying43 hi hz1 g bs.length cap (bs.map byteV) hrow a cs.length c (cs.map byteV) hl hcs (byteV_one _) hroom
      rw [hr] at hr2
      simp only [Result.ok.injEq] at hr2
      exact .inl (by rw [hr2.1]; rfl)
    · have hr2 := run_append_grow (P := Tryd.prog) w 43 ty 5 i0 (.int .u8 0) Tryd.underlying43 hi hz0 ⟨g, 0, none⟩ bs.length cap (bs.map byteV) (by rw [hsz]; simp) (hrow.cells (g := g) rfl) a cs.length c (cs.map byteV) (by rw [hsz]; simp) hcs (by omega) (by omega) (growslice_fits (by omega) (by rw [hz2]; omega))
      rw [hr] at hr2
      simp only [Result.ok.injEq] at hr2
      exact .inr (by rw [hr2.1]; rfl)

/-- The same, as a step of a walk. -/
theorem wpList_append_row {ops : Array Oper} {rest : List Oper} {o : Oper} {a : Act} {Q : Exit → Act → World → Prop} (w : World) (hgd : o.guard = none) (s x : Operand)
    (ho : o.op = .call { callee := .builtin .append, args := #[s, x], argTypes := #[43, 43] })
    (v : Value) (bs : List Nat) (hs : a.eval s = v) (hrow : Row w v bs) (ad : Addr) (m c : Nat) (cs : List Nat) (hx : a.eval x = .slice (some ad) m c) (hm : cs.length = m) (hcs : BytesAt w ad cs) (hlen : bs.length + cs.length ≤ 1000000000000)
    (h : ∀ v' w', Row w' v' (bs ++ cs) → w.grownBy w' v.ownBlock → (v'.ownBlock = v.ownBlock ∨ v'.ownBlock = some w.heap.size) → wpList Tryd.prog ops Q rest (a.put o.dst v') w') : wpList Tryd.prog ops Q (o :: rest) a w := by
  subst hm
  refine wpList_plain hgd fun K hK => ?_
  obtain ⟨v', w', hr, h2, h3, h4⟩ := run_append_row w o.type v bs hrow ad c cs hcs hlen
  unfold Oper.wp execOp
  simp only [ho, resolve, invoke, builtin, Sem.run_bind, Sem.run_pure, Result.andThen_ok, List.map_toArray, List.map_cons, List.map_nil, hs, hx, hr]
  exact hK _ _ (h v' w' h2 h3 h4)

/-- One byte that was just laid. -/
theorem bytesAt_new (w : World) (n : Nat) : BytesAt (w.alloc (.cells #[.int .u8 n] 5)) ⟨w.heap.size, 0, none⟩ [n] := by
  intro j u hu
  match j, hu with
  | 0, hu => simp [byteV] at hu; subst hu; simp [addAt]

end Go.Proofs.YtofhlnpbflkdlaaDoor

/-
  make and copy over rows of bytes; a slice of bytes that is read.
-/
namespace Go.Proofs.YtofhlnpbflkdlaaDoor
open Go.RowKit

theorem Tryd.size8 : (Tryd.prog.info? 5).map (·.size) = some 1 := by kernel_rfl

/-- A slice of bytes that can be read; its block fits I. -/
def Src (w : World) (I : Nat → Prop) (v : Value) (cs : List Nat) : Prop :=
  ∃ ao cap, v = .slice ao cs.length cap ∧ (cs ≠ [] → ∃ b o, ao = some ⟨b, o, none⟩ ∧ I b ∧ ∀ j (_ : j < cs.length), w.cell? ⟨b, o + j, none⟩ = some (.int .u8 (cs[j] : Nat)))

theorem Src.ofRow {w : World} {v : Value} {bs : List Nat} (h : Row w v bs) : Src w (fun k => v.ownBlock = some k) v bs := by
  obtain ⟨ao, cap, hv, hg⟩ := h.shape
  refine ⟨ao, cap, hv, fun hne => ?_⟩
  obtain ⟨g, hg⟩ := hg hne
  subst hg hv
  refine ⟨g, 0, rfl, rfl, fun j hj => ?_⟩
  rw [Nat.zero_add]
  exact Row.cell h j hj

theorem Src.mono {w : World} {I J : Nat → Prop} {v : Value} {cs : List Nat} (h : Src w I v cs) (hJ : ∀ k, I k → J k) : Src w J v cs := by
  obtain ⟨ao, cap, hv, hc⟩ := h
  refine ⟨ao, cap, hv, fun hne => ?_⟩
  obtain ⟨b, o, h1, h2, h3⟩ := hc hne
  exact ⟨b, o, h1, hJ b h2, h3⟩

theorem Src.kept {F I : Nat → Prop} {w w' : World} {v : Value} {cs : List Nat} (h : Src w I v cs) (hk : Kept F w w') (hn : ∀ k, I k → k < w.heap.size → ¬ F k) : Src w' I v cs := by
  obtain ⟨ao, cap, hv, hc⟩ := h
  refine ⟨ao, cap, hv, fun hne => ?_⟩
  obtain ⟨b, o, h1, h2, h3⟩ := hc hne
  have hlen : 0 < cs.length := List.length_pos_iff.2 hne
  have hb : b < w.heap.size := World.block_lt_of_cell? w _ (h3 0 hlen)
  exact ⟨b, o, h1, h2, fun j hj => hk.cell (h3 j hj) (hn b h2 hb)⟩

/-- A source as append and copy ask for it. -/
theorem Src.at {w : World} {I : Nat → Prop} {ao : Option Addr} {n cap : Nat} {cs : List Nat} (h : Src w I (.slice ao n cap) cs) : n = cs.length ∧ (cs ≠ [] → ∃ a, ao = some a ∧ BytesAt w a cs) := by
  obtain ⟨ao', cap', hv, hc⟩ := h
  injection hv with h1 h2 h3
  subst h1
  refine ⟨h2, fun hne => ?_⟩
  obtain ⟨b, o, h4, _, h6⟩ := hc hne
  refine ⟨_, h4, fun j u hu => ?_⟩
  obtain ⟨hj, hu⟩ := List.getElem?_eq_some_iff.1 hu
  rw [addAt, h6 j (by simpa using hj), ← hu]
  simp [byteV]

theorem row_mk {w : World} {g n cap : Nat} {xs : List Value} {bs : List Nat} (h : w.ownsRow 0 5 1 (.slice (some ⟨g, 0, none⟩) n cap) n xs) (hx : xs = bs.map byteV) : Row w (.slice (some ⟨g, 0, none⟩) n cap) bs := by
  subst hx
  have := h.1
  simp at this
  unfold Row
  rw [this]
  exact h

/-- make([]byte, n). -/
theorem wpList_make_bytes {ops : Array Oper} {rest : List Oper} {o : Oper} {a : Act} {Q : Exit → Act → World → Prop} (w : World) (hg : o.guard = none) (l c : Operand) (hop : o.op = Op.makeSlice 43 l c) (kl kc : IntKind) (L C : Int) (n : Nat)
    (hl : a.eval l = .int kl L) (hc : a.eval c = .int kc C) (hL : L = (n : Int)) (hC : C = (n : Int)) (hn : n ≤ 1000000000000)
    (hK : ∀ w', Row w' (.slice (some ⟨w.heap.size, 0, none⟩) n n) (List.replicate n 0) → w.grownBy w' none → w.heap.size < w'.heap.size → wpList Tryd.prog ops Q rest (a.put o.dst (.slice (some ⟨w.heap.size, 0, none⟩) n n)) w') : wpList Tryd.prog ops Q (o :: rest) a w := by
  obtain ⟨i0, hi, hz0, hz1, hz2⟩ := info_parts Tryd.info8
  refine wpList_make_full w hg l c 43 hop 0 5 i0 (.int .u8 0) 1 Tryd.underlying43 hi hz0 hz1 kl kc L C n hl hc hL hC (by rw [hz2]; omega) (by simp only [maxLen]; omega) (Nat.zero_le _) ?_
  intro w' h1 h2
  refine hK w' (row_mk h1 ?_) h2 (World.ownsRow.lt h1 w.heap.size rfl).2
  have e : (Value.int .u8 0).cells = #[.int .u8 0] := rfl
  rw [e, Nat.mul_one, toList_madeCells_one]
  simp [byteV]

/-- copy(dst, src) into a row of one's own that is as long as src, or longer. -/
theorem wpList_copy_bytes {ops : Array Oper} {rest : List Oper} {o : Oper} {a : Act} {Q : Exit → Act → World → Prop} (w : World) (hgd : o.guard = none) (d s : Operand) (ho : o.op = .call { callee := .builtin .copy, args := #[d, s], argTypes := #[43, 43] })
    (g n cap : Nat) (sp : Option Addr) (m c : Nat) (ds cs : List Nat) (I : Nat → Prop) (hd : a.eval d = .slice (some ⟨g, 0, none⟩) n cap) (hs : a.eval s = .slice sp m c)
    (hrow : Row w (.slice (some ⟨g, 0, none⟩) n cap) ds) (hsrc : Src w I (.slice sp m c) cs) (hle : cs.length ≤ ds.length)
    (hK : ∀ w', Row w' (.slice (some ⟨g, 0, none⟩) n cap) (cs ++ ds.drop cs.length) → w.grownBy w' (some g) → w'.heap.size = w.heap.size → wpList Tryd.prog ops Q rest (a.put o.dst (goInt cs.length)) w') : wpList Tryd.prog ops Q (o :: rest) a w := by
  obtain ⟨rfl, hat⟩ := hsrc.at
  rcases hrow.2 with ⟨h', _⟩ | ⟨g', cap', cur, h', hb, hgg, hnc, hcm, hcs, htake⟩
  · simp at h'
  · simp only [Value.slice.injEq, Option.some.injEq, Addr.mk.injEq, and_true] at h'
    obtain ⟨rfl, rfl, rfl⟩ := h'
    by_cases h0 : cs = []
    · subst h0
      refine wpList_copy_nothing hgd d s _ _ ho 5 Tryd.underlying43 Tryd.size8 _ _ _ _ _ _ hd hs (by simp) ?_
      exact hK w (by simpa using hrow) (World.grownBy.refl _ _) rfl
    · obtain ⟨ad, rfl, hbytes⟩ := hat h0
      refine wpList_copy_own hgd d s _ _ ho 5 Tryd.underlying43 Tryd.size8 g 0 _ _ ad _ _ hd hs cur 5 hgg (cs.map byteV) (by rw [List.length_map]; exact (Nat.min_eq_left hle).symm) hbytes (by simp; omega) (byteV_one _) ?_
      rw [show (goInt (cs.map byteV).length) = goInt cs.length by simp]
      have e1 : (cs ++ ds.drop cs.length).length = ds.length := by simp; omega
      refine hK _ ?_ ⟨rfl, rfl, rfl, by simp, fun k _ hk => setRow_other w g k _ (fun e => hk (by simp [e]))⟩ (by simp)
      unfold Row
      rw [e1]
      refine ⟨by simp; omega, .inr ⟨g, cap, _, rfl, hb, setRow_heap w g cur _ 5 _ hgg, hnc, hcm, ?_, ?_⟩⟩
      · simp; omega
      · simp only [Nat.mul_one] at htake ⊢
        simp only [List.take_zero, List.nil_append, Nat.zero_add, List.length_map]
        rw [List.map_append, List.map_drop, ← htake, List.drop_take, List.take_append, List.take_of_length_le (by simpa using hle)]
        simp
/-- A mark for the walk: here a copy stands. -/
theorem atCopy {P : Program} {ops : Array Oper} {rest : List Oper} {a : Act} {Q : Exit → Act → World → Prop} {w : World} {dst : Option Tmp} {d s : Operand} {dT sT ty : TypeId} {pos : String} {after : Array Edge}
    (h : wpList P ops Q ({ dst := dst, op := .call { callee := .builtin .copy, args := #[d, s], argTypes := #[dT, sT] }, type := ty, pos := pos, after := after, guard := none } :: rest) a w) :
    wpList P ops Q ({ dst := dst, op := .call { callee := .builtin .copy, args := #[d, s], argTypes := #[dT, sT] }, type := ty, pos := pos, after := after, guard := none } :: rest) a w := h

/-- One byte that was just laid, as a number that was reckoned. -/
theorem bytesAt_int (w : World) (z : Int) (n : Nat) (h : z = (n : Nat)) : BytesAt (w.alloc (.cells #[.int .u8 z] 5)) ⟨w.heap.size, 0, none⟩ [n] := by
  subst h; exact bytesAt_new w n

end Go.Proofs.YtofhlnpbflkdlaaDoor

/-
  Rows of one cell an element, whatever the element's type: read, written, appended to.
-/
namespace Go.Proofs.YtofhlnpbflkdlaaDoor
open Go.RowKit

theorem hid {p : Prop} (h : p) : Hid p := h

/-- An int's cell, a natural number's, a uint32's. -/
def intV (z : Int) : Value := .int .i64 z
def natV (n : Nat) : Value := .int .i64 (n : Int)
def wordV (n : Nat) : Value := .int .u32 (n : Int)

theorem intV_one (l : List Int) : ∀ u ∈ l.map intV, u.oneCell' = true := by
  intro u hu; obtain ⟨b, _, rfl⟩ := List.mem_map.1 hu; rfl
theorem natV_one (l : List Nat) : ∀ u ∈ l.map natV, u.oneCell' = true := by
  intro u hu; obtain ⟨b, _, rfl⟩ := List.mem_map.1 hu; rfl
theorem wordV_one (l : List Nat) : ∀ u ∈ l.map wordV, u.oneCell' = true := by
  intro u hu; obtain ⟨b, _, rfl⟩ := List.mem_map.1 hu; rfl

/-- A slice's cell. -/
def slV (x : Option Addr × Nat × Nat) : Value := .slice x.1 x.2.1 x.2.2
theorem slV_one (l : List (Option Addr × Nat × Nat)) : ∀ u ∈ l.map slV, u.oneCell' = true := by
  intro u hu; obtain ⟨b, _, rfl⟩ := List.mem_map.1 hu; rfl

/-- A slice at the head of a row of its own, which lies at block B or beyond. -/
abbrev RowE {α : Type} (B : Nat) (t : TypeId) (enc : α → Value) (w : World) (v : Value) (xs : List α) : Prop := w.ownsRow B t 1 v xs.length (xs.map enc)

section
variable {α : Type} {B : Nat} {t : TypeId} {enc : α → Value} {w : World} {v : Value} {xs : List α}

theorem RowE.kept {F : Nat → Prop} {w' : World} (h : RowE B t enc w v xs) (hk : Kept F w w') (hn : ∀ k, v.ownBlock = some k → ¬ F k) : RowE B t enc w' v xs := by
  refine ⟨h.1, ?_⟩
  rcases h.2 with hn' | ⟨g, cap, cur, rfl, hb, hgg, rest⟩
  · exact .inl hn'
  · refine .inr ⟨g, cap, cur, rfl, hb, ?_, rest⟩
    rw [hk.block g (Array.getElem?_eq_some_iff.1 hgg).1 (hn g rfl)]
    exact hgg

theorem RowE.base {B' : Nat} (h : RowE B t enc w v xs) (hb : B' ≤ B) : RowE B' t enc w v xs := by
  refine ⟨h.1, ?_⟩
  rcases h.2 with hn' | ⟨g, cap, cur, rfl, hb', rest⟩
  · exact .inl hn'
  · exact .inr ⟨g, cap, cur, rfl, Nat.le_trans hb hb', rest⟩

theorem RowE.drewN (k : Nat) (h : RowE B t enc w v xs) : RowE B t enc (w.drewN k) v xs := h

theorem RowE.nil : RowE B t enc w (.slice none 0 0) ([] : List α) := World.ownsRow_nil w B t 1

theorem RowE.lt (h : RowE B t enc w v xs) {k : Nat} (hk : v.ownBlock = some k) : k < w.heap.size := (World.ownsRow.lt h k hk).2
theorem RowE.ge (h : RowE B t enc w v xs) {k : Nat} (hk : v.ownBlock = some k) : B ≤ k := (World.ownsRow.lt h k hk).1

theorem RowE.shape (h : RowE B t enc w v xs) : ∃ ao cap, v = .slice ao xs.length cap ∧ (xs ≠ [] → ∃ g, ao = some ⟨g, 0, none⟩) ∧ (ao = none → cap = 0) ∧ xs.length ≤ cap ∧ cap ≤ maxLen := by
  rcases h.2 with ⟨rfl, hn⟩ | ⟨g, cap, cur, rfl, _, _, h1, h2, _⟩
  · exact ⟨none, 0, by rw [hn], fun hb => absurd (List.eq_nil_of_length_eq_zero hn) hb, fun _ => rfl, by omega, by omega⟩
  · exact ⟨_, cap, rfl, fun _ => ⟨g, rfl⟩, (fun e => by cases e), h1, h2⟩

/-- A row with something in it. -/
theorem RowE.some (h : RowE B t enc w v xs) (hn : xs ≠ []) : ∃ g cap, v = .slice (some ⟨g, 0, none⟩) xs.length cap ∧ B ≤ g ∧ g < w.heap.size ∧ xs.length ≤ cap := by
  obtain ⟨ao, cap, rfl, h1, _, h2, _⟩ := h.shape
  obtain ⟨g, rfl⟩ := h1 hn
  exact ⟨g, cap, rfl, h.ge rfl, h.lt rfl, h2⟩

theorem RowE.len {g n cap : Nat} (h : RowE B t enc w (.slice (Option.some ⟨g, 0, none⟩) n cap) xs) : xs.length = n := by
  rcases h.2 with ⟨e, _⟩ | ⟨_, _, _, e, _⟩
  · simp at e
  · injection e with _ e _; exact e.symm

theorem RowE.cell {g n cap : Nat} (h : RowE B t enc w (.slice (Option.some ⟨g, 0, none⟩) n cap) xs) (j : Nat) (hj : j < xs.length) : w.cell? ⟨g, j, none⟩ = Option.some (enc xs[j]) := by
  have hl := h.len
  subst hl
  rw [h.cellAt j (by omega)]
  simp [hj]

theorem RowE.frozen {g n cap : Nat} (h : RowE B t enc w (.slice (Option.some ⟨g, 0, none⟩) n cap) xs) (j : Nat) : w.frozen? ⟨g, j, none⟩ = false := by
  have hl := h.len
  subst hl
  exact World.ownsRow.frozenAt h j

theorem RowE.lay {g n cap : Nat} (h : RowE B t enc w (.slice (Option.some ⟨g, 0, none⟩) n cap) xs) (j : Nat) (x : α) : RowE B t enc (w.setCell ⟨g, j, none⟩ (enc x)) (.slice (Option.some ⟨g, 0, none⟩) n cap) (xs.set j x) := by
  have hl := h.len
  subst hl
  have := (World.ownsRow.stored h j (enc x)).1
  rw [← List.map_set] at this
  unfold RowE
  rw [List.length_set]
  exact this

theorem RowE.cut {g n cap : Nat} {ys : List α} (h : RowE B t enc w (.slice (Option.some ⟨g, 0, none⟩) n cap) (xs ++ ys)) : RowE B t enc w (.slice (Option.some ⟨g, 0, none⟩) xs.length cap) xs := by
  rcases h.2 with ⟨h', _⟩ | ⟨g', cap', cur, h', hb, hgg, hnc, hcm, hcs, htake⟩
  · simp at h'
  · simp only [Value.slice.injEq, Option.some.injEq, Addr.mk.injEq, and_true] at h'
    obtain ⟨rfl, rfl, rfl⟩ := h'
    refine ⟨by simp, .inr ⟨g, cap, cur, rfl, hb, hgg, ?_, hcm, hcs, ?_⟩⟩
    · simp at hnc; omega
    · simp only [Nat.mul_one, List.length_append] at htake ⊢
      have e : List.take xs.length cur.toList = List.take xs.length (List.take (xs.length + ys.length) cur.toList) := by rw [List.take_take]; congr 1; omega
      rw [e, htake, List.map_append, List.take_append, List.take_of_length_le (by simp)]
      simp

theorem RowE.recode {β : Type} {enc' : β → Value} {ys : List β} (h : RowE B t enc w v xs) (e : ys.map enc' = xs.map enc) : RowE B t enc' w v ys := by
  have hl : ys.length = xs.length := by have := congrArg List.length e; simpa using this
  unfold RowE
  rw [hl, e]
  exact h

/-- A slice that can be read; its block fits I. -/
def SrcE (enc : α → Value) (w : World) (I : Nat → Prop) (v : Value) (xs : List α) : Prop :=
  ∃ ao cap, v = .slice ao xs.length cap ∧ xs.length ≤ cap ∧ (xs ≠ [] → ∃ b o, ao = Option.some ⟨b, o, none⟩ ∧ I b ∧ ∀ j (_ : j < xs.length), w.cell? ⟨b, o + j, none⟩ = Option.some (enc xs[j]))

theorem SrcE.ofRow (h : RowE B t enc w v xs) : SrcE enc w (fun k => v.ownBlock = Option.some k) v xs := by
  obtain ⟨ao, cap, hv, hg, _, hc, _⟩ := h.shape
  refine ⟨ao, cap, hv, hc, fun hne => ?_⟩
  obtain ⟨g, hg⟩ := hg hne
  subst hg hv
  refine ⟨g, 0, rfl, rfl, fun j hj => ?_⟩
  rw [Nat.zero_add]
  exact RowE.cell h j hj

theorem SrcE.mono {I J : Nat → Prop} (h : SrcE enc w I v xs) (hJ : ∀ k, I k → J k) : SrcE enc w J v xs := by
  obtain ⟨ao, cap, hv, hcap, hc⟩ := h
  refine ⟨ao, cap, hv, hcap, fun hne => ?_⟩
  obtain ⟨b, o, h1, h2, h3⟩ := hc hne
  exact ⟨b, o, h1, hJ b h2, h3⟩

theorem SrcE.kept {F I : Nat → Prop} {w' : World} (h : SrcE enc w I v xs) (hk : Kept F w w') (hn : ∀ k, I k → k < w.heap.size → ¬ F k) : SrcE enc w' I v xs := by
  obtain ⟨ao, cap, hv, hcap, hc⟩ := h
  refine ⟨ao, cap, hv, hcap, fun hne => ?_⟩
  obtain ⟨b, o, h1, h2, h3⟩ := hc hne
  have hlen : 0 < xs.length := List.length_pos_iff.2 hne
  have hb : b < w.heap.size := World.block_lt_of_cell? w _ (h3 0 hlen)
  exact ⟨b, o, h1, h2, fun j hj => hk.cell (h3 j hj) (hn b h2 hb)⟩

theorem SrcE.low {I : Nat → Prop} (h : SrcE enc w I v xs) : SrcE enc w (fun k => I k ∧ k < w.heap.size) v xs := by
  obtain ⟨ao, cap, hv, hcap, hc⟩ := h
  refine ⟨ao, cap, hv, hcap, fun hne => ?_⟩
  obtain ⟨b, o, h1, h2, h3⟩ := hc hne
  have hlen : 0 < xs.length := List.length_pos_iff.2 hne
  exact ⟨b, o, h1, ⟨h2, World.block_lt_of_cell? w _ (h3 0 hlen)⟩, h3⟩

theorem SrcE.recode {β : Type} {enc' : β → Value} {ys : List β} {I : Nat → Prop} (h : SrcE enc w I v xs) (e : ys.map enc' = xs.map enc) : SrcE enc' w I v ys := by
  have hl : ys.length = xs.length := by have := congrArg List.length e; simpa using this
  obtain ⟨ao, cap, hv, hcap, hc⟩ := h
  refine ⟨ao, cap, by rw [hl]; exact hv, by omega, fun hne => ?_⟩
  obtain ⟨b, o, h1, h2, h3⟩ := hc (by intro e0; subst e0; simp at hl; exact hne hl)
  refine ⟨b, o, h1, h2, fun j hj => ?_⟩
  rw [h3 j (by omega)]
  have e1 : (ys.map enc')[j]? = (xs.map enc)[j]? := by rw [e]
  rw [List.getElem?_map, List.getElem?_map, List.getElem?_eq_getElem hj, List.getElem?_eq_getElem (by omega)] at e1
  simpa using e1.symm

/-- One cell of a source. -/
theorem SrcE.get {I : Nat → Prop} (h : SrcE enc w I v xs) (j : Nat) (hj : j < xs.length) : ∃ b o cap, v = .slice (Option.some ⟨b, o, none⟩) xs.length cap ∧ I b ∧ b < w.heap.size ∧ w.cell? ⟨b, o + j, none⟩ = Option.some (enc xs[j]) := by
  obtain ⟨ao, cap, hv, hcap, hc⟩ := h
  obtain ⟨b, o, rfl, h2, h3⟩ := hc (by intro e; subst e; simp at hj)
  exact ⟨b, o, cap, hv, h2, World.block_lt_of_cell? w _ (h3 j hj), h3 j hj⟩

end

/-- The cells that lie behind a slice's address. -/
def CellsAt (w : World) (a : Addr) (cs : List Value) : Prop := ∀ j u, cs[j]? = some u → w.cell? (a.add j) = some u

theorem cellsAt_new (w : World) (t : TypeId) (u : Value) : CellsAt (w.alloc (.cells #[u] t)) ⟨w.heap.size, 0, none⟩ [u] := by
  intro j x hx
  match j, hx with
  | 0, hx => simp at hx; subst hx; simp [addAt]

theorem SrcE.at {α : Type} {enc : α → Value} {w : World} {I : Nat → Prop} {ao : Option Addr} {n cap : Nat} {cs : List α} (h : SrcE enc w I (.slice ao n cap) cs) : n = cs.length ∧ (cs ≠ [] → ∃ a, ao = some a ∧ CellsAt w a (cs.map enc)) := by
  obtain ⟨ao', cap', hv, _, hc⟩ := h
  injection hv with h1 h2 h3
  subst h1
  refine ⟨h2, fun hne => ?_⟩
  obtain ⟨b, o, h4, _, h6⟩ := hc hne
  refine ⟨_, h4, fun j u hu => ?_⟩
  obtain ⟨hj, hu⟩ := List.getElem?_eq_some_iff.1 hu
  rw [addAt, h6 j (by simpa using hj), ← hu]
  simp

/-- append onto a row of one's own. -/
theorem wpList_append_e {α : Type} {ops : Array Oper} {rest : List Oper} {o : Oper} {a : Act} {Q : Exit → Act → World → Prop} (w : World) (enc : α → Value) (hone : ∀ (l : List α), ∀ u ∈ l.map enc, u.oneCell' = true) (B sT eT : Nat) (z : Value) (bytes : Nat)
    (hU : Tryd.prog.underlying sT = some (.slice eT)) (hI : (Tryd.prog.info? eT).map (fun i => (i.zero, i.size, i.bytes)) = some (some z, 1, bytes)) (hz : z.cells.size = 1) (hby : bytes ≤ 24) (hgd : o.guard = none) (s x : Operand)
    (ho : o.op = .call { callee := .builtin .append, args := #[s, x], argTypes := #[sT, sT] })
    (v : Value) (xs : List α) (hs : a.eval s = v) (hrow : RowE B eT enc w v xs) (ad : Addr) (m c : Nat) (cs : List α) (hx : a.eval x = .slice (some ad) m c) (hm : cs.length = m) (hcs : CellsAt w ad (cs.map enc)) (hlen : xs.length + cs.length ≤ 1000000000) (hB : B ≤ w.heap.size)
    (h : ∀ v' w', RowE B eT enc w' v' (xs ++ cs) → w.grownBy w' v.ownBlock → wpList Tryd.prog ops Q rest (a.put o.dst v') w') : wpList Tryd.prog ops Q (o :: rest) a w := by
  subst hm
  obtain ⟨i0, hi, hz0, hz1, hz2⟩ := info_parts hI
  have hmul : (xs.length + cs.length) * bytes ≤ 1000000000 * 24 := Nat.mul_le_mul hlen hby
  refine wpList_append_own w hgd s x sT ho B eT i0 z 1 bytes hU hi hz0 hz1 hz2 hz (by decide) v xs.length (xs.map enc) hs hrow ad cs.length c (cs.map enc) hx (by simp) hcs (hone _) (by simp only [maxLen]; omega) (by omega) hB ?_
  intro v' w' h1 h2 _
  refine h v' w' ?_ h2
  unfold RowE
  rw [List.length_append, List.map_append]
  exact h1

/-- make of a row. -/
theorem wpList_make_e {α : Type} {ops : Array Oper} {rest : List Oper} {o : Oper} {a : Act} {Q : Exit → Act → World → Prop} (w : World) (enc : α → Value) (x0 : α) (B sT eT : Nat) (bytes : Nat)
    (hU : Tryd.prog.underlying sT = some (.slice eT)) (hI : (Tryd.prog.info? eT).map (fun i => (i.zero, i.size, i.bytes)) = some (some (enc x0), 1, bytes)) (hz : (enc x0).cells = #[enc x0]) (hby : bytes ≤ 24)
    (hg : o.guard = none) (l c : Operand) (hop : o.op = Op.makeSlice sT l c) (kl kc : IntKind) (L C : Int) (n : Nat)
    (hl : a.eval l = .int kl L) (hc : a.eval c = .int kc C) (hL : L = (n : Int)) (hC : C = (n : Int)) (hn : n ≤ 1000000000) (hB : B ≤ w.heap.size)
    (hK : ∀ w', RowE B eT enc w' (.slice (some ⟨w.heap.size, 0, none⟩) n n) (List.replicate n x0) → w.grownBy w' none → w.heap.size < w'.heap.size → wpList Tryd.prog ops Q rest (a.put o.dst (.slice (some ⟨w.heap.size, 0, none⟩) n n)) w') : wpList Tryd.prog ops Q (o :: rest) a w := by
  obtain ⟨i0, hi, hz0, hz1, hz2⟩ := info_parts hI
  have hmul : n * bytes ≤ 1000000000 * 24 := Nat.mul_le_mul hn hby
  refine wpList_make_full w hg l c sT hop B eT i0 (enc x0) 1 hU hi hz0 hz1 kl kc L C n hl hc hL hC (by rw [hz2]; have := Nat.mul_comm n bytes; omega) (by simp only [maxLen]; omega) hB ?_
  intro w' h1 h2
  refine hK w' ?_ h2 (World.ownsRow.lt h1 w.heap.size rfl).2
  rw [hz, Nat.mul_one, toList_madeCells_one] at h1
  unfold RowE
  simpa using h1

theorem Tryd.infoI : (Tryd.prog.info? 3).map (fun i => (i.zero, i.size, i.bytes)) = some (some (intV 0), 1, 8) := by kernel_rfl
theorem Tryd.infoN : (Tryd.prog.info? 3).map (fun i => (i.zero, i.size, i.bytes)) = some (some (natV 0), 1, 8) := by kernel_rfl
theorem Tryd.infoW : (Tryd.prog.info? 40).map (fun i => (i.zero, i.size, i.bytes)) = some (some (wordV 0), 1, 4) := by kernel_rfl

/-- Rows of ints: of numbers from 0 on, of whatever ints; rows of uint32. -/
abbrev NRow (B : Nat) := RowE B 3 natV
abbrev IRow (B : Nat) := RowE B 3 intV
abbrev WRow (B : Nat) := RowE B 40 wordV

end Go.Proofs.YtofhlnpbflkdlaaDoor

/-
  The order of symbols by their numbers, and what it means that a list is sorted.
-/
namespace Go.Proofs.YtofhlnpbflkdlaaDoor

/-- A symbol's number. -/
def key (ns : List Nat) (s : Nat) : Nat := ns.getD s 0

/-- By rising numbers, those of one number as they stand. -/
def Lt (ns : List Nat) (a b : Nat) : Prop := key ns a < key ns b ∨ key ns a = key ns b ∧ a < b

instance (ns : List Nat) (a b : Nat) : Decidable (Lt ns a b) := inferInstanceAs (Decidable (_ ∨ _))

theorem Lt.trans {ns : List Nat} {a b c : Nat} (h : Lt ns a b) (k : Lt ns b c) : Lt ns a c := by
  unfold Lt at *; omega
theorem Lt.irrefl (ns : List Nat) (a : Nat) : ¬ Lt ns a a := by unfold Lt; omega
theorem Lt.asymm {ns : List Nat} {a b : Nat} (h : Lt ns a b) : ¬ Lt ns b a := by unfold Lt at *; omega
theorem Lt.total (ns : List Nat) (a b : Nat) (h : a ≠ b) : Lt ns a b ∨ Lt ns b a := by unfold Lt; omega

/-- Where a symbol has the greater number of its own, the comparison tells the order. -/
theorem Lt.iff_of_gt {ns : List Nat} {x y : Nat} (h : x < y) : Lt ns y x ↔ key ns y < key ns x := by unfold Lt; omega
theorem Lt.of_not {ns : List Nat} {x y : Nat} (h : x < y) (hn : ¬ key ns y < key ns x) : Lt ns x y := by unfold Lt; omega

abbrev Sorted (ns : List Nat) (l : List Nat) : Prop := l.Pairwise (Lt ns)
/-- All of the first are lower symbols than all of the second. -/
def Ahead (l r : List Nat) : Prop := ∀ x ∈ l, ∀ y ∈ r, x < y
def AllLt (ns : List Nat) (l r : List Nat) : Prop := ∀ x ∈ l, ∀ y ∈ r, Lt ns x y

theorem Sorted.append {ns l r : List Nat} (hl : Sorted ns l) (hr : Sorted ns r) (h : AllLt ns l r) : Sorted ns (l ++ r) := List.pairwise_append.2 ⟨hl, hr, h⟩
theorem Sorted.left {ns l r : List Nat} (h : Sorted ns (l ++ r)) : Sorted ns l := (List.pairwise_append.1 h).1
theorem Sorted.right {ns l r : List Nat} (h : Sorted ns (l ++ r)) : Sorted ns r := (List.pairwise_append.1 h).2.1
theorem Sorted.cross {ns l r : List Nat} (h : Sorted ns (l ++ r)) : AllLt ns l r := (List.pairwise_append.1 h).2.2

theorem Sorted.eq {ns l r : List Nat} (hl : Sorted ns l) (hr : Sorted ns r) (hp : l.Perm r) : l = r :=
  hp.eq_of_pairwise (fun _ _ _ _ h k => absurd k h.asymm) hl hr

theorem AllLt.perm {ns l l' r r' : List Nat} (h : AllLt ns l r) (hl : l'.Perm l) (hr : r'.Perm r) : AllLt ns l' r' :=
  fun x hx y hy => h x (hl.mem_iff.1 hx) y (hr.mem_iff.1 hy)
theorem Ahead.perm {l l' r r' : List Nat} (h : Ahead l r) (hl : l'.Perm l) (hr : r'.Perm r) : Ahead l' r' :=
  fun x hx y hy => h x (hl.mem_iff.1 hx) y (hr.mem_iff.1 hy)

theorem Ahead.sub {l l' r r' : List Nat} (h : Ahead l r) (hl : ∀ x ∈ l', x ∈ l) (hr : ∀ x ∈ r', x ∈ r) : Ahead l' r' :=
  fun x hx y hy => h x (hl x hx) y (hr y hy)

/-- A sorted list, by places. -/
theorem Sorted.at {ns l : List Nat} (h : Sorted ns l) {i j : Nat} (hij : i < j) (hj : j < l.length) : Lt ns (l[i]'(by omega)) l[j] :=
  List.pairwise_iff_getElem.1 h i j (by omega) hj hij

/-- All of A1 and B1 come ahead of all of A2 and B2, if the last of A1 does of B2's first, and the last of B1 of A2's first. -/
theorem cross_of {ns A B : List Nat} (i j : Nat) (hA : Sorted ns A) (hB : Sorted ns B) (h1 : i = 0 ∨ B.length ≤ j ∨ ∃ (x : 0 < i ∧ i ≤ A.length ∧ j < B.length), Lt ns (A[i - 1]'(by omega)) (B[j]'(by omega)))
    (h2 : j = 0 ∨ A.length ≤ i ∨ ∃ (x : 0 < j ∧ j ≤ B.length ∧ i < A.length), Lt ns (B[j - 1]'(by omega)) (A[i]'(by omega))) :
    AllLt ns (A.take i ++ B.take j) (A.drop i ++ B.drop j) := by
  have hAA : AllLt ns (A.take i) (A.drop i) := Sorted.cross (by rw [List.take_append_drop]; exact hA)
  have hBB : AllLt ns (B.take j) (B.drop j) := Sorted.cross (by rw [List.take_append_drop]; exact hB)
  have le_last : ∀ (L : List Nat) (n : Nat) (h : Sorted ns L) (hn : 0 < n) (hl : n ≤ L.length) (x : Nat), x ∈ L.take n → x = L[n - 1]'(by omega) ∨ Lt ns x (L[n - 1]'(by omega)) := by
    intro L n h hn hl x hx
    obtain ⟨k, hk, rfl⟩ := List.getElem_of_mem hx
    simp at hk
    rw [List.getElem_take]
    by_cases e : k = n - 1
    · left; subst e; rfl
    · right; exact h.at (by omega) (by omega)
  have ge_first : ∀ (L : List Nat) (n : Nat) (h : Sorted ns L) (hn : n < L.length) (x : Nat), x ∈ L.drop n → x = L[n] ∨ Lt ns L[n] x := by
    intro L n h hn x hx
    obtain ⟨k, hk, rfl⟩ := List.getElem_of_mem hx
    simp at hk
    rw [List.getElem_drop]
    by_cases e : k = 0
    · left; subst e; rfl
    · right; exact h.at (by omega) (by omega)
  have hAB : AllLt ns (A.take i) (B.drop j) := by
    intro x hx y hy
    rcases h1 with rfl | h | ⟨⟨ha, hb, hc⟩, hlt⟩
    · simp at hx
    · rw [List.drop_eq_nil_of_le h] at hy; simp at hy
    · rcases le_last A i hA ha hb x hx with rfl | h3
      · rcases ge_first B j hB hc y hy with rfl | h4
        · exact hlt
        · exact hlt.trans h4
      · rcases ge_first B j hB hc y hy with rfl | h4
        · exact h3.trans hlt
        · exact (h3.trans hlt).trans h4
  have hBA : AllLt ns (B.take j) (A.drop i) := by
    intro x hx y hy
    rcases h2 with rfl | h | ⟨⟨ha, hb, hc⟩, hlt⟩
    · simp at hx
    · rw [List.drop_eq_nil_of_le h] at hy; simp at hy
    · rcases le_last B j hB ha hb x hx with rfl | h3
      · rcases ge_first A i hA hc y hy with rfl | h4
        · exact hlt
        · exact hlt.trans h4
      · rcases ge_first A i hA hc y hy with rfl | h4
        · exact h3.trans hlt
        · exact (h3.trans hlt).trans h4
  intro x hx y hy
  rcases List.mem_append.1 hx with hx | hx <;> rcases List.mem_append.1 hy with hy | hy
  · exact hAA x hx y hy
  · exact hAB x hx y hy
  · exact hBA x hx y hy
  · exact hBB x hx y hy

/-- Insertion into a sorted list. -/
def insS (ns : List Nat) (x : Nat) : List Nat → List Nat
  | [] => [x]
  | y :: r => if Lt ns x y then x :: y :: r else y :: insS ns x r

theorem insS_perm (ns : List Nat) (x : Nat) (l : List Nat) : (insS ns x l).Perm (x :: l) := by
  induction l with
  | nil => exact List.Perm.refl _
  | cons y r ih =>
    unfold insS
    split
    · exact List.Perm.refl _
    · exact (ih.cons y).trans (List.Perm.swap x y r)

theorem insS_sorted (ns : List Nat) (x : Nat) (l : List Nat) (h : Sorted ns l) (hx : x ∉ l) : Sorted ns (insS ns x l) := by
  induction l with
  | nil => simp [insS, Sorted]
  | cons y r ih =>
    have hy := List.pairwise_cons.1 h
    unfold insS
    split
    · rename_i hlt
      refine List.pairwise_cons.2 ⟨fun z hz => ?_, h⟩
      rcases List.mem_cons.1 hz with rfl | hz
      · exact hlt
      · exact hlt.trans (hy.1 z hz)
    · rename_i hlt
      have hne : x ≠ y := fun e => hx (by simp [e])
      have hyx : Lt ns y x := (Lt.total ns x y hne).resolve_left hlt
      refine List.pairwise_cons.2 ⟨fun z hz => ?_, ih hy.2 (fun e => hx (List.mem_cons_of_mem _ e))⟩
      rcases List.mem_cons.1 ((insS_perm ns x r).mem_iff.1 hz) with rfl | hz
      · exact hyx
      · exact hy.1 z hz

/-- The symbols whose numbers are not 0, as they stand. -/
def usedL (ns : List Nat) : List Nat := (List.range ns.length).filter (fun s => key ns s != 0)

def sortS (ns : List Nat) : List Nat → List Nat
  | [] => []
  | x :: r => insS ns x (sortS ns r)

/-- The symbols by rising numbers. -/
def ris (ns : List Nat) : List Nat := sortS ns (usedL ns)

theorem sortS_perm (ns l : List Nat) : (sortS ns l).Perm l := by
  induction l with
  | nil => exact List.Perm.refl _
  | cons x r ih => exact (insS_perm ns x _).trans (ih.cons x)

theorem sortS_sorted (ns l : List Nat) (h : l.Nodup) : Sorted ns (sortS ns l) := by
  induction l with
  | nil => exact List.Pairwise.nil
  | cons x r ih =>
    have := List.nodup_cons.1 h
    exact insS_sorted ns x _ (ih this.2) (fun e => this.1 ((sortS_perm ns r).mem_iff.1 e))

theorem usedL_lt (ns : List Nat) : (usedL ns).Pairwise (· < ·) := List.Pairwise.filter _ List.pairwise_lt_range
theorem usedL_nodup (ns : List Nat) : (usedL ns).Nodup := (usedL_lt ns).imp (fun h => Nat.ne_of_lt h)

theorem ris_perm (ns : List Nat) : (ris ns).Perm (usedL ns) := sortS_perm ns _
theorem ris_sorted (ns : List Nat) : Sorted ns (ris ns) := sortS_sorted ns _ (usedL_nodup ns)

theorem ris_eq {ns l : List Nat} (h : Sorted ns l) (hp : l.Perm (usedL ns)) : l = ris ns := h.eq (ris_sorted ns) (hp.trans (ris_perm ns).symm)

theorem mem_usedL {ns : List Nat} {s : Nat} : s ∈ usedL ns ↔ s < ns.length ∧ key ns s ≠ 0 := by simp [usedL]
theorem mem_ris {ns : List Nat} {s : Nat} : s ∈ ris ns ↔ s < ns.length ∧ key ns s ≠ 0 := by rw [(ris_perm ns).mem_iff, mem_usedL]
theorem usedL_length (ns : List Nat) : (usedL ns).length ≤ ns.length := by
  have := List.length_filter_le (fun s => key ns s != 0) (List.range ns.length)
  simpa [usedL] using this
theorem ris_length (ns : List Nat) : (ris ns).length ≤ ns.length := by rw [(ris_perm ns).length_eq]; exact usedL_length ns
theorem ris_nodup (ns : List Nat) : (ris ns).Nodup := (ris_perm ns).nodup_iff.2 (usedL_nodup ns)

theorem key_get {ns : List Nat} {s : Nat} (h : s < ns.length) : key ns s = ns[s] := by simp [key, h]

example : ris [2, 1, 3, 3] = [1, 0, 2, 3] := by decide
example : ris [5, 1, 1, 1] = [1, 2, 3, 0] := by decide

end Go.Proofs.YtofhlnpbflkdlaaDoor

/-
  Exchanges in a row of ints; swapRangeCmpFunc, rotateCmpFunc; the comparison of two symbols.
-/
namespace Go.Proofs.YtofhlnpbflkdlaaDoor
open Go.RowKit

theorem swp_cells {B t g n cap : Nat} {α : Type} {enc : α → Value} {w : World} {P M S : List α} {x y : α} (h : RowE B t enc w (.slice (some ⟨g, 0, none⟩) n cap) (P ++ x :: M ++ y :: S)) {i j : Nat} (hi : i = P.length) (hj : j = P.length + 1 + M.length) :
    w.cell? ⟨g, i, none⟩ = some (enc x) ∧ w.cell? ⟨g, j, none⟩ = some (enc y) ∧ w.frozen? ⟨g, i, none⟩ = false ∧ w.frozen? ⟨g, j, none⟩ = false ∧ i < n ∧ j < n ∧ i ≠ j := by
  have hl := h.len
  simp at hl
  subst hi hj
  refine ⟨?_, ?_, h.frozen _, h.frozen _, by omega, by omega, by omega⟩
  · rw [h.cell P.length (by simp)]; simp
  · rw [h.cell (P.length + 1 + M.length) (by simp; omega)]
    congr 2
    rw [List.getElem_append_right (by simp; omega)]
    simp [show P.length + 1 + M.length - (P.length + (M.length + 1)) = 0 by omega]

theorem swp_lay {B t g n cap : Nat} {α : Type} {enc : α → Value} {w : World} {P M S : List α} {x y : α} (h : RowE B t enc w (.slice (some ⟨g, 0, none⟩) n cap) (P ++ x :: M ++ y :: S)) {i j : Nat} (hi : i = P.length) (hj : j = P.length + 1 + M.length) :
    RowE B t enc ((w.setCell ⟨g, i, none⟩ (enc y)).setCell ⟨g, j, none⟩ (enc x)) (.slice (some ⟨g, 0, none⟩) n cap) (P ++ y :: M ++ x :: S) := by
  have h2 := (h.lay i y).lay j x
  subst hi hj
  have e : ((P ++ x :: M ++ y :: S).set P.length y).set (P.length + 1 + M.length) x = P ++ y :: M ++ x :: S := by
    rw [List.append_assoc, List.set_append_right _ _ (by omega), Nat.sub_self, List.cons_append, List.set_cons_zero, List.set_append_right _ _ (by omega),
      show P.length + 1 + M.length - P.length = M.length + 1 by omega, List.set_cons_succ, List.set_append_right _ _ (by omega)]
    simp
  rw [e] at h2
  exact h2

theorem swp_lay2 {B t g n cap : Nat} {α : Type} {enc : α → Value} {w : World} {P M S : List α} {x y : α} (h : RowE B t enc w (.slice (some ⟨g, 0, none⟩) n cap) (P ++ x :: M ++ y :: S)) {i j : Nat} (hi : i = P.length) (hj : j = P.length + 1 + M.length) :
    RowE B t enc ((w.setCell ⟨g, j, none⟩ (enc x)).setCell ⟨g, i, none⟩ (enc y)) (.slice (some ⟨g, 0, none⟩) n cap) (P ++ y :: M ++ x :: S) := by
  have h2 := (h.lay j x).lay i y
  subst hi hj
  have e : ((P ++ x :: M ++ y :: S).set (P.length + 1 + M.length) x).set P.length y = P ++ y :: M ++ x :: S := by
    rw [List.set_comm _ _ (by omega), List.append_assoc, List.set_append_right _ _ (by omega), Nat.sub_self, List.cons_append, List.set_cons_zero, List.set_append_right _ _ (by omega),
      show P.length + 1 + M.length - P.length = M.length + 1 by omega, List.set_cons_succ, List.set_append_right _ _ (by omega)]
    simp
  rw [e] at h2
  exact h2

set_option maxHeartbeats 1000000 in
theorem swap_any (w : World) (B g n cap a b k : Nat) (cv : Value) (P X M Y S : List Nat) (hXY : X.length = Y.length) (hrow : NRow B w (.slice (some ⟨g, 0, none⟩) n cap) (P ++ X ++ M ++ Y ++ S)) (ha : a = P.length) (hb : b = P.length + X.length + M.length) (hk : k = X.length) (hn : n ≤ 1000000) :
    Calls Tryd.prog 101 #[.slice (some ⟨g, 0, none⟩) n cap, .int .i64 (a : Nat), .int .i64 (b : Nat), .int .i64 (k : Nat), cv] w fun e w' => (∃ v, e = .returned v) ∧ NRow B w' (.slice (some ⟨g, 0, none⟩) n cap) (P ++ Y ++ M ++ X ++ S) ∧ Kept (· = g) w w' := by
  have hlen := hrow.len
  simp at hlen
  have HR : Hid (NRow B w (.slice (some ⟨g, 0, none⟩) n cap) (P ++ X ++ M ++ Y ++ S)) := hrow
  have HL : Hid (X.length = Y.length) := hXY
  have HA : Hid (a = P.length) := ha
  have HB : Hid (b = P.length + X.length + M.length) := hb
  have HK : Hid (k = X.length) := hk
  have hab : a + k ≤ n ∧ b + k ≤ n := by omega
  clear hrow hXY ha hb hk hlen
  go_enter Tryd.func101, Tryd.ntmps101
  go_wp2_with fail
  go_loopg [10] k (fun q z wr => ∃ i : Nat, i ≤ k ∧ k - i ≤ q ∧ z = .int .i64 (i : Nat) ∧ NRow B wr (.slice (some ⟨g, 0, none⟩) n cap) (P ++ Y.take i ++ X.drop i ++ M ++ X.take i ++ Y.drop i ++ S) ∧ Kept (· = g) w wr)
  case atStart => exact ⟨0, by omega, by omega, rfl, by simpa using HR.out, Kept.refl _ w⟩
  case round =>
    obtain ⟨i, hi, hik, rfl, hr, hkp⟩ := hrel
    have HR2 : Hid (NRow B wr (.slice (some ⟨g, 0, none⟩) n cap) (P ++ Y.take i ++ X.drop i ++ M ++ X.take i ++ Y.drop i ++ S)) := hr
    have HK2 : Hid (Kept (· = g) w wr) := hkp
    clear hr hkp HR
    by_cases hlt : i < k
    · have hx : i < X.length := by have := HK.out; omega
      have hy : i < Y.length := by have := HL.out; omega
      obtain ⟨x, hx1⟩ : ∃ x, x = X[i] := ⟨_, rfl⟩
      obtain ⟨y, hy1⟩ : ∃ y, y = Y[i] := ⟨_, rfl⟩
      have hr3 := HR2.out
      rw [List.drop_eq_getElem_cons hx, List.drop_eq_getElem_cons hy, ← hx1, ← hy1] at hr3
      have hr4 : NRow B wr (.slice (some ⟨g, 0, none⟩) n cap) ((P ++ Y.take i) ++ x :: (X.drop (i + 1) ++ M ++ X.take i) ++ y :: (Y.drop (i + 1) ++ S)) := by simpa using hr3
      have e1 : a + i = (P ++ Y.take i).length := by have := HA.out; simp; omega
      have e2 : b + i = (P ++ Y.take i).length + 1 + (X.drop (i + 1) ++ M ++ X.take i).length := by have := HB.out; simp; omega
      obtain ⟨c1, c2, f1, f2, l1, l2, hne⟩ := swp_cells hr4 e1 e2
      have HR4 : Hid (NRow B ((wr.setCell ⟨g, a + i, none⟩ (natV y)).setCell ⟨g, b + i, none⟩ (natV x)) (.slice (some ⟨g, 0, none⟩) n cap) (P ++ Y.take (i + 1) ++ X.drop (i + 1) ++ M ++ X.take (i + 1) ++ Y.drop (i + 1) ++ S)) := by
        have h := swp_lay hr4 e1 e2
        have h5 : NRow B ((wr.setCell ⟨g, a + i, none⟩ (natV y)).setCell ⟨g, b + i, none⟩ (natV x)) (.slice (some ⟨g, 0, none⟩) n cap) (P ++ Y.take (i + 1) ++ X.drop (i + 1) ++ M ++ X.take (i + 1) ++ Y.drop (i + 1) ++ S) := by
          rw [List.take_succ_eq_append_getElem hx, List.take_succ_eq_append_getElem hy, ← hx1, ← hy1]
          simpa using h
        exact h5
      clear hr3 hr4 e1 e2 hx1 hy1 HR2 hx hy
      unfold natV at c1 c2
      go_wp2_with fail
      go_region
      all_goals
        go_wp2_with fail
        go_roundg (gk - 1)
        case measure => omega
        case rel => exact ⟨i + 1, by omega, by omega, by go_num, HR4.out, ((HK2.out.setCell ⟨g, a + i, none⟩ _ (.inl rfl)).setCell ⟨g, b + i, none⟩ _ (.inl rfl)).drew⟩
    · have e : i = k := by omega
      subst e
      go_wp2_with fail
      go_end0
      refine ⟨⟨_, rfl⟩, ?_, HK2.out⟩
      have h := HR2.out
      have hk1 := HK.out
      have hk2 := HL.out
      have t1 : X.take i = X := List.take_of_length_le (by omega)
      have t2 : Y.take i = Y := List.take_of_length_le (by omega)
      have t3 : X.drop i = [] := List.drop_eq_nil_of_le (by omega)
      have t4 : Y.drop i = [] := List.drop_eq_nil_of_le (by omega)
      rw [t1, t2, t3, t4] at h
      simpa using h

set_option maxHeartbeats 1000000 in
theorem rotate_any (w : World) (B g n cap a m b : Nat) (cv : Value) (P X Y S : List Nat) (hX : 0 < X.length) (hY : 0 < Y.length) (hrow : NRow B w (.slice (some ⟨g, 0, none⟩) n cap) (P ++ X ++ Y ++ S)) (ha : a = P.length) (hm : m = P.length + X.length) (hb : b = P.length + X.length + Y.length) (hn : n ≤ 1000000) :
    Calls Tryd.prog 100 #[.slice (some ⟨g, 0, none⟩) n cap, .int .i64 (a : Nat), .int .i64 (m : Nat), .int .i64 (b : Nat), cv] w fun e w' => (∃ v, e = .returned v) ∧ NRow B w' (.slice (some ⟨g, 0, none⟩) n cap) (P ++ Y ++ X ++ S) ∧ Kept (· = g) w w' := by
  have hlen := hrow.len
  simp at hlen
  have HR : Hid (NRow B w (.slice (some ⟨g, 0, none⟩) n cap) (P ++ X ++ Y ++ S)) := hrow
  have HA : Hid (a = P.length ∧ m = P.length + X.length ∧ b = P.length + X.length + Y.length) := ⟨ha, hm, hb⟩
  have hab : a < m ∧ m < b ∧ b ≤ n := by omega
  clear hrow ha hm hb hlen
  go_enter Tryd.func100, Tryd.ntmps100
  go_wp2_with fail
  go_loopg [10, 11] (b - a) (fun q zi zj wr => ∃ (i j : Nat) (P' L R S' : List Nat), i + j ≤ q ∧ 0 < i ∧ 0 < j ∧ i ≤ m ∧ m + j ≤ n ∧ zi = .int .i64 (i : Nat) ∧ zj = .int .i64 (j : Nat) ∧ Hid (L.length = i ∧ R.length = j ∧ P'.length = m - i ∧ P' ++ R ++ L ++ S' = P ++ Y ++ X ++ S) ∧ Hid (NRow B wr (.slice (some ⟨g, 0, none⟩) n cap) (P' ++ L ++ R ++ S')) ∧ Hid (Kept (· = g) w wr))
  case atStart => exact ⟨m - a, b - m, P, X, Y, S, by omega, by omega, by omega, by omega, by omega, by congr 1; omega, by congr 1; omega, ⟨by have := HA.out; omega, by have := HA.out; omega, by have := HA.out; omega, rfl⟩, HR.out, Kept.refl _ w⟩
  case round =>
    obtain ⟨i, j, P', L, R, S', hq, hi0, hj0, him, hjn, rfl, rfl, HF, HR2, HK2⟩ := hrel
    clear HR HA
    by_cases he : i = j
    · have hd : ((i : Int) != (j : Int)) = false := by simp [he]
      have e1 : ((m : Int) - (i : Int)) = ((m - i : Nat) : Int) := by omega
      have HC := swap_any wr B g n cap (m - i) m i cv P' L [] R S' (by have := HF.out; omega) (by simpa using HR2.out) HF.out.2.2.1.symm (by have := HF.out; simp; omega) (by have := HF.out; omega) hn
      have HE : Hid (i = j) := he
      clear he
      go_wp2_with fail
      refine HC.mono ?_
      rintro e w2 ⟨⟨v, rfl⟩, hr, hkp⟩
      have HR3 : Hid (NRow B w2 (.slice (some ⟨g, 0, none⟩) n cap) (P' ++ R ++ [] ++ L ++ S')) := hr
      have HK3 : Hid (Kept (· = g) wr w2) := hkp
      clear hr hkp
      go_wp2_with fail
      go_end0
      refine ⟨⟨_, rfl⟩, ?_, HK2.out.trans HK3.out (fun _ _ h => h) (fun _ _ h => h)⟩
      rw [← HF.out.2.2.2]
      simpa using HR3.out
    · have hd : ((i : Int) != (j : Int)) = true := by simp; omega
      by_cases hgt : j < i
      · have e1 : ((m : Int) - (i : Int)) = ((m - i : Nat) : Int) := by omega
        have hr0 : NRow B wr (.slice (some ⟨g, 0, none⟩) n cap) (P' ++ L.take j ++ L.drop j ++ R ++ S') := by simpa using HR2.out
        have HC := swap_any wr B g n cap (m - i) m j cv P' (L.take j) (L.drop j) R S' (by have := HF.out; simp; omega) hr0 HF.out.2.2.1.symm (by have := HF.out; simp; omega) (by have := HF.out; simp; omega) hn
        clear hr0
        go_wp2_with fail
        refine HC.mono ?_
        rintro e w2 ⟨⟨v, rfl⟩, hr, hkp⟩
        have HR3 : Hid (NRow B w2 (.slice (some ⟨g, 0, none⟩) n cap) (P' ++ R ++ L.drop j ++ L.take j ++ S')) := hr
        have HK3 : Hid (Kept (· = g) wr w2) := hkp
        clear hr hkp
        go_wp2_with fail
        go_roundg (gk - j)
        case measure => omega
        case rel =>
          refine ⟨i - j, j, P' ++ R, L.drop j, L.take j, S', by omega, by omega, by omega, by omega, by omega, by congr 1; omega, rfl, ⟨?_, ?_, ?_, ?_⟩, ?_, (HK2.out.trans HK3.out (fun _ _ h => h) (fun _ _ h => h))⟩
          · have := HF.out; simp; omega
          · have := HF.out; simp; omega
          · have := HF.out; simp; omega
          · rw [← HF.out.2.2.2]; simp
          · exact hid (by simpa using HR3.out)
      · have e1 : ((m : Int) - (i : Int)) = ((m - i : Nat) : Int) := by omega
        have e2 : ((m : Int) + (j : Int) - (i : Int)) = ((m + j - i : Nat) : Int) := by omega
        have hr0 : NRow B wr (.slice (some ⟨g, 0, none⟩) n cap) (P' ++ L ++ R.take (j - i) ++ R.drop (j - i) ++ S') := by simpa using HR2.out
        have HC := swap_any wr B g n cap (m - i) (m + j - i) i cv P' L (R.take (j - i)) (R.drop (j - i)) S' (by have := HF.out; simp; omega) hr0 HF.out.2.2.1.symm (by have := HF.out; simp; omega) (by have := HF.out; omega) hn
        clear hr0
        go_wp2_with fail
        refine HC.mono ?_
        rintro e w2 ⟨⟨v, rfl⟩, hr, hkp⟩
        have HR3 : Hid (NRow B w2 (.slice (some ⟨g, 0, none⟩) n cap) (P' ++ R.drop (j - i) ++ R.take (j - i) ++ L ++ S')) := hr
        have HK3 : Hid (Kept (· = g) wr w2) := hkp
        clear hr hkp
        go_wp2_with fail
        go_roundg (gk - i)
        case measure => omega
        case rel =>
          refine ⟨i, j - i, P', R.drop (j - i), R.take (j - i), L ++ S', by omega, by omega, by omega, by omega, by omega, rfl, by congr 1; omega, ⟨?_, ?_, ?_, ?_⟩, ?_, (HK2.out.trans HK3.out (fun _ _ h => h) (fun _ _ h => h))⟩
          · have := HF.out; simp; omega
          · have := HF.out; simp; omega
          · have := HF.out; omega
          · rw [← HF.out.2.2.2]; simp
          · exact hid (by simpa using HR3.out)

end Go.Proofs.YtofhlnpbflkdlaaDoor

/-
  The comparison of two symbols by their numbers; insertionSortCmpFunc.
-/
namespace Go.Proofs.YtofhlnpbflkdlaaDoor
open Go.RowKit

/-- What cmp.Compare answers. -/
def cmv (x y : Nat) : Int := if x < y then -1 else if y < x then 1 else 0
theorem cmv_lt {x y : Nat} (h : x < y) : decide (cmv x y < 0) = true := by simp [cmv, h]
theorem cmv_ge {x y : Nat} (h : ¬ x < y) : decide (cmv x y < 0) = false := by unfold cmv; rw [if_neg h]; split <;> simp

theorem isNaN_any (x : Int) (w : World) : Calls Tryd.prog 95 #[.int .i64 x] w fun e w' => e = .returned (.bool false) ∧ w' = w := by
  have hd : (x != x) = false := by simp
  go_enter Tryd.func95, Tryd.ntmps95
  go_wp2
  go_ret
  simp

set_option maxHeartbeats 1000000 in
theorem compare_any (x y : Nat) (w : World) : Calls Tryd.prog 88 #[.int .i64 (x : Nat), .int .i64 (y : Nat)] w fun e w' => e = .returned (.int .i64 (cmv x y)) ∧ w' = w := by
  have H1 := isNaN_any (x : Int) w
  have H2 := isNaN_any (y : Int) w
  go_enter Tryd.func88, Tryd.ntmps88
  go_wp2_with fail
  refine H1.mono ?_
  rintro e w' ⟨rfl, rfl⟩
  go_wp2_with fail
  refine H2.mono ?_
  rintro e w'' ⟨rfl, rfl⟩
  by_cases h : x < y
  · go_wp2_with fail
    go_ret
    simp [cmv, h]
  · by_cases h2 : y < x
    · go_wp2_with fail
      go_ret
      simp [cmv, h, h2]
    · go_wp2_with fail
      go_ret
      simp [cmv, h, h2]

/-- What the comparison of rising stands on: the box of the numbers at bx, the numbers themselves. -/
structure Cmp (w : World) (bx : Nat) (I : Nat → Prop) (ns : List Nat) : Prop where
  ex : ∃ v, w.cell? ⟨bx, 0, none⟩ = some v ∧ SrcE natV w I v ns

theorem Cmp.kept {F : Nat → Prop} {w w' : World} {bx : Nat} {I : Nat → Prop} {ns : List Nat} (h : Cmp w bx I ns) (hk : Kept F w w') (h1 : ¬ F bx) (h2 : ∀ k, I k → k < w.heap.size → ¬ F k) : Cmp w' bx I ns := by
  obtain ⟨v, hv, hs⟩ := h.ex
  exact ⟨v, hk.cell hv h1, hs.kept hk h2⟩

/-- The function value. -/
abbrev cmpV (bx : Nat) : Value := .func (.func 87) #[] #[.pointer (some ⟨bx, 0, none⟩)]

set_option maxHeartbeats 1000000 in
theorem less_any (w : World) (bx : Nat) (I : Nat → Prop) (ns : List Nat) (h : Cmp w bx I ns) (_hn : ns.length ≤ 1000000) (a b : Nat) (ha : a < ns.length) (hb : b < ns.length) :
    Calls Tryd.prog 87 #[.int .i64 (a : Nat), .int .i64 (b : Nat), .pointer (some ⟨bx, 0, none⟩)] w fun e w' => e = .returned (.int .i64 (cmv (key ns a) (key ns b))) ∧ ∃ m, w' = w.drewN m := by
  obtain ⟨v, hv, hs⟩ := h.ex
  obtain ⟨b1, o1, cap, rfl, _, _, c1⟩ := hs.get a ha
  obtain ⟨b2, o2, cap2, e, _, _, c2⟩ := hs.get b hb
  simp only [Value.slice.injEq, Option.some.injEq, Addr.mk.injEq, and_true] at e
  obtain ⟨⟨rfl, rfl⟩, _, rfl⟩ := e
  rw [← key_get ha] at c1
  rw [← key_get hb] at c2
  unfold natV at c1 c2
  have HC := fun q => compare_any (key ns a) (key ns b) (w.drewN q)
  generalize key ns a = x at *
  generalize key ns b = y at *
  clear hs h
  go_enter Tryd.func87, Tryd.ntmps87
  go_wp2_with fail
  go_quiet ((go_at_call 88; exact Calls.quiet_of_same (HC _)))
  go_wp2_with fail
  go_ret
  exact ⟨rfl, _, rfl⟩

/-- The same in whatever world behind draws. -/
theorem less_at (w : World) (bx : Nat) (I : Nat → Prop) (ns : List Nat) (h : Cmp w bx I ns) (hn : ns.length ≤ 1000000) (a b : Nat) (ha : a < ns.length) (hb : b < ns.length) (q : Nat) :
    Calls Tryd.prog 87 #[.int .i64 (a : Nat), .int .i64 (b : Nat), .pointer (some ⟨bx, 0, none⟩)] (w.drewN q) fun e w' => e = .returned (.int .i64 (cmv (key ns a) (key ns b))) ∧ ∃ m, w' = (w.drewN q).drewN m :=
  less_any (w.drewN q) bx I ns ⟨h.ex⟩ hn a b ha hb

theorem ins_fact {ns T1 T2 : List Nat} {x : Nat} (hT : Sorted ns (T1 ++ T2)) (h1 : AllLt ns T1 [x]) (h2 : AllLt ns [x] T2) : Sorted ns (T1 ++ x :: T2) := by
  refine Sorted.append hT.left (List.pairwise_cons.2 ⟨fun y hy => h2 x (by simp) y hy, hT.right⟩) ?_
  intro a ha b hb
  rcases List.mem_cons.1 hb with rfl | hb
  · exact h1 a ha _ (by simp)
  · exact hT.cross a ha b hb

theorem last_fact {ns T0 : List Nat} {y x : Nat} (hT : Sorted ns (T0 ++ [y])) (h : Lt ns y x) : AllLt ns (T0 ++ [y]) [x] := by
  intro a ha b hb
  have hb : b = x := by simpa using hb
  subst hb
  rcases List.mem_append.1 ha with ha | ha
  · exact (hT.cross a ha y (by simp)).trans h
  · have : a = y := by simpa using ha
    subst this; exact h

/-- What is known once an element has its place. -/
theorem ins_done {ns E T U' T1 T2 : List Nat} {x a i b : Nat} (hF : (a + T.length = i ∨ T = [] ∧ x :: U' = []) ∧ b = a + T.length + (x :: U').length ∧ Sorted ns T ∧ Ahead T (x :: U') ∧ (x :: U').Pairwise (· < ·) ∧ (T ++ x :: U').Perm E)
    (hT : T = T1 ++ T2) (h1 : AllLt ns T1 [x]) (h2 : AllLt ns [x] T2) :
    (a + (T1 ++ x :: T2).length = i + 1 ∨ T1 ++ x :: T2 = [] ∧ U' = []) ∧ b = a + (T1 ++ x :: T2).length + U'.length ∧ Sorted ns (T1 ++ x :: T2) ∧ Ahead (T1 ++ x :: T2) U' ∧ U'.Pairwise (· < ·) ∧ ((T1 ++ x :: T2) ++ U').Perm E := by
  obtain ⟨f1, f2, f3, f4, f5, f6⟩ := hF
  subst hT
  have hp : ((T1 ++ x :: T2) ++ U').Perm (T1 ++ T2 ++ x :: U') := by
    have : (T1 ++ x :: T2).Perm (T1 ++ T2 ++ [x]) := by
      rw [List.append_assoc]
      exact List.Perm.append_left _ (List.perm_append_singleton x T2).symm
    have h2 := this.append_right U'
    simpa using h2
  have f1' := f1.resolve_right (by simp)
  refine ⟨.inl ?_, ?_, ins_fact f3 h1 h2, ?_, (List.pairwise_cons.1 f5).2, hp.trans f6⟩
  · simp at f1' ⊢; omega
  · simp at f2 ⊢; omega
  · intro y hy z hz
    have hy2 : y ∈ T1 ++ T2 ∨ y = x := by
      simp at hy ⊢
      rcases hy with h | h | h
      · exact .inl (.inl h)
      · exact .inr h
      · exact .inl (.inr h)
    rcases hy2 with hy2 | rfl
    · exact f4 y hy2 z (List.mem_cons_of_mem _ hz)
    · exact (List.pairwise_cons.1 f5).1 z hz

set_option maxHeartbeats 2000000 in
set_option maxRecDepth 100000 in
theorem insertion_any (w : World) (B g n cap a b bx : Nat) (I : Nat → Prop) (ns P E S : List Nat) (hrow : NRow B w (.slice (some ⟨g, 0, none⟩) n cap) (P ++ E ++ S)) (ha : a = P.length) (hb : b = P.length + E.length) (hn : n ≤ 1000000) (hns : ns.length ≤ 1000000)
    (hc : Cmp w bx I ns) (hbx : bx ≠ g) (hI : ∀ k, I k → k ≠ g) (hE : E.Pairwise (· < ·)) (hm : ∀ x ∈ E, x < ns.length) :
    Calls Tryd.prog 98 #[.slice (some ⟨g, 0, none⟩) n cap, .int .i64 (a : Nat), .int .i64 (b : Nat), cmpV bx] w fun e w' => (∃ v, e = .returned v) ∧ (∃ E', E'.Perm E ∧ Sorted ns E' ∧ NRow B w' (.slice (some ⟨g, 0, none⟩) n cap) (P ++ E' ++ S)) ∧ Kept (· = g) w w' := by
  have hlen := hrow.len
  simp at hlen
  have HR : Hid (NRow B w (.slice (some ⟨g, 0, none⟩) n cap) (P ++ E ++ S)) := hrow
  have HA : Hid (a = P.length ∧ b = P.length + E.length) := ⟨ha, hb⟩
  have HC : Hid (Cmp w bx I ns) := hc
  have HE : Hid (E.Pairwise (· < ·)) := hE
  have HM : Hid (∀ x ∈ E, x < ns.length) := hm
  have HI : Hid (∀ k, I k → k ≠ g) := hI
  have HX : Hid (bx ≠ g) := hbx
  have hab : a ≤ b ∧ b ≤ n := by omega
  clear hrow ha hb hlen hc hE hm hI hbx
  go_enter Tryd.func98, Tryd.ntmps98
  go_wp2_with fail
  go_loopg [8] (b - a) (fun q z wr => ∃ (i : Nat) (T U : List Nat), b - i ≤ q ∧ 0 < i ∧ a < i ∧ i ≤ b + 1 ∧ z = .int .i64 (i : Nat) ∧ Hid ((a + T.length = i ∨ T = [] ∧ U = []) ∧ b = a + T.length + U.length ∧ Sorted ns T ∧ Ahead T U ∧ U.Pairwise (· < ·) ∧ (T ++ U).Perm E) ∧ Hid (NRow B wr (.slice (some ⟨g, 0, none⟩) n cap) (P ++ T ++ U ++ S)) ∧ Hid (Kept (· = g) w wr))
  case atStart =>
    refine ⟨a + 1, E.take 1, E.drop 1, by omega, by omega, by omega, by omega, by go_num, ⟨?_, ?_, ?_, ?_, ?_, ?_⟩, ?_, Kept.refl _ w⟩
    · cases E with
      | nil => right; simp
      | cons x r => left; simp
    · have := HA.out; simp; omega
    · cases E with
      | nil => simp [Sorted]
      | cons x r => simp [Sorted]
    · have h := HE.out
      rw [← List.take_append_drop 1 E] at h
      exact (List.pairwise_append.1 h).2.2
    · have h := HE.out
      rw [← List.take_append_drop 1 E] at h
      exact (List.pairwise_append.1 h).2.1
    · rw [List.take_append_drop]
    · have h := HR.out
      have e : P ++ E.take 1 ++ E.drop 1 ++ S = P ++ E ++ S := by rw [List.append_assoc P, List.take_append_drop]
      show NRow B w (.slice (some ⟨g, 0, none⟩) n cap) (P ++ E.take 1 ++ E.drop 1 ++ S)
      rw [e]
      exact h
  case round =>
    obtain ⟨i, T, U, hq, hi0, hai, hib, rfl, HF, HR2, HK2⟩ := hrel
    obtain ⟨gk0, hgk⟩ : ∃ x, x = gk := ⟨_, rfl⟩
    rw [← hgk] at hq
    have HG : Hid (gk0 = gk) := hgk
    clear hgk HR
    by_cases hlt : i < b
    · obtain ⟨x, U', hU⟩ : ∃ x U', U = x :: U' := by
        cases hU : U with
        | nil => have h := HF.out; subst hU; have h1 := h.2.1; have h2 := h.1; simp at h1 h2; rcases h2 with h2 | h2; omega; subst h2; simp at h1; omega
        | cons x r => exact ⟨x, r, rfl⟩
      subst hU
      have hT : a + T.length = i := (HF.out.1).resolve_right (by simp)
      have HT : Hid (a + T.length = i) := hT
      clear hT hi0
      go_wp2_with fail
      go_loopg [9] (i - a) (fun q z wr2 => ∃ (j : Nat) (T1 T2 : List Nat), j - a ≤ q ∧ a ≤ j ∧ j ≤ i ∧ z = .int .i64 (j : Nat) ∧ Hid (a + T1.length = j ∧ T = T1 ++ T2 ∧ AllLt ns [x] T2) ∧ Hid (NRow B wr2 (.slice (some ⟨g, 0, none⟩) n cap) (P ++ T1 ++ x :: T2 ++ U' ++ S)) ∧ Hid (Kept (· = g) w wr2))
      case atStart => exact ⟨i, T, [], by omega, by omega, by omega, rfl, ⟨HT.out, by simp, by simp [AllLt]⟩, by have h := HR2.out; show NRow B wr _ _; simpa using h, HK2.out⟩
      case round =>
        obtain ⟨j, T1, T2, hq2, haj, hji, rfl, HF2, HR3, HK3⟩ := hrel
        clear HR2 HK2
        by_cases hja : a < j
        · obtain ⟨T0, y, hT0⟩ : ∃ T0 y, T1 = T0 ++ [y] := by
            rcases List.eq_nil_or_concat T1 with rfl | ⟨es, y, e⟩
            · have := HF2.out.1; simp at this; omega
            · exact ⟨es, y, by rw [e, List.concat_eq_append]⟩
          subst hT0
          have hperm := HF.out.2.2.2.2.2
          have hxm : x < ns.length := HM.out x (hperm.mem_iff.1 (by simp))
          have hym : y < ns.length := HM.out y (hperm.mem_iff.1 (by rw [HF2.out.2.1]; simp))
          have hyx : y < x := HF.out.2.2.2.1 y (by rw [HF2.out.2.1]; simp) x (by simp)
          have hcell : NRow B wr (.slice (some ⟨g, 0, none⟩) n cap) ((P ++ T0) ++ y :: [] ++ x :: (T2 ++ U' ++ S)) := by have h := HR3.out; simpa using h
          have e1 : j - 1 = (P ++ T0).length := by have := HF2.out.1; have := HA.out.1; simp at *; omega
          have e2 : j = (P ++ T0).length + 1 + ([] : List Nat).length := by have := HF2.out.1; have := HA.out.1; simp at *; omega
          obtain ⟨c1, c2, f1, f2, l1, l2, hne⟩ := swp_cells hcell e1 e2
          have hsub : ((j : Int) - 1) = ((j - 1 : Nat) : Int) := by omega
          have HL := less_at wr bx I ns (HC.out.kept HK3.out (fun e => HX.out e) (fun k hk _ e => HI.out k hk e)) hns x y hxm hym
          unfold natV at c1 c2
          by_cases hxy : key ns x < key ns y
          · have hd := cmv_lt hxy
            have HLT : Hid (Lt ns x y) := (Lt.iff_of_gt hyx).2 hxy
            have HR4 : Hid (NRow B ((wr.setCell ⟨g, j, none⟩ (natV y)).setCell ⟨g, j - 1, none⟩ (natV x)) (.slice (some ⟨g, 0, none⟩) n cap) (P ++ T0 ++ x :: (y :: T2) ++ U' ++ S)) := by
              have h := swp_lay2 hcell e1 e2
              have h5 : NRow B ((wr.setCell ⟨g, j, none⟩ (natV y)).setCell ⟨g, j - 1, none⟩ (natV x)) (.slice (some ⟨g, 0, none⟩) n cap) (P ++ T0 ++ x :: (y :: T2) ++ U' ++ S) := by simpa using h
              exact h5
            generalize cmv (key ns x) (key ns y) = cz at HL hd
            clear hcell e1 e2 hperm hxm hym hyx hxy
            go_wp2_with fail
            go_quiet ((go_at_call 87; exact Calls.quiet_of (HL _)))
            go_wp2_with fail
            go_region
            all_goals
              go_wp2_with fail
              go_roundg (gk - 1)
              case measure => omega
              case rel =>
                refine ⟨j - 1, T0, y :: T2, by omega, by omega, by omega, by congr 1, ⟨?_, ?_, ?_⟩, HR4.out, (((HK3.out.drewN _).setCell ⟨g, j, none⟩ _ (.inl rfl)).setCell ⟨g, j - 1, none⟩ _ (.inl rfl))⟩
                · have := HF2.out.1; simp at this; omega
                · rw [HF2.out.2.1]; simp
                · intro p hp q hq
                  have hp : p = x := by simpa using hp
                  subst hp
                  rcases List.mem_cons.1 hq with rfl | hq
                  · exact HLT.out
                  · exact HF2.out.2.2 p (by simp) q hq
          · have hd := cmv_ge hxy
            have HLT : Hid (Lt ns y x) := Lt.of_not hyx hxy
            generalize cmv (key ns x) (key ns y) = cz at HL hd
            clear hcell e1 e2 hperm hxm hym hyx hxy
            go_wp2_with fail
            go_quiet ((go_at_call 87; exact Calls.quiet_of (HL _)))
            go_wp2_with fail
            go_roundg (gk0 - 1)
            case measure => have := HG.out; omega
            case rel =>
              refine ⟨i + 1, (T0 ++ [y]) ++ x :: T2, U', by omega, by omega, by omega, by omega, by go_num, ins_done HF.out HF2.out.2.1 (last_fact ?_ HLT.out) HF2.out.2.2, hid (RowE.drewN _ (by simpa using HR3.out)), HK3.out.drewN _⟩
              have h := HF.out.2.2.1
              rw [HF2.out.2.1] at h
              exact h.left
        · have hja2 : j = a := by omega
          have hd : decide (a < j) = false := by simp; omega
          have hT1 : T1 = [] := List.eq_nil_of_length_eq_zero (by have := HF2.out.1; omega)
          subst hT1
          go_wp2_with fail
          go_quiet (fail)
          go_wp2_with fail
          go_roundg (gk0 - 1)
          case measure => have := HG.out; omega
          case rel => exact ⟨i + 1, [] ++ x :: T2, U', by omega, by omega, by omega, by omega, by go_num, ins_done HF.out HF2.out.2.1 (by simp [AllLt]) HF2.out.2.2, hid (RowE.drewN _ (by simpa using HR3.out)), HK3.out.drewN _⟩
    · go_wp2_with fail
      go_end0
      have hU : U = [] := by
        rcases HF.out.1 with h | h
        · exact List.eq_nil_of_length_eq_zero (by have := HF.out.2.1; omega)
        · exact h.2
      subst hU
      exact ⟨⟨_, rfl⟩, ⟨T, by simpa using HF.out.2.2.2.2.2, HF.out.2.2.1, by simpa using HR2.out⟩, HK2.out⟩

end Go.Proofs.YtofhlnpbflkdlaaDoor

/-
  symMergeCmpFunc: two sorted parts of a row become one.
-/
namespace Go.Proofs.YtofhlnpbflkdlaaDoor
open Go.RowKit

/-- What a merge is asked at: two sorted parts, the first's symbols all lower. -/
structure Parts (ns A B : List Nat) : Prop where
  sa : Sorted ns A
  sb : Sorted ns B
  ahead : Ahead A B
  ma : ∀ x ∈ A, x < ns.length
  mb : ∀ x ∈ B, x < ns.length

/-- The world that a merge is asked in. -/
structure Mem (w : World) (B g n cap bx : Nat) (I : Nat → Prop) (ns d : List Nat) : Prop where
  row : NRow B w (.slice (some ⟨g, 0, none⟩) n cap) d
  cmp : Cmp w bx I ns
  hbx : bx ≠ g
  hI : ∀ k, I k → k ≠ g
  hn : n ≤ 1000000
  hns : ns.length ≤ 1000000

theorem Mem.drewN {w : World} {B g n cap bx : Nat} {I : Nat → Prop} {ns d : List Nat} (h : Mem w B g n cap bx I ns d) (k : Nat) : Mem (w.drewN k) B g n cap bx I ns d := ⟨h.row, ⟨h.cmp.ex⟩, h.hbx, h.hI, h.hn, h.hns⟩

theorem Mem.to {w w' : World} {B g n cap bx : Nat} {I : Nat → Prop} {ns d d' : List Nat} (h : Mem w B g n cap bx I ns d) (hr : NRow B w' (.slice (some ⟨g, 0, none⟩) n cap) d') (hk : Kept (· = g) w w') : Mem w' B g n cap bx I ns d' :=
  ⟨hr, h.cmp.kept hk (fun e => h.hbx e) (fun k hk _ e => h.hI k hk e), h.hbx, h.hI, h.hn, h.hns⟩

theorem Mem.at {w : World} {B g n cap bx : Nat} {I : Nat → Prop} {ns d : List Nat} (h : Mem w B g n cap bx I ns d) (j : Nat) (hj : j < d.length) : w.cell? ⟨g, j, none⟩ = some (.int .i64 ((d[j] : Nat) : Int)) := h.row.cell j hj

/-- What a merge answers. -/
def Merged (w w' : World) (B g n cap bx : Nat) (I : Nat → Prop) (ns P L R S : List Nat) : Prop :=
  ∃ C, C.Perm (L ++ R) ∧ Sorted ns C ∧ Mem w' B g n cap bx I ns (P ++ C ++ S) ∧ Kept (· = g) w w'

/-- Two halves that are sorted, the first ahead of the second. -/
theorem halves {ns A B C1 C2 : List Nat} {i j : Nat} (hx : AllLt ns (A.take i ++ B.take j) (A.drop i ++ B.drop j)) (p1 : C1.Perm (A.take i ++ B.take j)) (s1 : Sorted ns C1) (p2 : C2.Perm (A.drop i ++ B.drop j)) (s2 : Sorted ns C2) :
    (C1 ++ C2).Perm (A ++ B) ∧ Sorted ns (C1 ++ C2) := by
  refine ⟨?_, s1.append s2 (hx.perm p1 p2)⟩
  refine (p1.append p2).trans ?_
  have e : (A.take i ++ B.take j ++ (A.drop i ++ B.drop j)).Perm (A.take i ++ A.drop i ++ (B.take j ++ B.drop j)) := by
    rw [List.append_assoc, List.append_assoc]
    refine List.Perm.append_left _ ?_
    rw [← List.append_assoc, ← List.append_assoc]
    exact List.Perm.append_right _ List.perm_append_comm
  rw [List.take_append_drop, List.take_append_drop] at e
  exact e

set_option maxHeartbeats 2000000 in
set_option maxRecDepth 100000 in
theorem sym_one (w : World) (B g n cap bx a m b : Nat) (I : Nat → Prop) (ns P R S : List Nat) (x : Nat) (hM : Mem w B g n cap bx I ns (P ++ [x] ++ R ++ S)) (hP : Parts ns [x] R) (ha : a = P.length) (hm : m = P.length + 1) (hb : b = P.length + 1 + R.length) :
    Calls Tryd.prog 99 #[.slice (some ⟨g, 0, none⟩) n cap, .int .i64 (a : Nat), .int .i64 (m : Nat), .int .i64 (b : Nat), cmpV bx] w fun e w' => (∃ v, e = .returned v) ∧ Merged w w' B g n cap bx I ns P [x] R S := by
  have hlen := hM.row.len
  simp at hlen
  have hn := hM.hn
  have HM : Hid (Mem w B g n cap bx I ns (P ++ [x] ++ R ++ S)) := hM
  have HP : Hid (Parts ns [x] R) := hP
  have HA : Hid (a = P.length ∧ m = P.length + 1 ∧ b = P.length + 1 + R.length ∧ m = a + 1 ∧ P.length + 1 + R.length + S.length = n) := by exact ⟨ha, hm, hb, by omega, by omega⟩
  have hd : ((m : Int) - (a : Int)) = 1 := by omega
  have hab2 : m ≤ b ∧ b ≤ n ∧ a < n ∧ a < m := by omega
  clear hlen hM hP ha hm hb
  go_enter Tryd.func99, Tryd.ntmps99
  go_wp2_with fail
  go_loopg [10, 11] (b - m) (fun q zi zj wr => ∃ (i j : Nat), j - i ≤ q ∧ m ≤ i ∧ i ≤ j ∧ j ≤ b ∧ zi = .int .i64 (i : Nat) ∧ zj = .int .i64 (j : Nat) ∧ Hid ((i = m ∨ ∃ h : i - 1 - m < R.length, m < i ∧ Lt ns R[i - 1 - m] x) ∧ (j = b ∨ ∃ h : j - m < R.length, Lt ns x R[j - m])) ∧ Hid (Mem wr B g n cap bx I ns (P ++ [x] ++ R ++ S)) ∧ Hid (Kept (· = g) w wr))
  case atStart => exact ⟨m, b, by omega, by omega, by omega, by omega, rfl, rfl, ⟨.inl rfl, .inl rfl⟩, HM.out, Kept.refl _ w⟩
  case round =>
    obtain ⟨i, j, hq, hmi, hij, hjb, rfl, rfl, HF, HM2, HK2⟩ := hrel
    clear HM
    by_cases hlt : i < j
    · obtain ⟨h, hh⟩ : ∃ h, h = (i + j) / 2 := ⟨_, rfl⟩
      have hhi : i ≤ h ∧ h < j := by omega
      have hmid : ((i : Int) + (j : Int)) / 2 = (h : Int) := by omega
      have hR : h - m < R.length := by have := HA.out; omega
      obtain ⟨y, hy⟩ : ∃ y, y = R[h - m] := ⟨_, rfl⟩
      have cx : wr.cell? ⟨g, a, none⟩ = some (.int .i64 (x : Int)) := by
        have hc := HM2.out.at a (by have := HA.out; simp; omega)
        rw [hc]; congr 3
        have := HA.out.1; subst this; simp
      have cy : wr.cell? ⟨g, h, none⟩ = some (.int .i64 (y : Int)) := by
        have hc := HM2.out.at h (by have := HA.out; simp; omega)
        rw [hc]; congr 3
        rw [List.getElem_append_left (by have := HA.out; simp; omega), List.getElem_append_right (by have := HA.out; simp; omega)]
        rw [hy]; congr 1; have := HA.out; simp; omega
      have hym : y ∈ R := by rw [hy]; exact List.getElem_mem _
      have hxy : x < y := HP.out.ahead x (by simp) y hym
      have HL := less_at wr bx I ns HM2.out.cmp HM2.out.hns y x (HP.out.mb y hym) (HP.out.ma x (by simp))
      have HY : Hid (y = R[h - m]) := hy
      clear hh hy hym
      by_cases hk : key ns y < key ns x
      · have hd2 := cmv_lt hk
        have HLT : Hid (Lt ns y x) := (Lt.iff_of_gt hxy).2 hk
        generalize cmv (key ns y) (key ns x) = cz at HL hd2
        clear hk
        go_wp2_with fail
        go_quiet ((go_at_call 87; exact Calls.quiet_of (HL _)))
        go_wp2_with fail
        go_roundg (gk - 1)
        case measure => omega
        case rel =>
          refine ⟨h + 1, j, by omega, by omega, by omega, by omega, by go_num, rfl, ⟨.inr ⟨by simpa [show h + 1 - 1 - m = h - m by omega] using hR, by omega, ?_⟩, HF.out.2⟩, HM2.out.drewN _, HK2.out.drewN _⟩
          have := HLT.out; rw [HY.out] at this
          simpa [show h + 1 - 1 - m = h - m by omega] using this
      · have hd2 := cmv_ge hk
        have HLT : Hid (Lt ns x y) := Lt.of_not hxy hk
        generalize cmv (key ns y) (key ns x) = cz at HL hd2
        clear hk
        go_wp2_with fail
        go_quiet ((go_at_call 87; exact Calls.quiet_of (HL _)))
        go_wp2_with fail
        go_roundg (gk - 1)
        case measure => omega
        case rel =>
          refine ⟨i, h, by omega, by omega, by omega, by omega, rfl, rfl, ⟨HF.out.1, .inr ⟨hR, ?_⟩⟩, HM2.out.drewN _, HK2.out.drewN _⟩
          have := HLT.out; rw [HY.out] at this
          exact this
    · have hij2 : i = j := by omega
      subst hij2
      have hsub : ((i : Int) - 1) = ((i - 1 : Nat) : Int) := by omega
      go_wp2_with fail
      go_loopg [13] (i - 1 - a) (fun q z wk => ∃ k : Nat, i - 1 - k ≤ q ∧ a ≤ k ∧ k ≤ i - 1 ∧ z = .int .i64 (k : Nat) ∧ Hid (Mem wk B g n cap bx I ns (P ++ R.take (k - a) ++ x :: R.drop (k - a) ++ S)) ∧ Hid (Kept (· = g) w wk))
      case atStart => exact ⟨a, by omega, by omega, by omega, rfl, by have h := HM2.out; exact hid (by simpa using h), HK2.out⟩
      case round =>
        obtain ⟨k, hq2, hak, hki, rfl, HM3, HK3⟩ := hrel
        clear HM2 HK2
        by_cases hlt2 : k < i - 1
        · have hR : k - a < R.length := by have := HA.out; omega
          obtain ⟨y, hy⟩ : ∃ y, y = R[k - a] := ⟨_, rfl⟩
          have hr0 : NRow B wr (.slice (some ⟨g, 0, none⟩) n cap) ((P ++ R.take (k - a)) ++ x :: [] ++ y :: (R.drop (k - a + 1) ++ S)) := by
            have h := HM3.out.row
            rw [List.drop_eq_getElem_cons hR, ← hy] at h
            simpa using h
          have e1 : k = (P ++ R.take (k - a)).length := by have := HA.out; simp; omega
          have e2 : k + 1 = (P ++ R.take (k - a)).length + 1 + ([] : List Nat).length := by have := HA.out; simp; omega
          obtain ⟨c1, c2, f1, f2, l1, l2, hne⟩ := swp_cells hr0 e1 e2
          have HR4 : Hid (NRow B ((wr.setCell ⟨g, k, none⟩ (natV y)).setCell ⟨g, k + 1, none⟩ (natV x)) (.slice (some ⟨g, 0, none⟩) n cap) (P ++ R.take (k + 1 - a) ++ x :: R.drop (k + 1 - a) ++ S)) := by
            have h := swp_lay hr0 e1 e2
            have h5 : NRow B ((wr.setCell ⟨g, k, none⟩ (natV y)).setCell ⟨g, k + 1, none⟩ (natV x)) (.slice (some ⟨g, 0, none⟩) n cap) (P ++ R.take (k + 1 - a) ++ x :: R.drop (k + 1 - a) ++ S) := by
              rw [show k + 1 - a = (k - a) + 1 by omega, List.take_succ_eq_append_getElem hR, ← hy]
              simpa using h
            exact h5
          unfold natV at c1 c2
          clear hr0 e1 e2 hy
          go_wp2_with fail
          go_region
          all_goals
            go_wp2_with fail
            go_roundg (gk - 1)
            case measure => omega
            case rel =>
              have hk' : Kept (· = g) wr (((wr.setCell ⟨g, k, none⟩ (natV y)).setCell ⟨g, k + 1, none⟩ (natV x))) := ((Kept.refl (· = g) wr).setCell ⟨g, k, none⟩ _ (.inl rfl)).setCell ⟨g, k + 1, none⟩ _ (.inl rfl)
              exact ⟨k + 1, by omega, by omega, by omega, by go_num, HM3.out.to HR4.out hk'.drew, ((HK3.out.setCell ⟨g, k, none⟩ _ (.inl rfl)).setCell ⟨g, k + 1, none⟩ _ (.inl rfl)).drew⟩
        · have e : k = i - 1 := by omega
          subst e
          go_wp2_with fail
          refine bodyPost_ret (results_none rfl _ _ _) rfl ?_
          refine ⟨⟨_, rfl⟩, R.take (i - 1 - a) ++ x :: R.drop (i - 1 - a), ?_⟩
          have hia : i - 1 - a = i - m := by have := HA.out; omega
          have hHA := HA.out
          have hF := HF.out
          have hsr := HP.out.sb
          have x1 : AllLt ns (List.take 0 [x] ++ R.take (i - m)) (List.drop 0 [x] ++ R.drop (i - m)) := by
            refine cross_of 0 (i - m) HP.out.sa hsr (.inl rfl) ?_
            rcases hF.1 with h | ⟨h1, h2, h3⟩
            · left; omega
            · right; right; exact ⟨⟨by omega, by omega, by simp⟩, by simpa [show i - m - 1 = i - 1 - m by omega] using h3⟩
          have x2 : AllLt ns (List.take 1 [x] ++ R.take (i - m)) (List.drop 1 [x] ++ R.drop (i - m)) := by
            refine cross_of 1 (i - m) HP.out.sa hsr ?_ (.inr (.inl (by simp)))
            rcases hF.2 with h | ⟨h1, h3⟩
            · right; left; omega
            · right; right; exact ⟨⟨by omega, by simp, by omega⟩, by simpa using h3⟩
          have st : Sorted ns (x :: R.drop (i - m)) := List.pairwise_cons.2 ⟨fun z hz => x2 x (by simp) z (by simpa using hz), by have h := hsr; rw [← List.take_append_drop (i - m) R] at h; exact Sorted.right h⟩
          have s1 : Sorted ns (R.take (i - m)) := by have h := hsr; rw [← List.take_append_drop (i - m) R] at h; exact Sorted.left h
          have hh := halves x1 (C1 := R.take (i - m)) (C2 := x :: R.drop (i - m)) (by simp) s1 (by simp) st
          rw [hia]
          refine ⟨hh.1, hh.2, ?_, HK3.out⟩
          have h := HM3.out
          rw [hia] at h
          simpa using h

set_option maxHeartbeats 2000000 in
set_option maxRecDepth 100000 in
theorem sym_last (w : World) (B g n cap bx a m b : Nat) (I : Nat → Prop) (ns P L S : List Nat) (y : Nat) (hM : Mem w B g n cap bx I ns (P ++ L ++ [y] ++ S)) (hP : Parts ns L [y]) (ha : a = P.length) (hm : m = P.length + L.length) (hb : b = P.length + L.length + 1) (hL : 1 < L.length) :
    Calls Tryd.prog 99 #[.slice (some ⟨g, 0, none⟩) n cap, .int .i64 (a : Nat), .int .i64 (m : Nat), .int .i64 (b : Nat), cmpV bx] w fun e w' => (∃ v, e = .returned v) ∧ Merged w w' B g n cap bx I ns P L [y] S := by
  have hlen := hM.row.len
  simp at hlen
  have hn := hM.hn
  have HM : Hid (Mem w B g n cap bx I ns (P ++ L ++ [y] ++ S)) := hM
  have HP : Hid (Parts ns L [y]) := hP
  have HA : Hid (a = P.length ∧ m = P.length + L.length ∧ b = P.length + L.length + 1 ∧ b = m + 1 ∧ P.length + L.length + 1 + S.length = n) := by exact ⟨ha, hm, hb, by omega, by omega⟩
  have hd0 : ((m : Int) - (a : Int) == 1) = false := by simp; omega
  have hd : ((b : Int) - (m : Int)) = 1 := by omega
  have hab2 : a ≤ m ∧ m < n ∧ m < b := by omega
  clear hlen hM hP ha hm hb hL
  go_enter Tryd.func99, Tryd.ntmps99
  go_wp2_with fail
  go_loopg [14, 15] (m - a) (fun q zi zj wr => ∃ (i j : Nat), j - i ≤ q ∧ a ≤ i ∧ i ≤ j ∧ j ≤ m ∧ zi = .int .i64 (i : Nat) ∧ zj = .int .i64 (j : Nat) ∧ Hid ((i = a ∨ ∃ h : i - 1 - a < L.length, a < i ∧ Lt ns L[i - 1 - a] y) ∧ (j = m ∨ ∃ h : j - a < L.length, Lt ns y L[j - a])) ∧ Hid (Mem wr B g n cap bx I ns (P ++ L ++ [y] ++ S)) ∧ Hid (Kept (· = g) w wr))
  case atStart => exact ⟨a, m, by omega, by omega, by omega, by omega, rfl, rfl, ⟨.inl rfl, .inl rfl⟩, HM.out, Kept.refl _ w⟩
  case round =>
    obtain ⟨i, j, hq, hmi, hij, hjb, rfl, rfl, HF, HM2, HK2⟩ := hrel
    clear HM
    by_cases hlt : i < j
    · obtain ⟨h, hh⟩ : ∃ h, h = (i + j) / 2 := ⟨_, rfl⟩
      have hhi : i ≤ h ∧ h < j := by omega
      have hmid : ((i : Int) + (j : Int)) / 2 = (h : Int) := by omega
      have hR : h - a < L.length := by have := HA.out; omega
      obtain ⟨x, hx⟩ : ∃ x, x = L[h - a] := ⟨_, rfl⟩
      have cy : wr.cell? ⟨g, m, none⟩ = some (.int .i64 (y : Int)) := by
        have hc := HM2.out.at m (by have := HA.out; simp; omega)
        rw [hc]; congr 3
        rw [List.getElem_append_left (by have := HA.out; simp; omega), List.getElem_append_right (by have := HA.out; simp; omega)]
        simp
      have cx : wr.cell? ⟨g, h, none⟩ = some (.int .i64 (x : Int)) := by
        have hc := HM2.out.at h (by have := HA.out; simp; omega)
        rw [hc]; congr 3
        rw [List.getElem_append_left (by have := HA.out; simp; omega), List.getElem_append_left (by have := HA.out; simp; omega), List.getElem_append_right (by have := HA.out; omega)]
        rw [hx]; congr 1; have := HA.out; omega
      have hxm : x ∈ L := by rw [hx]; exact List.getElem_mem _
      have hxy : x < y := HP.out.ahead x hxm y (by simp)
      have HL := less_at wr bx I ns HM2.out.cmp HM2.out.hns y x (HP.out.mb y (by simp)) (HP.out.ma x hxm)
      have HY : Hid (x = L[h - a]) := hx
      clear hh hx hxm
      by_cases hk : key ns y < key ns x
      · have hd2 := cmv_lt hk
        have HLT : Hid (Lt ns y x) := (Lt.iff_of_gt hxy).2 hk
        generalize cmv (key ns y) (key ns x) = cz at HL hd2
        clear hk
        go_wp2_with fail
        go_quiet ((go_at_call 87; exact Calls.quiet_of (HL _)))
        go_wp2_with fail
        go_roundg (gk - 1)
        case measure => omega
        case rel =>
          refine ⟨i, h, by omega, by omega, by omega, by omega, rfl, rfl, ⟨HF.out.1, .inr ⟨hR, ?_⟩⟩, HM2.out.drewN _, HK2.out.drewN _⟩
          have := HLT.out; rw [HY.out] at this
          exact this
      · have hd2 := cmv_ge hk
        have HLT : Hid (Lt ns x y) := Lt.of_not hxy hk
        generalize cmv (key ns y) (key ns x) = cz at HL hd2
        clear hk
        go_wp2_with fail
        go_quiet ((go_at_call 87; exact Calls.quiet_of (HL _)))
        go_wp2_with fail
        go_roundg (gk - 1)
        case measure => omega
        case rel =>
          refine ⟨h + 1, j, by omega, by omega, by omega, by omega, by go_num, rfl, ⟨.inr ⟨by simpa [show h + 1 - 1 - a = h - a by omega] using hR, by omega, ?_⟩, HF.out.2⟩, HM2.out.drewN _, HK2.out.drewN _⟩
          have := HLT.out; rw [HY.out] at this
          simpa [show h + 1 - 1 - a = h - a by omega] using this
    · have hij2 : i = j := by omega
      subst hij2
      go_wp2_with fail
      go_loopg [17] (m - i) (fun q z wk => ∃ k : Nat, k - i ≤ q ∧ i ≤ k ∧ k ≤ m ∧ z = .int .i64 (k : Nat) ∧ Hid (Mem wk B g n cap bx I ns (P ++ L.take (k - a) ++ y :: L.drop (k - a) ++ S)) ∧ Hid (Kept (· = g) w wk))
      case atStart =>
        refine ⟨m, by omega, by omega, by omega, rfl, ?_, HK2.out⟩
        have h := HM2.out
        have e1 : L.take (m - a) = L := List.take_of_length_le (by have := HA.out; omega)
        have e2 : L.drop (m - a) = [] := List.drop_eq_nil_of_le (by have := HA.out; omega)
        exact hid (by rw [e1, e2]; simpa using h)
      case round =>
        obtain ⟨k, hq2, hak, hki, rfl, HM3, HK3⟩ := hrel
        clear HM2 HK2
        by_cases hlt2 : i < k
        · have hR : k - 1 - a < L.length := by have := HA.out; omega
          have hsub : ((k : Int) - 1) = ((k - 1 : Nat) : Int) := by omega
          obtain ⟨x, hx⟩ : ∃ x, x = L[k - 1 - a] := ⟨_, rfl⟩
          have hr0 : NRow B wr (.slice (some ⟨g, 0, none⟩) n cap) ((P ++ L.take (k - 1 - a)) ++ x :: [] ++ y :: (L.drop (k - a) ++ S)) := by
            have h := HM3.out.row
            rw [show k - a = (k - 1 - a) + 1 by omega, List.take_succ_eq_append_getElem hR, ← hx, ← show k - a = (k - 1 - a) + 1 by omega] at h
            simpa using h
          have e1 : k - 1 = (P ++ L.take (k - 1 - a)).length := by have := HA.out; simp; omega
          have e2 : k = (P ++ L.take (k - 1 - a)).length + 1 + ([] : List Nat).length := by have := HA.out; simp; omega
          obtain ⟨c1, c2, f1, f2, l1, l2, hne⟩ := swp_cells hr0 e1 e2
          have HR4 : Hid (NRow B ((wr.setCell ⟨g, k, none⟩ (natV x)).setCell ⟨g, k - 1, none⟩ (natV y)) (.slice (some ⟨g, 0, none⟩) n cap) (P ++ L.take (k - 1 - a) ++ y :: L.drop (k - 1 - a) ++ S)) := by
            have h := swp_lay2 hr0 e1 e2
            have h5 : NRow B ((wr.setCell ⟨g, k, none⟩ (natV x)).setCell ⟨g, k - 1, none⟩ (natV y)) (.slice (some ⟨g, 0, none⟩) n cap) (P ++ L.take (k - 1 - a) ++ y :: L.drop (k - 1 - a) ++ S) := by
              rw [List.drop_eq_getElem_cons hR, ← hx, ← show k - a = (k - 1 - a) + 1 by omega]
              simpa using h
            exact h5
          unfold natV at c1 c2
          clear hr0 e1 e2 hx
          go_wp2_with fail
          go_region
          all_goals
            go_wp2_with fail
            go_roundg (gk - 1)
            case measure => omega
            case rel =>
              have hk' : Kept (· = g) wr (((wr.setCell ⟨g, k, none⟩ (natV x)).setCell ⟨g, k - 1, none⟩ (natV y))) := ((Kept.refl (· = g) wr).setCell ⟨g, k, none⟩ _ (.inl rfl)).setCell ⟨g, k - 1, none⟩ _ (.inl rfl)
              exact ⟨k - 1, by omega, by omega, by omega, by congr 1, HM3.out.to HR4.out hk'.drew, ((HK3.out.setCell ⟨g, k, none⟩ _ (.inl rfl)).setCell ⟨g, k - 1, none⟩ _ (.inl rfl)).drew⟩
        · have e : k = i := by omega
          subst e
          go_wp2_with fail
          refine bodyPost_ret (results_none rfl _ _ _) rfl ?_
          refine ⟨⟨_, rfl⟩, L.take (k - a) ++ y :: L.drop (k - a), ?_⟩
          have hHA := HA.out
          have hF := HF.out
          have hsl := HP.out.sa
          have x1 : AllLt ns (L.take (k - a) ++ List.take 0 [y]) (L.drop (k - a) ++ List.drop 0 [y]) := by
            refine cross_of (k - a) 0 hsl HP.out.sb ?_ (.inl rfl)
            rcases hF.1 with h | ⟨h1, h2, h3⟩
            · left; omega
            · right; right; exact ⟨⟨by omega, by omega, by simp⟩, by simpa [show k - a - 1 = k - 1 - a by omega] using h3⟩
          have x2 : AllLt ns (L.take (k - a) ++ List.take 1 [y]) (L.drop (k - a) ++ List.drop 1 [y]) := by
            refine cross_of (k - a) 1 hsl HP.out.sb (.inr (.inl (by simp))) ?_
            rcases hF.2 with h | ⟨h1, h3⟩
            · right; left; omega
            · right; right; exact ⟨⟨by omega, by simp, by omega⟩, by simpa using h3⟩
          have st : Sorted ns (y :: L.drop (k - a)) := List.pairwise_cons.2 ⟨fun z hz => x2 y (by simp) z (by simpa using hz), by have h := hsl; rw [← List.take_append_drop (k - a) L] at h; exact Sorted.right h⟩
          have s1 : Sorted ns (L.take (k - a)) := by have h := hsl; rw [← List.take_append_drop (k - a) L] at h; exact Sorted.left h
          have hh := halves x1 (C1 := L.take (k - a)) (C2 := y :: L.drop (k - a)) (by simp) s1 (List.perm_append_comm (l₁ := [y])) st
          refine ⟨hh.1, hh.2, ?_, HK3.out⟩
          have h := HM3.out
          simpa using h

end Go.Proofs.YtofhlnpbflkdlaaDoor

/-
  symMergeCmpFunc, whatever the parts: by halves.
-/
namespace Go.Proofs.YtofhlnpbflkdlaaDoor
open Go.RowKit

theorem Parts.cut {ns A B A' B' : List Nat} (h : Parts ns A B) (hA : ∀ x ∈ A', x ∈ A) (hB : ∀ x ∈ B', x ∈ B) (sa : Sorted ns A') (sb : Sorted ns B') : Parts ns A' B' :=
  ⟨sa, sb, h.ahead.sub hA hB, fun x hx => h.ma x (hA x hx), fun x hx => h.mb x (hB x hx)⟩

theorem split4 (P L R S : List Nat) (i j : Nat) : P ++ L ++ R ++ S = P ++ L.take i ++ L.drop i ++ R.take j ++ (R.drop j ++ S) := by
  conv => lhs; rw [← List.take_append_drop i L, ← List.take_append_drop j R]
  simp only [List.append_assoc]

theorem same4 {P L R S : List Nat} {i j : Nat} (h : L.drop i = [] ∨ R.take j = []) : P ++ L.take i ++ R.take j ++ L.drop i ++ R.drop j ++ S = P ++ L ++ R ++ S := by
  rw [split4 P L R S i j]
  rcases h with h | h <;> simp only [h, List.append_nil, List.append_assoc]

set_option maxHeartbeats 4000000 in
set_option maxRecDepth 100000 in
theorem sym_step (k B g n cap bx : Nat) (I : Nat → Prop) (ns : List Nat)
    (ih : ∀ k', k' < k → ∀ (w : World) (a m b : Nat) (P L R S : List Nat), b - a ≤ k' → Mem w B g n cap bx I ns (P ++ L ++ R ++ S) → Parts ns L R → a = P.length → m = P.length + L.length → b = P.length + L.length + R.length → 0 < L.length → 0 < R.length →
      Calls Tryd.prog 99 #[.slice (some ⟨g, 0, none⟩) n cap, .int .i64 (a : Nat), .int .i64 (m : Nat), .int .i64 (b : Nat), cmpV bx] w fun e w' => (∃ v, e = .returned v) ∧ Merged w w' B g n cap bx I ns P L R S)
    (w : World) (a m b : Nat) (P L R S : List Nat) (hk : b - a ≤ k) (hM : Mem w B g n cap bx I ns (P ++ L ++ R ++ S)) (hP : Parts ns L R) (ha : a = P.length) (hm : m = P.length + L.length) (hb : b = P.length + L.length + R.length) (hL : 1 < L.length) (hR : 1 < R.length) :
    Calls Tryd.prog 99 #[.slice (some ⟨g, 0, none⟩) n cap, .int .i64 (a : Nat), .int .i64 (m : Nat), .int .i64 (b : Nat), cmpV bx] w fun e w' => (∃ v, e = .returned v) ∧ Merged w w' B g n cap bx I ns P L R S := by
  have hlen := hM.row.len
  simp at hlen
  have hn := hM.hn
  have IH : Hid (∀ k', k' < k → ∀ (w : World) (a m b : Nat) (P L R S : List Nat), b - a ≤ k' → Mem w B g n cap bx I ns (P ++ L ++ R ++ S) → Parts ns L R → a = P.length → m = P.length + L.length → b = P.length + L.length + R.length → 0 < L.length → 0 < R.length →
      Calls Tryd.prog 99 #[.slice (some ⟨g, 0, none⟩) n cap, .int .i64 (a : Nat), .int .i64 (m : Nat), .int .i64 (b : Nat), cmpV bx] w fun e w' => (∃ v, e = .returned v) ∧ Merged w w' B g n cap bx I ns P L R S) := ih
  have HM : Hid (Mem w B g n cap bx I ns (P ++ L ++ R ++ S)) := hM
  have HP : Hid (Parts ns L R) := hP
  have HA : Hid (a = P.length ∧ m = P.length + L.length ∧ b = P.length + L.length + R.length ∧ P.length + L.length + R.length + S.length = n) := by exact ⟨ha, hm, hb, by omega⟩
  have hd0 : ((m : Int) - (a : Int) == 1) = false := by simp; omega
  have hd1 : ((b : Int) - (m : Int) == 1) = false := by simp; omega
  have hab : a + 1 < m ∧ m + 1 < b ∧ b ≤ n := by omega
  obtain ⟨mid, hmid⟩ : ∃ mid, mid = (a + b) / 2 := ⟨_, rfl⟩
  obtain ⟨N, hN⟩ : ∃ N, N = mid + m := ⟨_, rfl⟩
  have hmidI : ((a : Int) + (b : Int)) / 2 = (mid : Int) := by omega
  have hNI : ((mid : Int) + (m : Int)) = (N : Int) := by omega
  have hmm : 2 * mid ≤ a + b ∧ a + b ≤ 2 * mid + 1 := by omega
  have hNm : N ≤ mid + m ∧ mid + m ≤ N := by omega
  clear hlen hM hP ha hm hb ih hL hR hmid hN
  go_enter Tryd.func99, Tryd.ntmps99
  by_cases hgt : mid < m
  · have hs0 : ((N : Int) - (b : Int)) = ((N - b : Nat) : Int) := by omega
    have H0 : Hid (mid < m) := hgt
    go_wp2_with fail
    go_loopg [20, 21] (b - a) (fun q zi zj wr => ∃ (s r : Nat), r - s ≤ q ∧ N - b ≤ s ∧ s ≤ r ∧ r ≤ mid ∧ zi = .int .i64 (s : Nat) ∧ zj = .int .i64 (r : Nat) ∧ Hid ((s = N - b ∨ ∃ (h1 : s - 1 - a < L.length) (h2 : N - s - m < R.length), a < s ∧ Lt ns L[s - 1 - a] R[N - s - m]) ∧ (r = mid ∨ ∃ (h1 : N - 1 - r - m < R.length) (h2 : r - a < L.length), Lt ns R[N - 1 - r - m] L[r - a])) ∧ Hid (Mem wr B g n cap bx I ns (P ++ L ++ R ++ S)) ∧ Hid (Kept (· = g) w wr))
    case atStart => exact ⟨N - b, mid, by omega, by omega, by omega, by omega, rfl, rfl, ⟨.inl rfl, .inl rfl⟩, HM.out, Kept.refl _ w⟩
    case round =>
      obtain ⟨s, r, hq, hs0, hsr, hr0, rfl, rfl, HF, HM2, HK2⟩ := hrel
      clear HM
      by_cases hlt : s < r
      · obtain ⟨c, hc⟩ : ∃ c, c = (s + r) / 2 := ⟨_, rfl⟩
        have hcr : s ≤ c ∧ c < r := by omega
        have hmid2 : ((s : Int) + (r : Int)) / 2 = (c : Int) := by omega
        have hp : ((N : Int) - 1 - (c : Int)) = ((N - 1 - c : Nat) : Int) := by omega
        have hpn : N - 1 - c < n ∧ c < n := by omega
        have iL : c - a < L.length := by have := HA.out; omega
        have iR : N - 1 - c - m < R.length := by have := HA.out; omega
        obtain ⟨x, hx⟩ : ∃ x, x = L[c - a] := ⟨_, rfl⟩
        obtain ⟨y, hy⟩ : ∃ y, y = R[N - 1 - c - m] := ⟨_, rfl⟩
        have cx : wr.cell? ⟨g, c, none⟩ = some (.int .i64 (x : Int)) := by
          have hc := HM2.out.at c (by have := HA.out; simp; omega)
          rw [hc]; congr 3
          rw [List.getElem_append_left (by have := HA.out; simp; omega), List.getElem_append_left (by have := HA.out; simp; omega), List.getElem_append_right (by have := HA.out; omega)]
          rw [hx]; congr 1; have := HA.out; omega
        have cy : wr.cell? ⟨g, N - 1 - c, none⟩ = some (.int .i64 (y : Int)) := by
          have hc := HM2.out.at (N - 1 - c) (by have := HA.out; simp; omega)
          rw [hc]; congr 3
          rw [List.getElem_append_left (by have := HA.out; simp; omega), List.getElem_append_right (by have := HA.out; simp; omega)]
          rw [hy]; congr 1; have := HA.out; simp; omega
        have hxm : x ∈ L := by rw [hx]; exact List.getElem_mem _
        have hym : y ∈ R := by rw [hy]; exact List.getElem_mem _
        have hxy : x < y := HP.out.ahead x hxm y hym
        have HL := less_at wr bx I ns HM2.out.cmp HM2.out.hns y x (HP.out.mb y hym) (HP.out.ma x hxm)
        have HX : Hid (x = L[c - a]) := hx
        have HY : Hid (y = R[N - 1 - c - m]) := hy
        clear hc hx hy hxm hym IH
        by_cases hk : key ns y < key ns x
        · have hd2 := cmv_lt hk
          have HLT : Hid (Lt ns y x) := (Lt.iff_of_gt hxy).2 hk
          generalize cmv (key ns y) (key ns x) = cz at HL hd2
          clear hk
          go_wp2_with fail
          go_quiet ((go_at_call 87; exact Calls.quiet_of (HL _)))
          go_wp2_with fail
          go_roundg (gk - 1)
          case measure => omega
          case rel =>
            refine ⟨s, c, by omega, by omega, by omega, by omega, rfl, rfl, ⟨HF.out.1, .inr ⟨iR, iL, ?_⟩⟩, HM2.out.drewN _, HK2.out.drewN _⟩
            have h := HLT.out; rw [HX.out, HY.out] at h
            exact h
        · have hd2 := cmv_ge hk
          have HLT : Hid (Lt ns x y) := Lt.of_not hxy hk
          generalize cmv (key ns y) (key ns x) = cz at HL hd2
          clear hk
          go_wp2_with fail
          go_quiet ((go_at_call 87; exact Calls.quiet_of (HL _)))
          go_wp2_with fail
          go_roundg (gk - 1)
          case measure => omega
          case rel =>
            refine ⟨c + 1, r, by omega, by omega, by omega, by omega, by go_num, rfl, ⟨.inr ⟨by simpa using iL, by simpa [show N - (c + 1) - m = N - 1 - c - m by omega] using iR, by omega, ?_⟩, HF.out.2⟩, HM2.out.drewN _, HK2.out.drewN _⟩
            have h := HLT.out; rw [HX.out, HY.out] at h
            simpa [show N - (c + 1) - m = N - 1 - c - m by omega] using h
      · have hsr2 : s = r := by omega
        subst hsr2
        have CR : Hid (AllLt ns (L.take (s - a) ++ R.take (N - s - m)) (L.drop (s - a) ++ R.drop (N - s - m))) := by
          refine cross_of (s - a) (N - s - m) HP.out.sa HP.out.sb ?_ ?_
          · rcases HF.out.1 with h | ⟨h1, h2, h3, h4⟩
            · right; left; have := HA.out; omega
            · right; right; exact ⟨⟨by omega, by omega, h2⟩, by simpa [show s - a - 1 = s - 1 - a by omega] using h4⟩
          · rcases HF.out.2 with h | ⟨h1, h2, h3⟩
            · left; omega
            · by_cases h5 : N - s - m = 0
              · left; exact h5
              · right; right; exact ⟨⟨by omega, by have := HA.out; omega, h2⟩, by simpa [show N - s - m - 1 = N - 1 - s - m by omega] using h3⟩
        have hend : ((N : Int) - (s : Int)) = ((N - s : Nat) : Int) := by omega
        have PA : Hid (Parts ns (L.take (s - a)) (R.take (N - s - m))) := hid (HP.out.cut (fun x h => List.mem_of_mem_take h) (fun x h => List.mem_of_mem_take h) (List.Pairwise.sublist (List.take_sublist _ _) HP.out.sa) (List.Pairwise.sublist (List.take_sublist _ _) HP.out.sb))
        have PB : Hid (Parts ns (L.drop (s - a)) (R.drop (N - s - m))) := hid (HP.out.cut (fun x h => List.mem_of_mem_drop h) (fun x h => List.mem_of_mem_drop h) (List.Pairwise.sublist (List.drop_sublist _ _) HP.out.sa) (List.Pairwise.sublist (List.drop_sublist _ _) HP.out.sb))
        by_cases hβ : s < mid
        · by_cases hγ : s < m
          · have HROT := rotate_any wr B g n cap s m (N - s) (cmpV bx) (P ++ L.take (s - a)) (L.drop (s - a)) (R.take (N - s - m)) (R.drop (N - s - m) ++ S) (by have := HA.out; simp; omega) (by have := HA.out; simp; omega) (by have h := HM2.out.row; rw [split4 P L R S (s - a) (N - s - m)] at h; exact h) (by have := HA.out; simp; omega) (by have := HA.out; simp; omega) (by have := HA.out; simp; omega) hn
            by_cases hα : a < s
            · by_cases hδ : N - s < b
              · go_wp2_with fail
                all_goals
                  refine HROT.mono ?_
                  rintro e wq ⟨⟨vq, rfl⟩, hrq, hkq⟩
                  have HMq : Hid (Mem wq B g n cap bx I ns (P ++ L.take (s - a) ++ R.take (N - s - m) ++ L.drop (s - a) ++ R.drop (N - s - m) ++ S)) := hid ((HM2.out.to (d' := P ++ L.take (s - a) ++ R.take (N - s - m) ++ L.drop (s - a) ++ R.drop (N - s - m) ++ S) (by simpa only [List.append_assoc] using hrq) hkq))
                  have HKq : Hid (Kept (· = g) w wq) := HK2.out.trans hkq (fun _ _ h => h) (fun _ _ h => h)
                  clear hrq hkq HROT
                  have HC1 := IH.out (mid - a) (by omega) wq a s mid P (L.take (s - a)) (R.take (N - s - m)) (L.drop (s - a) ++ R.drop (N - s - m) ++ S) (by omega) (by simpa only [List.append_assoc] using HMq.out) PA.out (by have := HA.out; omega) (by have := HA.out; simp; omega) (by have := HA.out; simp; omega) (by have := HA.out; simp; omega) (by have := HA.out; simp; omega)
                  go_wp2_with fail
                  refine HC1.mono ?_
                  rintro e wp ⟨⟨vp, rfl⟩, C1, p1, s1, hm1, hk1⟩
                  have HMp : Hid (Mem wp B g n cap bx I ns (P ++ C1 ++ (L.drop (s - a) ++ R.drop (N - s - m) ++ S))) := hm1
                  have HKp : Hid (Kept (· = g) w wp) := HKq.out.trans hk1 (fun _ _ h => h) (fun _ _ h => h)
                  have HS1 : Hid (C1.Perm (L.take (s - a) ++ R.take (N - s - m)) ∧ Sorted ns C1) := ⟨p1, s1⟩
                  clear hm1 hk1 p1 s1 HC1
                  have HC2 := IH.out (b - mid) (by omega) wp mid (N - s) b (P ++ C1) (L.drop (s - a)) (R.drop (N - s - m)) S (by omega) (by simpa only [List.append_assoc] using HMp.out) PB.out (by have := HA.out; have := HS1.out.1.length_eq; simp at this ⊢; omega) (by have := HA.out; have := HS1.out.1.length_eq; simp at this ⊢; omega) (by have := HA.out; have := HS1.out.1.length_eq; simp at this ⊢; omega) (by have := HA.out; simp; omega) (by have := HA.out; simp; omega)
                  go_wp2_with fail
                  refine HC2.mono ?_
                  rintro e wz ⟨⟨vz, rfl⟩, C2, p2, s2, hm2, hk2⟩
                  have HMz : Hid (Mem wz B g n cap bx I ns (P ++ C1 ++ C2 ++ S)) := hm2
                  have HKz : Hid (Kept (· = g) w wz) := HKp.out.trans hk2 (fun _ _ h => h) (fun _ _ h => h)
                  have HS2 : Hid (C2.Perm (L.drop (s - a) ++ R.drop (N - s - m)) ∧ Sorted ns C2) := ⟨p2, s2⟩
                  clear hm2 hk2 p2 s2 HC2
                  go_wp2_with fail
                  go_end0
                  have hh := halves CR.out HS1.out.1 HS1.out.2 HS2.out.1 HS2.out.2
                  exact ⟨⟨_, rfl⟩, C1 ++ C2, hh.1, hh.2, by simpa only [List.append_assoc] using HMz.out, HKz.out⟩
              · have S2 : Hid (Sorted ns (L.drop (s - a) ++ R.drop (N - s - m))) := hid (by rw [List.drop_eq_nil_of_le (show R.length ≤ N - s - m by have := HA.out; omega), List.append_nil]; exact PB.out.sa)
                go_wp2_with fail
                all_goals
                  refine HROT.mono ?_
                  rintro e wq ⟨⟨vq, rfl⟩, hrq, hkq⟩
                  have HMq : Hid (Mem wq B g n cap bx I ns (P ++ L.take (s - a) ++ R.take (N - s - m) ++ L.drop (s - a) ++ R.drop (N - s - m) ++ S)) := hid ((HM2.out.to (d' := P ++ L.take (s - a) ++ R.take (N - s - m) ++ L.drop (s - a) ++ R.drop (N - s - m) ++ S) (by simpa only [List.append_assoc] using hrq) hkq))
                  have HKq : Hid (Kept (· = g) w wq) := HK2.out.trans hkq (fun _ _ h => h) (fun _ _ h => h)
                  clear hrq hkq HROT
                  have HC1 := IH.out (mid - a) (by omega) wq a s mid P (L.take (s - a)) (R.take (N - s - m)) (L.drop (s - a) ++ R.drop (N - s - m) ++ S) (by omega) (by simpa only [List.append_assoc] using HMq.out) PA.out (by have := HA.out; omega) (by have := HA.out; simp; omega) (by have := HA.out; simp; omega) (by have := HA.out; simp; omega) (by have := HA.out; simp; omega)
                  go_wp2_with fail
                  refine HC1.mono ?_
                  rintro e wp ⟨⟨vp, rfl⟩, C1, p1, s1, hm1, hk1⟩
                  have HMp : Hid (Mem wp B g n cap bx I ns (P ++ C1 ++ (L.drop (s - a) ++ R.drop (N - s - m) ++ S))) := hm1
                  have HKp : Hid (Kept (· = g) w wp) := HKq.out.trans hk1 (fun _ _ h => h) (fun _ _ h => h)
                  have HS1 : Hid (C1.Perm (L.take (s - a) ++ R.take (N - s - m)) ∧ Sorted ns C1) := ⟨p1, s1⟩
                  clear hm1 hk1 p1 s1 HC1
                  obtain ⟨C2, HS2, HMz⟩ : ∃ C2, Hid (C2.Perm (L.drop (s - a) ++ R.drop (N - s - m)) ∧ Sorted ns C2) ∧ Hid (Mem wp B g n cap bx I ns (P ++ C1 ++ C2 ++ S)) := ⟨_, ⟨List.Perm.refl _, S2.out⟩, hid (by have h := HMp.out; simpa only [List.append_assoc] using h)⟩
                  have HKz := HKp
                  go_wp2_with fail
                  go_end0
                  have hh := halves CR.out HS1.out.1 HS1.out.2 HS2.out.1 HS2.out.2
                  exact ⟨⟨_, rfl⟩, C1 ++ C2, hh.1, hh.2, by simpa only [List.append_assoc] using HMz.out, HKz.out⟩
            · have S1 : Hid (Sorted ns (L.take (s - a) ++ R.take (N - s - m))) := hid (by rw [show s - a = 0 by omega, List.take_zero, List.nil_append]; exact PA.out.sb)
              by_cases hδ : N - s < b
              · go_wp2_with fail
                all_goals
                  refine HROT.mono ?_
                  rintro e wq ⟨⟨vq, rfl⟩, hrq, hkq⟩
                  have HMq : Hid (Mem wq B g n cap bx I ns (P ++ L.take (s - a) ++ R.take (N - s - m) ++ L.drop (s - a) ++ R.drop (N - s - m) ++ S)) := hid ((HM2.out.to (d' := P ++ L.take (s - a) ++ R.take (N - s - m) ++ L.drop (s - a) ++ R.drop (N - s - m) ++ S) (by simpa only [List.append_assoc] using hrq) hkq))
                  have HKq : Hid (Kept (· = g) w wq) := HK2.out.trans hkq (fun _ _ h => h) (fun _ _ h => h)
                  clear hrq hkq HROT
                  obtain ⟨C1, HS1, HMp⟩ : ∃ C1, Hid (C1.Perm (L.take (s - a) ++ R.take (N - s - m)) ∧ Sorted ns C1) ∧ Hid (Mem wq B g n cap bx I ns (P ++ C1 ++ (L.drop (s - a) ++ R.drop (N - s - m) ++ S))) := ⟨_, ⟨List.Perm.refl _, S1.out⟩, hid (by have h := HMq.out; simpa only [List.append_assoc] using h)⟩
                  have HKp := HKq
                  have HC2 := IH.out (b - mid) (by omega) wq mid (N - s) b (P ++ C1) (L.drop (s - a)) (R.drop (N - s - m)) S (by omega) (by simpa only [List.append_assoc] using HMp.out) PB.out (by have := HA.out; have := HS1.out.1.length_eq; simp at this ⊢; omega) (by have := HA.out; have := HS1.out.1.length_eq; simp at this ⊢; omega) (by have := HA.out; have := HS1.out.1.length_eq; simp at this ⊢; omega) (by have := HA.out; simp; omega) (by have := HA.out; simp; omega)
                  go_wp2_with fail
                  refine HC2.mono ?_
                  rintro e wz ⟨⟨vz, rfl⟩, C2, p2, s2, hm2, hk2⟩
                  have HMz : Hid (Mem wz B g n cap bx I ns (P ++ C1 ++ C2 ++ S)) := hm2
                  have HKz : Hid (Kept (· = g) w wz) := HKp.out.trans hk2 (fun _ _ h => h) (fun _ _ h => h)
                  have HS2 : Hid (C2.Perm (L.drop (s - a) ++ R.drop (N - s - m)) ∧ Sorted ns C2) := ⟨p2, s2⟩
                  clear hm2 hk2 p2 s2 HC2
                  go_wp2_with fail
                  go_end0
                  have hh := halves CR.out HS1.out.1 HS1.out.2 HS2.out.1 HS2.out.2
                  exact ⟨⟨_, rfl⟩, C1 ++ C2, hh.1, hh.2, by simpa only [List.append_assoc] using HMz.out, HKz.out⟩
              · have S2 : Hid (Sorted ns (L.drop (s - a) ++ R.drop (N - s - m))) := hid (by rw [List.drop_eq_nil_of_le (show R.length ≤ N - s - m by have := HA.out; omega), List.append_nil]; exact PB.out.sa)
                go_wp2_with fail
                all_goals
                  refine HROT.mono ?_
                  rintro e wq ⟨⟨vq, rfl⟩, hrq, hkq⟩
                  have HMq : Hid (Mem wq B g n cap bx I ns (P ++ L.take (s - a) ++ R.take (N - s - m) ++ L.drop (s - a) ++ R.drop (N - s - m) ++ S)) := hid ((HM2.out.to (d' := P ++ L.take (s - a) ++ R.take (N - s - m) ++ L.drop (s - a) ++ R.drop (N - s - m) ++ S) (by simpa only [List.append_assoc] using hrq) hkq))
                  have HKq : Hid (Kept (· = g) w wq) := HK2.out.trans hkq (fun _ _ h => h) (fun _ _ h => h)
                  clear hrq hkq HROT
                  obtain ⟨C1, HS1, HMp⟩ : ∃ C1, Hid (C1.Perm (L.take (s - a) ++ R.take (N - s - m)) ∧ Sorted ns C1) ∧ Hid (Mem wq B g n cap bx I ns (P ++ C1 ++ (L.drop (s - a) ++ R.drop (N - s - m) ++ S))) := ⟨_, ⟨List.Perm.refl _, S1.out⟩, hid (by have h := HMq.out; simpa only [List.append_assoc] using h)⟩
                  have HKp := HKq
                  obtain ⟨C2, HS2, HMz⟩ : ∃ C2, Hid (C2.Perm (L.drop (s - a) ++ R.drop (N - s - m)) ∧ Sorted ns C2) ∧ Hid (Mem wq B g n cap bx I ns (P ++ C1 ++ C2 ++ S)) := ⟨_, ⟨List.Perm.refl _, S2.out⟩, hid (by have h := HMp.out; simpa only [List.append_assoc] using h)⟩
                  have HKz := HKp
                  go_wp2_with fail
                  go_end0
                  have hh := halves CR.out HS1.out.1 HS1.out.2 HS2.out.1 HS2.out.2
                  exact ⟨⟨_, rfl⟩, C1 ++ C2, hh.1, hh.2, by simpa only [List.append_assoc] using HMz.out, HKz.out⟩
          · have eL : L.drop (s - a) = [] := List.drop_eq_nil_of_le (by have := HA.out; omega)
            have HSAME : Hid (P ++ L.take (s - a) ++ R.take (N - s - m) ++ L.drop (s - a) ++ R.drop (N - s - m) ++ S = P ++ L ++ R ++ S) := hid (same4 (.inl eL))
            have S2 : Hid (Sorted ns (L.drop (s - a) ++ R.drop (N - s - m))) := hid (by rw [eL, List.nil_append]; exact PB.out.sb)
            clear eL
            have hg3 : ¬ mid < N - s := by omega
            by_cases hα : a < s
            · have HMq : Hid (Mem wr B g n cap bx I ns (P ++ L.take (s - a) ++ R.take (N - s - m) ++ L.drop (s - a) ++ R.drop (N - s - m) ++ S)) := hid (by have h := HM2.out; rw [← HSAME.out] at h; exact h)
              have HKq : Hid (Kept (· = g) w wr) := HK2.out
              have HC1 := IH.out (mid - a) (by omega) wr a s mid P (L.take (s - a)) (R.take (N - s - m)) (L.drop (s - a) ++ R.drop (N - s - m) ++ S) (by omega) (by simpa only [List.append_assoc] using HMq.out) PA.out (by have := HA.out; omega) (by have := HA.out; simp; omega) (by have := HA.out; simp; omega) (by have := HA.out; simp; omega) (by have := HA.out; simp; omega)
              go_wp2_with fail
              all_goals
                refine HC1.mono ?_
                rintro e wp ⟨⟨vp, rfl⟩, C1, p1, s1, hm1, hk1⟩
                have HMp : Hid (Mem wp B g n cap bx I ns (P ++ C1 ++ (L.drop (s - a) ++ R.drop (N - s - m) ++ S))) := hm1
                have HKp : Hid (Kept (· = g) w wp) := HKq.out.trans hk1 (fun _ _ h => h) (fun _ _ h => h)
                have HS1 : Hid (C1.Perm (L.take (s - a) ++ R.take (N - s - m)) ∧ Sorted ns C1) := ⟨p1, s1⟩
                clear hm1 hk1 p1 s1 HC1
                obtain ⟨C2, HS2, HMz⟩ : ∃ C2, Hid (C2.Perm (L.drop (s - a) ++ R.drop (N - s - m)) ∧ Sorted ns C2) ∧ Hid (Mem wp B g n cap bx I ns (P ++ C1 ++ C2 ++ S)) := ⟨_, ⟨List.Perm.refl _, S2.out⟩, hid (by have h := HMp.out; simpa only [List.append_assoc] using h)⟩
                have HKz := HKp
                go_wp2_with fail
                go_end0
                have hh := halves CR.out HS1.out.1 HS1.out.2 HS2.out.1 HS2.out.2
                exact ⟨⟨_, rfl⟩, C1 ++ C2, hh.1, hh.2, by simpa only [List.append_assoc] using HMz.out, HKz.out⟩
            · have S1 : Hid (Sorted ns (L.take (s - a) ++ R.take (N - s - m))) := hid (by rw [show s - a = 0 by omega, List.take_zero, List.nil_append]; exact PA.out.sb)
              have HMq : Hid (Mem wr B g n cap bx I ns (P ++ L.take (s - a) ++ R.take (N - s - m) ++ L.drop (s - a) ++ R.drop (N - s - m) ++ S)) := hid (by have h := HM2.out; rw [← HSAME.out] at h; exact h)
              have HKq : Hid (Kept (· = g) w wr) := HK2.out
              obtain ⟨C1, HS1, HMp⟩ : ∃ C1, Hid (C1.Perm (L.take (s - a) ++ R.take (N - s - m)) ∧ Sorted ns C1) ∧ Hid (Mem wr B g n cap bx I ns (P ++ C1 ++ (L.drop (s - a) ++ R.drop (N - s - m) ++ S))) := ⟨_, ⟨List.Perm.refl _, S1.out⟩, hid (by have h := HMq.out; simpa only [List.append_assoc] using h)⟩
              have HKp := HKq
              obtain ⟨C2, HS2, HMz⟩ : ∃ C2, Hid (C2.Perm (L.drop (s - a) ++ R.drop (N - s - m)) ∧ Sorted ns C2) ∧ Hid (Mem wr B g n cap bx I ns (P ++ C1 ++ C2 ++ S)) := ⟨_, ⟨List.Perm.refl _, S2.out⟩, hid (by have h := HMp.out; simpa only [List.append_assoc] using h)⟩
              have HKz := HKp
              go_wp2_with fail
              all_goals
                go_end0
                have hh := halves CR.out HS1.out.1 HS1.out.2 HS2.out.1 HS2.out.2
                exact ⟨⟨_, rfl⟩, C1 ++ C2, hh.1, hh.2, by simpa only [List.append_assoc] using HMz.out, HKz.out⟩
        · have eR : R.take (N - s - m) = [] := by rw [show N - s - m = 0 by omega]; rfl
          have HSAME : Hid (P ++ L.take (s - a) ++ R.take (N - s - m) ++ L.drop (s - a) ++ R.drop (N - s - m) ++ S = P ++ L ++ R ++ S) := hid (same4 (.inr eR))
          have S1 : Hid (Sorted ns (L.take (s - a) ++ R.take (N - s - m))) := hid (by rw [eR, List.append_nil]; exact PA.out.sa)
          clear eR
          have hg1 : ¬ m < N - s := by omega
          by_cases h3 : s < m
          · by_cases hδ : N - s < b
            · by_cases hα : a < s
              · have HMq : Hid (Mem wr B g n cap bx I ns (P ++ L.take (s - a) ++ R.take (N - s - m) ++ L.drop (s - a) ++ R.drop (N - s - m) ++ S)) := hid (by have h := HM2.out; rw [← HSAME.out] at h; exact h)
                have HKq : Hid (Kept (· = g) w wr) := HK2.out
                obtain ⟨C1, HS1, HMp⟩ : ∃ C1, Hid (C1.Perm (L.take (s - a) ++ R.take (N - s - m)) ∧ Sorted ns C1) ∧ Hid (Mem wr B g n cap bx I ns (P ++ C1 ++ (L.drop (s - a) ++ R.drop (N - s - m) ++ S))) := ⟨_, ⟨List.Perm.refl _, S1.out⟩, hid (by have h := HMq.out; simpa only [List.append_assoc] using h)⟩
                have HKp := HKq
                have HC2 := IH.out (b - mid) (by omega) wr mid (N - s) b (P ++ C1) (L.drop (s - a)) (R.drop (N - s - m)) S (by omega) (by simpa only [List.append_assoc] using HMp.out) PB.out (by have := HA.out; have := HS1.out.1.length_eq; simp at this ⊢; omega) (by have := HA.out; have := HS1.out.1.length_eq; simp at this ⊢; omega) (by have := HA.out; have := HS1.out.1.length_eq; simp at this ⊢; omega) (by have := HA.out; simp; omega) (by have := HA.out; simp; omega)
                go_wp2_with fail
                all_goals
                  refine HC2.mono ?_
                  rintro e wz ⟨⟨vz, rfl⟩, C2, p2, s2, hm2, hk2⟩
                  have HMz : Hid (Mem wz B g n cap bx I ns (P ++ C1 ++ C2 ++ S)) := hm2
                  have HKz : Hid (Kept (· = g) w wz) := HKp.out.trans hk2 (fun _ _ h => h) (fun _ _ h => h)
                  have HS2 : Hid (C2.Perm (L.drop (s - a) ++ R.drop (N - s - m)) ∧ Sorted ns C2) := ⟨p2, s2⟩
                  clear hm2 hk2 p2 s2 HC2
                  go_wp2_with fail
                  go_end0
                  have hh := halves CR.out HS1.out.1 HS1.out.2 HS2.out.1 HS2.out.2
                  exact ⟨⟨_, rfl⟩, C1 ++ C2, hh.1, hh.2, by simpa only [List.append_assoc] using HMz.out, HKz.out⟩
              · have HMq : Hid (Mem wr B g n cap bx I ns (P ++ L.take (s - a) ++ R.take (N - s - m) ++ L.drop (s - a) ++ R.drop (N - s - m) ++ S)) := hid (by have h := HM2.out; rw [← HSAME.out] at h; exact h)
                have HKq : Hid (Kept (· = g) w wr) := HK2.out
                obtain ⟨C1, HS1, HMp⟩ : ∃ C1, Hid (C1.Perm (L.take (s - a) ++ R.take (N - s - m)) ∧ Sorted ns C1) ∧ Hid (Mem wr B g n cap bx I ns (P ++ C1 ++ (L.drop (s - a) ++ R.drop (N - s - m) ++ S))) := ⟨_, ⟨List.Perm.refl _, S1.out⟩, hid (by have h := HMq.out; simpa only [List.append_assoc] using h)⟩
                have HKp := HKq
                have HC2 := IH.out (b - mid) (by omega) wr mid (N - s) b (P ++ C1) (L.drop (s - a)) (R.drop (N - s - m)) S (by omega) (by simpa only [List.append_assoc] using HMp.out) PB.out (by have := HA.out; have := HS1.out.1.length_eq; simp at this ⊢; omega) (by have := HA.out; have := HS1.out.1.length_eq; simp at this ⊢; omega) (by have := HA.out; have := HS1.out.1.length_eq; simp at this ⊢; omega) (by have := HA.out; simp; omega) (by have := HA.out; simp; omega)
                go_wp2_with fail
                all_goals
                  refine HC2.mono ?_
                  rintro e wz ⟨⟨vz, rfl⟩, C2, p2, s2, hm2, hk2⟩
                  have HMz : Hid (Mem wz B g n cap bx I ns (P ++ C1 ++ C2 ++ S)) := hm2
                  have HKz : Hid (Kept (· = g) w wz) := HKp.out.trans hk2 (fun _ _ h => h) (fun _ _ h => h)
                  have HS2 : Hid (C2.Perm (L.drop (s - a) ++ R.drop (N - s - m)) ∧ Sorted ns C2) := ⟨p2, s2⟩
                  clear hm2 hk2 p2 s2 HC2
                  go_wp2_with fail
                  go_end0
                  have hh := halves CR.out HS1.out.1 HS1.out.2 HS2.out.1 HS2.out.2
                  exact ⟨⟨_, rfl⟩, C1 ++ C2, hh.1, hh.2, by simpa only [List.append_assoc] using HMz.out, HKz.out⟩
            · have S2 : Hid (Sorted ns (L.drop (s - a) ++ R.drop (N - s - m))) := hid (by rw [List.drop_eq_nil_of_le (show R.length ≤ N - s - m by have := HA.out; omega), List.append_nil]; exact PB.out.sa)
              by_cases hα : a < s
              · have HMq : Hid (Mem wr B g n cap bx I ns (P ++ L.take (s - a) ++ R.take (N - s - m) ++ L.drop (s - a) ++ R.drop (N - s - m) ++ S)) := hid (by have h := HM2.out; rw [← HSAME.out] at h; exact h)
                have HKq : Hid (Kept (· = g) w wr) := HK2.out
                obtain ⟨C1, HS1, HMp⟩ : ∃ C1, Hid (C1.Perm (L.take (s - a) ++ R.take (N - s - m)) ∧ Sorted ns C1) ∧ Hid (Mem wr B g n cap bx I ns (P ++ C1 ++ (L.drop (s - a) ++ R.drop (N - s - m) ++ S))) := ⟨_, ⟨List.Perm.refl _, S1.out⟩, hid (by have h := HMq.out; simpa only [List.append_assoc] using h)⟩
                have HKp := HKq
                obtain ⟨C2, HS2, HMz⟩ : ∃ C2, Hid (C2.Perm (L.drop (s - a) ++ R.drop (N - s - m)) ∧ Sorted ns C2) ∧ Hid (Mem wr B g n cap bx I ns (P ++ C1 ++ C2 ++ S)) := ⟨_, ⟨List.Perm.refl _, S2.out⟩, hid (by have h := HMp.out; simpa only [List.append_assoc] using h)⟩
                have HKz := HKp
                go_wp2_with fail
                all_goals
                  go_end0
                  have hh := halves CR.out HS1.out.1 HS1.out.2 HS2.out.1 HS2.out.2
                  exact ⟨⟨_, rfl⟩, C1 ++ C2, hh.1, hh.2, by simpa only [List.append_assoc] using HMz.out, HKz.out⟩
              · have HMq : Hid (Mem wr B g n cap bx I ns (P ++ L.take (s - a) ++ R.take (N - s - m) ++ L.drop (s - a) ++ R.drop (N - s - m) ++ S)) := hid (by have h := HM2.out; rw [← HSAME.out] at h; exact h)
                have HKq : Hid (Kept (· = g) w wr) := HK2.out
                obtain ⟨C1, HS1, HMp⟩ : ∃ C1, Hid (C1.Perm (L.take (s - a) ++ R.take (N - s - m)) ∧ Sorted ns C1) ∧ Hid (Mem wr B g n cap bx I ns (P ++ C1 ++ (L.drop (s - a) ++ R.drop (N - s - m) ++ S))) := ⟨_, ⟨List.Perm.refl _, S1.out⟩, hid (by have h := HMq.out; simpa only [List.append_assoc] using h)⟩
                have HKp := HKq
                obtain ⟨C2, HS2, HMz⟩ : ∃ C2, Hid (C2.Perm (L.drop (s - a) ++ R.drop (N - s - m)) ∧ Sorted ns C2) ∧ Hid (Mem wr B g n cap bx I ns (P ++ C1 ++ C2 ++ S)) := ⟨_, ⟨List.Perm.refl _, S2.out⟩, hid (by have h := HMp.out; simpa only [List.append_assoc] using h)⟩
                have HKz := HKp
                go_wp2_with fail
                all_goals
                  go_end0
                  have hh := halves CR.out HS1.out.1 HS1.out.2 HS2.out.1 HS2.out.2
                  exact ⟨⟨_, rfl⟩, C1 ++ C2, hh.1, hh.2, by simpa only [List.append_assoc] using HMz.out, HKz.out⟩
          · have S2 : Hid (Sorted ns (L.drop (s - a) ++ R.drop (N - s - m))) := hid (by rw [List.drop_eq_nil_of_le (show L.length ≤ s - a by have := HA.out; omega), List.nil_append]; exact PB.out.sb)
            have hg3 : ¬ mid < N - s := by omega
            by_cases hα : a < s
            · have HMq : Hid (Mem wr B g n cap bx I ns (P ++ L.take (s - a) ++ R.take (N - s - m) ++ L.drop (s - a) ++ R.drop (N - s - m) ++ S)) := hid (by have h := HM2.out; rw [← HSAME.out] at h; exact h)
              have HKq : Hid (Kept (· = g) w wr) := HK2.out
              obtain ⟨C1, HS1, HMp⟩ : ∃ C1, Hid (C1.Perm (L.take (s - a) ++ R.take (N - s - m)) ∧ Sorted ns C1) ∧ Hid (Mem wr B g n cap bx I ns (P ++ C1 ++ (L.drop (s - a) ++ R.drop (N - s - m) ++ S))) := ⟨_, ⟨List.Perm.refl _, S1.out⟩, hid (by have h := HMq.out; simpa only [List.append_assoc] using h)⟩
              have HKp := HKq
              obtain ⟨C2, HS2, HMz⟩ : ∃ C2, Hid (C2.Perm (L.drop (s - a) ++ R.drop (N - s - m)) ∧ Sorted ns C2) ∧ Hid (Mem wr B g n cap bx I ns (P ++ C1 ++ C2 ++ S)) := ⟨_, ⟨List.Perm.refl _, S2.out⟩, hid (by have h := HMp.out; simpa only [List.append_assoc] using h)⟩
              have HKz := HKp
              go_wp2_with fail
              all_goals
                go_end0
                have hh := halves CR.out HS1.out.1 HS1.out.2 HS2.out.1 HS2.out.2
                exact ⟨⟨_, rfl⟩, C1 ++ C2, hh.1, hh.2, by simpa only [List.append_assoc] using HMz.out, HKz.out⟩
            · have HMq : Hid (Mem wr B g n cap bx I ns (P ++ L.take (s - a) ++ R.take (N - s - m) ++ L.drop (s - a) ++ R.drop (N - s - m) ++ S)) := hid (by have h := HM2.out; rw [← HSAME.out] at h; exact h)
              have HKq : Hid (Kept (· = g) w wr) := HK2.out
              obtain ⟨C1, HS1, HMp⟩ : ∃ C1, Hid (C1.Perm (L.take (s - a) ++ R.take (N - s - m)) ∧ Sorted ns C1) ∧ Hid (Mem wr B g n cap bx I ns (P ++ C1 ++ (L.drop (s - a) ++ R.drop (N - s - m) ++ S))) := ⟨_, ⟨List.Perm.refl _, S1.out⟩, hid (by have h := HMq.out; simpa only [List.append_assoc] using h)⟩
              have HKp := HKq
              obtain ⟨C2, HS2, HMz⟩ : ∃ C2, Hid (C2.Perm (L.drop (s - a) ++ R.drop (N - s - m)) ∧ Sorted ns C2) ∧ Hid (Mem wr B g n cap bx I ns (P ++ C1 ++ C2 ++ S)) := ⟨_, ⟨List.Perm.refl _, S2.out⟩, hid (by have h := HMp.out; simpa only [List.append_assoc] using h)⟩
              have HKz := HKp
              go_wp2_with fail
              all_goals
                go_end0
                have hh := halves CR.out HS1.out.1 HS1.out.2 HS2.out.1 HS2.out.2
                exact ⟨⟨_, rfl⟩, C1 ++ C2, hh.1, hh.2, by simpa only [List.append_assoc] using HMz.out, HKz.out⟩
  · have H0 : Hid (¬ mid < m) := hgt
    go_wp2_with fail
    go_loopg [20, 21] (b - a) (fun q zi zj wr => ∃ (s r : Nat), r - s ≤ q ∧ a ≤ s ∧ s ≤ r ∧ r ≤ m ∧ zi = .int .i64 (s : Nat) ∧ zj = .int .i64 (r : Nat) ∧ Hid ((s = a ∨ ∃ (h1 : s - 1 - a < L.length) (h2 : N - s - m < R.length), a < s ∧ Lt ns L[s - 1 - a] R[N - s - m]) ∧ (r = m ∨ ∃ (h1 : N - 1 - r - m < R.length) (h2 : r - a < L.length), Lt ns R[N - 1 - r - m] L[r - a])) ∧ Hid (Mem wr B g n cap bx I ns (P ++ L ++ R ++ S)) ∧ Hid (Kept (· = g) w wr))
    case atStart => exact ⟨a, m, by omega, by omega, by omega, by omega, rfl, rfl, ⟨.inl rfl, .inl rfl⟩, HM.out, Kept.refl _ w⟩
    case round =>
      obtain ⟨s, r, hq, hs0, hsr, hr0, rfl, rfl, HF, HM2, HK2⟩ := hrel
      clear HM
      by_cases hlt : s < r
      · obtain ⟨c, hc⟩ : ∃ c, c = (s + r) / 2 := ⟨_, rfl⟩
        have hcr : s ≤ c ∧ c < r := by omega
        have hmid2 : ((s : Int) + (r : Int)) / 2 = (c : Int) := by omega
        have hp : ((N : Int) - 1 - (c : Int)) = ((N - 1 - c : Nat) : Int) := by omega
        have hpn : N - 1 - c < n ∧ c < n := by omega
        have iL : c - a < L.length := by have := HA.out; omega
        have iR : N - 1 - c - m < R.length := by have := HA.out; omega
        obtain ⟨x, hx⟩ : ∃ x, x = L[c - a] := ⟨_, rfl⟩
        obtain ⟨y, hy⟩ : ∃ y, y = R[N - 1 - c - m] := ⟨_, rfl⟩
        have cx : wr.cell? ⟨g, c, none⟩ = some (.int .i64 (x : Int)) := by
          have hc := HM2.out.at c (by have := HA.out; simp; omega)
          rw [hc]; congr 3
          rw [List.getElem_append_left (by have := HA.out; simp; omega), List.getElem_append_left (by have := HA.out; simp; omega), List.getElem_append_right (by have := HA.out; omega)]
          rw [hx]; congr 1; have := HA.out; omega
        have cy : wr.cell? ⟨g, N - 1 - c, none⟩ = some (.int .i64 (y : Int)) := by
          have hc := HM2.out.at (N - 1 - c) (by have := HA.out; simp; omega)
          rw [hc]; congr 3
          rw [List.getElem_append_left (by have := HA.out; simp; omega), List.getElem_append_right (by have := HA.out; simp; omega)]
          rw [hy]; congr 1; have := HA.out; simp; omega
        have hxm : x ∈ L := by rw [hx]; exact List.getElem_mem _
        have hym : y ∈ R := by rw [hy]; exact List.getElem_mem _
        have hxy : x < y := HP.out.ahead x hxm y hym
        have HL := less_at wr bx I ns HM2.out.cmp HM2.out.hns y x (HP.out.mb y hym) (HP.out.ma x hxm)
        have HX : Hid (x = L[c - a]) := hx
        have HY : Hid (y = R[N - 1 - c - m]) := hy
        clear hc hx hy hxm hym IH
        by_cases hk : key ns y < key ns x
        · have hd2 := cmv_lt hk
          have HLT : Hid (Lt ns y x) := (Lt.iff_of_gt hxy).2 hk
          generalize cmv (key ns y) (key ns x) = cz at HL hd2
          clear hk
          go_wp2_with fail
          go_quiet ((go_at_call 87; exact Calls.quiet_of (HL _)))
          go_wp2_with fail
          go_roundg (gk - 1)
          case measure => omega
          case rel =>
            refine ⟨s, c, by omega, by omega, by omega, by omega, rfl, rfl, ⟨HF.out.1, .inr ⟨iR, iL, ?_⟩⟩, HM2.out.drewN _, HK2.out.drewN _⟩
            have h := HLT.out; rw [HX.out, HY.out] at h
            exact h
        · have hd2 := cmv_ge hk
          have HLT : Hid (Lt ns x y) := Lt.of_not hxy hk
          generalize cmv (key ns y) (key ns x) = cz at HL hd2
          clear hk
          go_wp2_with fail
          go_quiet ((go_at_call 87; exact Calls.quiet_of (HL _)))
          go_wp2_with fail
          go_roundg (gk - 1)
          case measure => omega
          case rel =>
            refine ⟨c + 1, r, by omega, by omega, by omega, by omega, by go_num, rfl, ⟨.inr ⟨by simpa using iL, by simpa [show N - (c + 1) - m = N - 1 - c - m by omega] using iR, by omega, ?_⟩, HF.out.2⟩, HM2.out.drewN _, HK2.out.drewN _⟩
            have h := HLT.out; rw [HX.out, HY.out] at h
            simpa [show N - (c + 1) - m = N - 1 - c - m by omega] using h
      · have hsr2 : s = r := by omega
        subst hsr2
        have CR : Hid (AllLt ns (L.take (s - a) ++ R.take (N - s - m)) (L.drop (s - a) ++ R.drop (N - s - m))) := by
          refine cross_of (s - a) (N - s - m) HP.out.sa HP.out.sb ?_ ?_
          · rcases HF.out.1 with h | ⟨h1, h2, h3, h4⟩
            · left; omega
            · right; right; exact ⟨⟨by omega, by omega, h2⟩, by simpa [show s - a - 1 = s - 1 - a by omega] using h4⟩
          · rcases HF.out.2 with h | ⟨h1, h2, h3⟩
            · right; left; have := HA.out; omega
            · by_cases h5 : N - s - m = 0
              · left; exact h5
              · right; right; exact ⟨⟨by omega, by have := HA.out; omega, h2⟩, by simpa [show N - s - m - 1 = N - 1 - s - m by omega] using h3⟩
        have hend : ((N : Int) - (s : Int)) = ((N - s : Nat) : Int) := by omega
        have PA : Hid (Parts ns (L.take (s - a)) (R.take (N - s - m))) := hid (HP.out.cut (fun x h => List.mem_of_mem_take h) (fun x h => List.mem_of_mem_take h) (List.Pairwise.sublist (List.take_sublist _ _) HP.out.sa) (List.Pairwise.sublist (List.take_sublist _ _) HP.out.sb))
        have PB : Hid (Parts ns (L.drop (s - a)) (R.drop (N - s - m))) := hid (HP.out.cut (fun x h => List.mem_of_mem_drop h) (fun x h => List.mem_of_mem_drop h) (List.Pairwise.sublist (List.drop_sublist _ _) HP.out.sa) (List.Pairwise.sublist (List.drop_sublist _ _) HP.out.sb))
        by_cases hβ : s < mid
        · by_cases hγ : s < m
          · have HROT := rotate_any wr B g n cap s m (N - s) (cmpV bx) (P ++ L.take (s - a)) (L.drop (s - a)) (R.take (N - s - m)) (R.drop (N - s - m) ++ S) (by have := HA.out; simp; omega) (by have := HA.out; simp; omega) (by have h := HM2.out.row; rw [split4 P L R S (s - a) (N - s - m)] at h; exact h) (by have := HA.out; simp; omega) (by have := HA.out; simp; omega) (by have := HA.out; simp; omega) hn
            by_cases hα : a < s
            · by_cases hδ : N - s < b
              · go_wp2_with fail
                all_goals
                  refine HROT.mono ?_
                  rintro e wq ⟨⟨vq, rfl⟩, hrq, hkq⟩
                  have HMq : Hid (Mem wq B g n cap bx I ns (P ++ L.take (s - a) ++ R.take (N - s - m) ++ L.drop (s - a) ++ R.drop (N - s - m) ++ S)) := hid ((HM2.out.to (d' := P ++ L.take (s - a) ++ R.take (N - s - m) ++ L.drop (s - a) ++ R.drop (N - s - m) ++ S) (by simpa only [List.append_assoc] using hrq) hkq))
                  have HKq : Hid (Kept (· = g) w wq) := HK2.out.trans hkq (fun _ _ h => h) (fun _ _ h => h)
                  clear hrq hkq HROT
                  have HC1 := IH.out (mid - a) (by omega) wq a s mid P (L.take (s - a)) (R.take (N - s - m)) (L.drop (s - a) ++ R.drop (N - s - m) ++ S) (by omega) (by simpa only [List.append_assoc] using HMq.out) PA.out (by have := HA.out; omega) (by have := HA.out; simp; omega) (by have := HA.out; simp; omega) (by have := HA.out; simp; omega) (by have := HA.out; simp; omega)
                  go_wp2_with fail
                  refine HC1.mono ?_
                  rintro e wp ⟨⟨vp, rfl⟩, C1, p1, s1, hm1, hk1⟩
                  have HMp : Hid (Mem wp B g n cap bx I ns (P ++ C1 ++ (L.drop (s - a) ++ R.drop (N - s - m) ++ S))) := hm1
                  have HKp : Hid (Kept (· = g) w wp) := HKq.out.trans hk1 (fun _ _ h => h) (fun _ _ h => h)
                  have HS1 : Hid (C1.Perm (L.take (s - a) ++ R.take (N - s - m)) ∧ Sorted ns C1) := ⟨p1, s1⟩
                  clear hm1 hk1 p1 s1 HC1
                  have HC2 := IH.out (b - mid) (by omega) wp mid (N - s) b (P ++ C1) (L.drop (s - a)) (R.drop (N - s - m)) S (by omega) (by simpa only [List.append_assoc] using HMp.out) PB.out (by have := HA.out; have := HS1.out.1.length_eq; simp at this ⊢; omega) (by have := HA.out; have := HS1.out.1.length_eq; simp at this ⊢; omega) (by have := HA.out; have := HS1.out.1.length_eq; simp at this ⊢; omega) (by have := HA.out; simp; omega) (by have := HA.out; simp; omega)
                  go_wp2_with fail
                  refine HC2.mono ?_
                  rintro e wz ⟨⟨vz, rfl⟩, C2, p2, s2, hm2, hk2⟩
                  have HMz : Hid (Mem wz B g n cap bx I ns (P ++ C1 ++ C2 ++ S)) := hm2
                  have HKz : Hid (Kept (· = g) w wz) := HKp.out.trans hk2 (fun _ _ h => h) (fun _ _ h => h)
                  have HS2 : Hid (C2.Perm (L.drop (s - a) ++ R.drop (N - s - m)) ∧ Sorted ns C2) := ⟨p2, s2⟩
                  clear hm2 hk2 p2 s2 HC2
                  go_wp2_with fail
                  go_end0
                  have hh := halves CR.out HS1.out.1 HS1.out.2 HS2.out.1 HS2.out.2
                  exact ⟨⟨_, rfl⟩, C1 ++ C2, hh.1, hh.2, by simpa only [List.append_assoc] using HMz.out, HKz.out⟩
              · have S2 : Hid (Sorted ns (L.drop (s - a) ++ R.drop (N - s - m))) := hid (by rw [List.drop_eq_nil_of_le (show R.length ≤ N - s - m by have := HA.out; omega), List.append_nil]; exact PB.out.sa)
                go_wp2_with fail
                all_goals
                  refine HROT.mono ?_
                  rintro e wq ⟨⟨vq, rfl⟩, hrq, hkq⟩
                  have HMq : Hid (Mem wq B g n cap bx I ns (P ++ L.take (s - a) ++ R.take (N - s - m) ++ L.drop (s - a) ++ R.drop (N - s - m) ++ S)) := hid ((HM2.out.to (d' := P ++ L.take (s - a) ++ R.take (N - s - m) ++ L.drop (s - a) ++ R.drop (N - s - m) ++ S) (by simpa only [List.append_assoc] using hrq) hkq))
                  have HKq : Hid (Kept (· = g) w wq) := HK2.out.trans hkq (fun _ _ h => h) (fun _ _ h => h)
                  clear hrq hkq HROT
                  have HC1 := IH.out (mid - a) (by omega) wq a s mid P (L.take (s - a)) (R.take (N - s - m)) (L.drop (s - a) ++ R.drop (N - s - m) ++ S) (by omega) (by simpa only [List.append_assoc] using HMq.out) PA.out (by have := HA.out; omega) (by have := HA.out; simp; omega) (by have := HA.out; simp; omega) (by have := HA.out; simp; omega) (by have := HA.out; simp; omega)
                  go_wp2_with fail
                  refine HC1.mono ?_
                  rintro e wp ⟨⟨vp, rfl⟩, C1, p1, s1, hm1, hk1⟩
                  have HMp : Hid (Mem wp B g n cap bx I ns (P ++ C1 ++ (L.drop (s - a) ++ R.drop (N - s - m) ++ S))) := hm1
                  have HKp : Hid (Kept (· = g) w wp) := HKq.out.trans hk1 (fun _ _ h => h) (fun _ _ h => h)
                  have HS1 : Hid (C1.Perm (L.take (s - a) ++ R.take (N - s - m)) ∧ Sorted ns C1) := ⟨p1, s1⟩
                  clear hm1 hk1 p1 s1 HC1
                  obtain ⟨C2, HS2, HMz⟩ : ∃ C2, Hid (C2.Perm (L.drop (s - a) ++ R.drop (N - s - m)) ∧ Sorted ns C2) ∧ Hid (Mem wp B g n cap bx I ns (P ++ C1 ++ C2 ++ S)) := ⟨_, ⟨List.Perm.refl _, S2.out⟩, hid (by have h := HMp.out; simpa only [List.append_assoc] using h)⟩
                  have HKz := HKp
                  go_wp2_with fail
                  go_end0
                  have hh := halves CR.out HS1.out.1 HS1.out.2 HS2.out.1 HS2.out.2
                  exact ⟨⟨_, rfl⟩, C1 ++ C2, hh.1, hh.2, by simpa only [List.append_assoc] using HMz.out, HKz.out⟩
            · have S1 : Hid (Sorted ns (L.take (s - a) ++ R.take (N - s - m))) := hid (by rw [show s - a = 0 by omega, List.take_zero, List.nil_append]; exact PA.out.sb)
              by_cases hδ : N - s < b
              · go_wp2_with fail
                all_goals
                  refine HROT.mono ?_
                  rintro e wq ⟨⟨vq, rfl⟩, hrq, hkq⟩
                  have HMq : Hid (Mem wq B g n cap bx I ns (P ++ L.take (s - a) ++ R.take (N - s - m) ++ L.drop (s - a) ++ R.drop (N - s - m) ++ S)) := hid ((HM2.out.to (d' := P ++ L.take (s - a) ++ R.take (N - s - m) ++ L.drop (s - a) ++ R.drop (N - s - m) ++ S) (by simpa only [List.append_assoc] using hrq) hkq))
                  have HKq : Hid (Kept (· = g) w wq) := HK2.out.trans hkq (fun _ _ h => h) (fun _ _ h => h)
                  clear hrq hkq HROT
                  obtain ⟨C1, HS1, HMp⟩ : ∃ C1, Hid (C1.Perm (L.take (s - a) ++ R.take (N - s - m)) ∧ Sorted ns C1) ∧ Hid (Mem wq B g n cap bx I ns (P ++ C1 ++ (L.drop (s - a) ++ R.drop (N - s - m) ++ S))) := ⟨_, ⟨List.Perm.refl _, S1.out⟩, hid (by have h := HMq.out; simpa only [List.append_assoc] using h)⟩
                  have HKp := HKq
                  have HC2 := IH.out (b - mid) (by omega) wq mid (N - s) b (P ++ C1) (L.drop (s - a)) (R.drop (N - s - m)) S (by omega) (by simpa only [List.append_assoc] using HMp.out) PB.out (by have := HA.out; have := HS1.out.1.length_eq; simp at this ⊢; omega) (by have := HA.out; have := HS1.out.1.length_eq; simp at this ⊢; omega) (by have := HA.out; have := HS1.out.1.length_eq; simp at this ⊢; omega) (by have := HA.out; simp; omega) (by have := HA.out; simp; omega)
                  go_wp2_with fail
                  refine HC2.mono ?_
                  rintro e wz ⟨⟨vz, rfl⟩, C2, p2, s2, hm2, hk2⟩
                  have HMz : Hid (Mem wz B g n cap bx I ns (P ++ C1 ++ C2 ++ S)) := hm2
                  have HKz : Hid (Kept (· = g) w wz) := HKp.out.trans hk2 (fun _ _ h => h) (fun _ _ h => h)
                  have HS2 : Hid (C2.Perm (L.drop (s - a) ++ R.drop (N - s - m)) ∧ Sorted ns C2) := ⟨p2, s2⟩
                  clear hm2 hk2 p2 s2 HC2
                  go_wp2_with fail
                  go_end0
                  have hh := halves CR.out HS1.out.1 HS1.out.2 HS2.out.1 HS2.out.2
                  exact ⟨⟨_, rfl⟩, C1 ++ C2, hh.1, hh.2, by simpa only [List.append_assoc] using HMz.out, HKz.out⟩
              · have S2 : Hid (Sorted ns (L.drop (s - a) ++ R.drop (N - s - m))) := hid (by rw [List.drop_eq_nil_of_le (show R.length ≤ N - s - m by have := HA.out; omega), List.append_nil]; exact PB.out.sa)
                go_wp2_with fail
                all_goals
                  refine HROT.mono ?_
                  rintro e wq ⟨⟨vq, rfl⟩, hrq, hkq⟩
                  have HMq : Hid (Mem wq B g n cap bx I ns (P ++ L.take (s - a) ++ R.take (N - s - m) ++ L.drop (s - a) ++ R.drop (N - s - m) ++ S)) := hid ((HM2.out.to (d' := P ++ L.take (s - a) ++ R.take (N - s - m) ++ L.drop (s - a) ++ R.drop (N - s - m) ++ S) (by simpa only [List.append_assoc] using hrq) hkq))
                  have HKq : Hid (Kept (· = g) w wq) := HK2.out.trans hkq (fun _ _ h => h) (fun _ _ h => h)
                  clear hrq hkq HROT
                  obtain ⟨C1, HS1, HMp⟩ : ∃ C1, Hid (C1.Perm (L.take (s - a) ++ R.take (N - s - m)) ∧ Sorted ns C1) ∧ Hid (Mem wq B g n cap bx I ns (P ++ C1 ++ (L.drop (s - a) ++ R.drop (N - s - m) ++ S))) := ⟨_, ⟨List.Perm.refl _, S1.out⟩, hid (by have h := HMq.out; simpa only [List.append_assoc] using h)⟩
                  have HKp := HKq
                  obtain ⟨C2, HS2, HMz⟩ : ∃ C2, Hid (C2.Perm (L.drop (s - a) ++ R.drop (N - s - m)) ∧ Sorted ns C2) ∧ Hid (Mem wq B g n cap bx I ns (P ++ C1 ++ C2 ++ S)) := ⟨_, ⟨List.Perm.refl _, S2.out⟩, hid (by have h := HMp.out; simpa only [List.append_assoc] using h)⟩
                  have HKz := HKp
                  go_wp2_with fail
                  go_end0
                  have hh := halves CR.out HS1.out.1 HS1.out.2 HS2.out.1 HS2.out.2
                  exact ⟨⟨_, rfl⟩, C1 ++ C2, hh.1, hh.2, by simpa only [List.append_assoc] using HMz.out, HKz.out⟩
          · have eL : L.drop (s - a) = [] := List.drop_eq_nil_of_le (by have := HA.out; omega)
            have HSAME : Hid (P ++ L.take (s - a) ++ R.take (N - s - m) ++ L.drop (s - a) ++ R.drop (N - s - m) ++ S = P ++ L ++ R ++ S) := hid (same4 (.inl eL))
            have S2 : Hid (Sorted ns (L.drop (s - a) ++ R.drop (N - s - m))) := hid (by rw [eL, List.nil_append]; exact PB.out.sb)
            clear eL
            have hg3 : ¬ mid < N - s := by omega
            by_cases hα : a < s
            · have HMq : Hid (Mem wr B g n cap bx I ns (P ++ L.take (s - a) ++ R.take (N - s - m) ++ L.drop (s - a) ++ R.drop (N - s - m) ++ S)) := hid (by have h := HM2.out; rw [← HSAME.out] at h; exact h)
              have HKq : Hid (Kept (· = g) w wr) := HK2.out
              have HC1 := IH.out (mid - a) (by omega) wr a s mid P (L.take (s - a)) (R.take (N - s - m)) (L.drop (s - a) ++ R.drop (N - s - m) ++ S) (by omega) (by simpa only [List.append_assoc] using HMq.out) PA.out (by have := HA.out; omega) (by have := HA.out; simp; omega) (by have := HA.out; simp; omega) (by have := HA.out; simp; omega) (by have := HA.out; simp; omega)
              go_wp2_with fail
              all_goals
                refine HC1.mono ?_
                rintro e wp ⟨⟨vp, rfl⟩, C1, p1, s1, hm1, hk1⟩
                have HMp : Hid (Mem wp B g n cap bx I ns (P ++ C1 ++ (L.drop (s - a) ++ R.drop (N - s - m) ++ S))) := hm1
                have HKp : Hid (Kept (· = g) w wp) := HKq.out.trans hk1 (fun _ _ h => h) (fun _ _ h => h)
                have HS1 : Hid (C1.Perm (L.take (s - a) ++ R.take (N - s - m)) ∧ Sorted ns C1) := ⟨p1, s1⟩
                clear hm1 hk1 p1 s1 HC1
                obtain ⟨C2, HS2, HMz⟩ : ∃ C2, Hid (C2.Perm (L.drop (s - a) ++ R.drop (N - s - m)) ∧ Sorted ns C2) ∧ Hid (Mem wp B g n cap bx I ns (P ++ C1 ++ C2 ++ S)) := ⟨_, ⟨List.Perm.refl _, S2.out⟩, hid (by have h := HMp.out; simpa only [List.append_assoc] using h)⟩
                have HKz := HKp
                go_wp2_with fail
                go_end0
                have hh := halves CR.out HS1.out.1 HS1.out.2 HS2.out.1 HS2.out.2
                exact ⟨⟨_, rfl⟩, C1 ++ C2, hh.1, hh.2, by simpa only [List.append_assoc] using HMz.out, HKz.out⟩
            · have S1 : Hid (Sorted ns (L.take (s - a) ++ R.take (N - s - m))) := hid (by rw [show s - a = 0 by omega, List.take_zero, List.nil_append]; exact PA.out.sb)
              have HMq : Hid (Mem wr B g n cap bx I ns (P ++ L.take (s - a) ++ R.take (N - s - m) ++ L.drop (s - a) ++ R.drop (N - s - m) ++ S)) := hid (by have h := HM2.out; rw [← HSAME.out] at h; exact h)
              have HKq : Hid (Kept (· = g) w wr) := HK2.out
              obtain ⟨C1, HS1, HMp⟩ : ∃ C1, Hid (C1.Perm (L.take (s - a) ++ R.take (N - s - m)) ∧ Sorted ns C1) ∧ Hid (Mem wr B g n cap bx I ns (P ++ C1 ++ (L.drop (s - a) ++ R.drop (N - s - m) ++ S))) := ⟨_, ⟨List.Perm.refl _, S1.out⟩, hid (by have h := HMq.out; simpa only [List.append_assoc] using h)⟩
              have HKp := HKq
              obtain ⟨C2, HS2, HMz⟩ : ∃ C2, Hid (C2.Perm (L.drop (s - a) ++ R.drop (N - s - m)) ∧ Sorted ns C2) ∧ Hid (Mem wr B g n cap bx I ns (P ++ C1 ++ C2 ++ S)) := ⟨_, ⟨List.Perm.refl _, S2.out⟩, hid (by have h := HMp.out; simpa only [List.append_assoc] using h)⟩
              have HKz := HKp
              go_wp2_with fail
              all_goals
                go_end0
                have hh := halves CR.out HS1.out.1 HS1.out.2 HS2.out.1 HS2.out.2
                exact ⟨⟨_, rfl⟩, C1 ++ C2, hh.1, hh.2, by simpa only [List.append_assoc] using HMz.out, HKz.out⟩
        · have eR : R.take (N - s - m) = [] := by rw [show N - s - m = 0 by omega]; rfl
          have HSAME : Hid (P ++ L.take (s - a) ++ R.take (N - s - m) ++ L.drop (s - a) ++ R.drop (N - s - m) ++ S = P ++ L ++ R ++ S) := hid (same4 (.inr eR))
          have S1 : Hid (Sorted ns (L.take (s - a) ++ R.take (N - s - m))) := hid (by rw [eR, List.append_nil]; exact PA.out.sa)
          clear eR
          have hg1 : ¬ m < N - s := by omega
          by_cases h3 : s < m
          · by_cases hδ : N - s < b
            · by_cases hα : a < s
              · have HMq : Hid (Mem wr B g n cap bx I ns (P ++ L.take (s - a) ++ R.take (N - s - m) ++ L.drop (s - a) ++ R.drop (N - s - m) ++ S)) := hid (by have h := HM2.out; rw [← HSAME.out] at h; exact h)
                have HKq : Hid (Kept (· = g) w wr) := HK2.out
                obtain ⟨C1, HS1, HMp⟩ : ∃ C1, Hid (C1.Perm (L.take (s - a) ++ R.take (N - s - m)) ∧ Sorted ns C1) ∧ Hid (Mem wr B g n cap bx I ns (P ++ C1 ++ (L.drop (s - a) ++ R.drop (N - s - m) ++ S))) := ⟨_, ⟨List.Perm.refl _, S1.out⟩, hid (by have h := HMq.out; simpa only [List.append_assoc] using h)⟩
                have HKp := HKq
                have HC2 := IH.out (b - mid) (by omega) wr mid (N - s) b (P ++ C1) (L.drop (s - a)) (R.drop (N - s - m)) S (by omega) (by simpa only [List.append_assoc] using HMp.out) PB.out (by have := HA.out; have := HS1.out.1.length_eq; simp at this ⊢; omega) (by have := HA.out; have := HS1.out.1.length_eq; simp at this ⊢; omega) (by have := HA.out; have := HS1.out.1.length_eq; simp at this ⊢; omega) (by have := HA.out; simp; omega) (by have := HA.out; simp; omega)
                go_wp2_with fail
                all_goals
                  refine HC2.mono ?_
                  rintro e wz ⟨⟨vz, rfl⟩, C2, p2, s2, hm2, hk2⟩
                  have HMz : Hid (Mem wz B g n cap bx I ns (P ++ C1 ++ C2 ++ S)) := hm2
                  have HKz : Hid (Kept (· = g) w wz) := HKp.out.trans hk2 (fun _ _ h => h) (fun _ _ h => h)
                  have HS2 : Hid (C2.Perm (L.drop (s - a) ++ R.drop (N - s - m)) ∧ Sorted ns C2) := ⟨p2, s2⟩
                  clear hm2 hk2 p2 s2 HC2
                  go_wp2_with fail
                  go_end0
                  have hh := halves CR.out HS1.out.1 HS1.out.2 HS2.out.1 HS2.out.2
                  exact ⟨⟨_, rfl⟩, C1 ++ C2, hh.1, hh.2, by simpa only [List.append_assoc] using HMz.out, HKz.out⟩
              · have HMq : Hid (Mem wr B g n cap bx I ns (P ++ L.take (s - a) ++ R.take (N - s - m) ++ L.drop (s - a) ++ R.drop (N - s - m) ++ S)) := hid (by have h := HM2.out; rw [← HSAME.out] at h; exact h)
                have HKq : Hid (Kept (· = g) w wr) := HK2.out
                obtain ⟨C1, HS1, HMp⟩ : ∃ C1, Hid (C1.Perm (L.take (s - a) ++ R.take (N - s - m)) ∧ Sorted ns C1) ∧ Hid (Mem wr B g n cap bx I ns (P ++ C1 ++ (L.drop (s - a) ++ R.drop (N - s - m) ++ S))) := ⟨_, ⟨List.Perm.refl _, S1.out⟩, hid (by have h := HMq.out; simpa only [List.append_assoc] using h)⟩
                have HKp := HKq
                have HC2 := IH.out (b - mid) (by omega) wr mid (N - s) b (P ++ C1) (L.drop (s - a)) (R.drop (N - s - m)) S (by omega) (by simpa only [List.append_assoc] using HMp.out) PB.out (by have := HA.out; have := HS1.out.1.length_eq; simp at this ⊢; omega) (by have := HA.out; have := HS1.out.1.length_eq; simp at this ⊢; omega) (by have := HA.out; have := HS1.out.1.length_eq; simp at this ⊢; omega) (by have := HA.out; simp; omega) (by have := HA.out; simp; omega)
                go_wp2_with fail
                all_goals
                  refine HC2.mono ?_
                  rintro e wz ⟨⟨vz, rfl⟩, C2, p2, s2, hm2, hk2⟩
                  have HMz : Hid (Mem wz B g n cap bx I ns (P ++ C1 ++ C2 ++ S)) := hm2
                  have HKz : Hid (Kept (· = g) w wz) := HKp.out.trans hk2 (fun _ _ h => h) (fun _ _ h => h)
                  have HS2 : Hid (C2.Perm (L.drop (s - a) ++ R.drop (N - s - m)) ∧ Sorted ns C2) := ⟨p2, s2⟩
                  clear hm2 hk2 p2 s2 HC2
                  go_wp2_with fail
                  go_end0
                  have hh := halves CR.out HS1.out.1 HS1.out.2 HS2.out.1 HS2.out.2
                  exact ⟨⟨_, rfl⟩, C1 ++ C2, hh.1, hh.2, by simpa only [List.append_assoc] using HMz.out, HKz.out⟩
            · have S2 : Hid (Sorted ns (L.drop (s - a) ++ R.drop (N - s - m))) := hid (by rw [List.drop_eq_nil_of_le (show R.length ≤ N - s - m by have := HA.out; omega), List.append_nil]; exact PB.out.sa)
              by_cases hα : a < s
              · have HMq : Hid (Mem wr B g n cap bx I ns (P ++ L.take (s - a) ++ R.take (N - s - m) ++ L.drop (s - a) ++ R.drop (N - s - m) ++ S)) := hid (by have h := HM2.out; rw [← HSAME.out] at h; exact h)
                have HKq : Hid (Kept (· = g) w wr) := HK2.out
                obtain ⟨C1, HS1, HMp⟩ : ∃ C1, Hid (C1.Perm (L.take (s - a) ++ R.take (N - s - m)) ∧ Sorted ns C1) ∧ Hid (Mem wr B g n cap bx I ns (P ++ C1 ++ (L.drop (s - a) ++ R.drop (N - s - m) ++ S))) := ⟨_, ⟨List.Perm.refl _, S1.out⟩, hid (by have h := HMq.out; simpa only [List.append_assoc] using h)⟩
                have HKp := HKq
                obtain ⟨C2, HS2, HMz⟩ : ∃ C2, Hid (C2.Perm (L.drop (s - a) ++ R.drop (N - s - m)) ∧ Sorted ns C2) ∧ Hid (Mem wr B g n cap bx I ns (P ++ C1 ++ C2 ++ S)) := ⟨_, ⟨List.Perm.refl _, S2.out⟩, hid (by have h := HMp.out; simpa only [List.append_assoc] using h)⟩
                have HKz := HKp
                go_wp2_with fail
                all_goals
                  go_end0
                  have hh := halves CR.out HS1.out.1 HS1.out.2 HS2.out.1 HS2.out.2
                  exact ⟨⟨_, rfl⟩, C1 ++ C2, hh.1, hh.2, by simpa only [List.append_assoc] using HMz.out, HKz.out⟩
              · have HMq : Hid (Mem wr B g n cap bx I ns (P ++ L.take (s - a) ++ R.take (N - s - m) ++ L.drop (s - a) ++ R.drop (N - s - m) ++ S)) := hid (by have h := HM2.out; rw [← HSAME.out] at h; exact h)
                have HKq : Hid (Kept (· = g) w wr) := HK2.out
                obtain ⟨C1, HS1, HMp⟩ : ∃ C1, Hid (C1.Perm (L.take (s - a) ++ R.take (N - s - m)) ∧ Sorted ns C1) ∧ Hid (Mem wr B g n cap bx I ns (P ++ C1 ++ (L.drop (s - a) ++ R.drop (N - s - m) ++ S))) := ⟨_, ⟨List.Perm.refl _, S1.out⟩, hid (by have h := HMq.out; simpa only [List.append_assoc] using h)⟩
                have HKp := HKq
                obtain ⟨C2, HS2, HMz⟩ : ∃ C2, Hid (C2.Perm (L.drop (s - a) ++ R.drop (N - s - m)) ∧ Sorted ns C2) ∧ Hid (Mem wr B g n cap bx I ns (P ++ C1 ++ C2 ++ S)) := ⟨_, ⟨List.Perm.refl _, S2.out⟩, hid (by have h := HMp.out; simpa only [List.append_assoc] using h)⟩
                have HKz := HKp
                go_wp2_with fail
                all_goals
                  go_end0
                  have hh := halves CR.out HS1.out.1 HS1.out.2 HS2.out.1 HS2.out.2
                  exact ⟨⟨_, rfl⟩, C1 ++ C2, hh.1, hh.2, by simpa only [List.append_assoc] using HMz.out, HKz.out⟩
          · have S2 : Hid (Sorted ns (L.drop (s - a) ++ R.drop (N - s - m))) := hid (by rw [List.drop_eq_nil_of_le (show L.length ≤ s - a by have := HA.out; omega), List.nil_append]; exact PB.out.sb)
            have hg3 : ¬ mid < N - s := by omega
            by_cases hα : a < s
            · have HMq : Hid (Mem wr B g n cap bx I ns (P ++ L.take (s - a) ++ R.take (N - s - m) ++ L.drop (s - a) ++ R.drop (N - s - m) ++ S)) := hid (by have h := HM2.out; rw [← HSAME.out] at h; exact h)
              have HKq : Hid (Kept (· = g) w wr) := HK2.out
              obtain ⟨C1, HS1, HMp⟩ : ∃ C1, Hid (C1.Perm (L.take (s - a) ++ R.take (N - s - m)) ∧ Sorted ns C1) ∧ Hid (Mem wr B g n cap bx I ns (P ++ C1 ++ (L.drop (s - a) ++ R.drop (N - s - m) ++ S))) := ⟨_, ⟨List.Perm.refl _, S1.out⟩, hid (by have h := HMq.out; simpa only [List.append_assoc] using h)⟩
              have HKp := HKq
              obtain ⟨C2, HS2, HMz⟩ : ∃ C2, Hid (C2.Perm (L.drop (s - a) ++ R.drop (N - s - m)) ∧ Sorted ns C2) ∧ Hid (Mem wr B g n cap bx I ns (P ++ C1 ++ C2 ++ S)) := ⟨_, ⟨List.Perm.refl _, S2.out⟩, hid (by have h := HMp.out; simpa only [List.append_assoc] using h)⟩
              have HKz := HKp
              go_wp2_with fail
              all_goals
                go_end0
                have hh := halves CR.out HS1.out.1 HS1.out.2 HS2.out.1 HS2.out.2
                exact ⟨⟨_, rfl⟩, C1 ++ C2, hh.1, hh.2, by simpa only [List.append_assoc] using HMz.out, HKz.out⟩
            · have HMq : Hid (Mem wr B g n cap bx I ns (P ++ L.take (s - a) ++ R.take (N - s - m) ++ L.drop (s - a) ++ R.drop (N - s - m) ++ S)) := hid (by have h := HM2.out; rw [← HSAME.out] at h; exact h)
              have HKq : Hid (Kept (· = g) w wr) := HK2.out
              obtain ⟨C1, HS1, HMp⟩ : ∃ C1, Hid (C1.Perm (L.take (s - a) ++ R.take (N - s - m)) ∧ Sorted ns C1) ∧ Hid (Mem wr B g n cap bx I ns (P ++ C1 ++ (L.drop (s - a) ++ R.drop (N - s - m) ++ S))) := ⟨_, ⟨List.Perm.refl _, S1.out⟩, hid (by have h := HMq.out; simpa only [List.append_assoc] using h)⟩
              have HKp := HKq
              obtain ⟨C2, HS2, HMz⟩ : ∃ C2, Hid (C2.Perm (L.drop (s - a) ++ R.drop (N - s - m)) ∧ Sorted ns C2) ∧ Hid (Mem wr B g n cap bx I ns (P ++ C1 ++ C2 ++ S)) := ⟨_, ⟨List.Perm.refl _, S2.out⟩, hid (by have h := HMp.out; simpa only [List.append_assoc] using h)⟩
              have HKz := HKp
              go_wp2_with fail
              all_goals
                go_end0
                have hh := halves CR.out HS1.out.1 HS1.out.2 HS2.out.1 HS2.out.2
                exact ⟨⟨_, rfl⟩, C1 ++ C2, hh.1, hh.2, by simpa only [List.append_assoc] using HMz.out, HKz.out⟩

/-- Two sorted parts are merged. -/
theorem sym_any (k B g n cap bx : Nat) (I : Nat → Prop) (ns : List Nat) : ∀ (w : World) (a m b : Nat) (P L R S : List Nat), b - a ≤ k → Mem w B g n cap bx I ns (P ++ L ++ R ++ S) → Parts ns L R → a = P.length → m = P.length + L.length → b = P.length + L.length + R.length → 0 < L.length → 0 < R.length →
      Calls Tryd.prog 99 #[.slice (some ⟨g, 0, none⟩) n cap, .int .i64 (a : Nat), .int .i64 (m : Nat), .int .i64 (b : Nat), cmpV bx] w fun e w' => (∃ v, e = .returned v) ∧ Merged w w' B g n cap bx I ns P L R S := by
  induction k using Nat.strongRecOn with
  | ind k ih =>
    intro w a m b P L R S hk hM hP ha hm hb hL hR
    by_cases h1 : L.length = 1
    · obtain ⟨x, rfl⟩ := List.length_eq_one_iff.1 h1
      exact sym_one w B g n cap bx a m b I ns P R S x hM hP ha hm hb
    · by_cases h2 : R.length = 1
      · obtain ⟨y, rfl⟩ := List.length_eq_one_iff.1 h2
        exact sym_last w B g n cap bx a m b I ns P L S y hM hP ha hm hb (by omega)
      · exact sym_step k B g n cap bx I ns ih w a m b P L R S hk hM hP ha hm hb (by omega) (by omega)

end Go.Proofs.YtofhlnpbflkdlaaDoor
