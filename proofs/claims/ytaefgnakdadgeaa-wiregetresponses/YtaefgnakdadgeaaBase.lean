/-
  Worlds: what a call may write, what an object of two fields (bytes, a count) holds.
-/
import Derived.Test.YtaefgnakdadgeaaMath
import Derived.WalkKit
import Derived.WalkSpells
import Derived.WalkLawsBesides
import Derived.Deep.QuietTactic
import Derived.Deep.LoopGhost
import Derived.Deep.Cut
import Derived.Deep.CutRange
import Derived.BigQuiet
import Derived.BigRegion
import Derived.Laws.CopyOwn
namespace Go.Proofs.Ytaefgnakdadgeaa
open Go.RowKit

/-- A byte's cell. -/
def byteV (b : Nat) : Value := .int .u8 b

theorem byteV_one (l : List Nat) : ∀ u ∈ l.map byteV, u.oneCell' = true := by
  intro u hu
  obtain ⟨b, _, rfl⟩ := List.mem_map.1 hu
  rfl

/-- Of what was there blocks of F alone may have turned. -/
structure Kept (F : Nat → Prop) (w w' : World) : Prop where
  os : w'.os = w.os
  tape : w'.tape = w.tape
  output : w'.output = w.output
  size : w.heap.size ≤ w'.heap.size
  block : ∀ k, k < w.heap.size → ¬ F k → w'.heap[k]? = w.heap[k]?

theorem Kept.refl (F : Nat → Prop) (w : World) : Kept F w w := ⟨rfl, rfl, rfl, Nat.le_refl _, fun _ _ _ => rfl⟩

theorem Kept.trans {F G H : Nat → Prop} {a b c : World} (h : Kept F a b) (k : Kept G b c) (hF : ∀ x, x < a.heap.size → F x → H x) (hG : ∀ x, x < a.heap.size → G x → H x) : Kept H a c :=
  ⟨k.os.trans h.os, k.tape.trans h.tape, k.output.trans h.output, Nat.le_trans h.size k.size,
    fun i hi hn => (k.block i (Nat.lt_of_lt_of_le hi h.size) (fun g => hn (hG i hi g))).trans (h.block i hi (fun g => hn (hF i hi g)))⟩

theorem Kept.mono {F G : Nat → Prop} {a b : World} (h : Kept F a b) (hF : ∀ x, x < a.heap.size → F x → G x) : Kept G a b :=
  ⟨h.os, h.tape, h.output, h.size, fun i hi hn => h.block i hi (fun g => hn (hF i hi g))⟩

theorem Kept.drewN {F : Nat → Prop} {a b : World} (h : Kept F a b) (n : Nat) : Kept F a (b.drewN n) := ⟨h.os, h.tape, h.output, h.size, h.block⟩

theorem Kept.drew {F : Nat → Prop} {a b : World} (h : Kept F a b) : Kept F a b.drew := ⟨h.os, h.tape, h.output, h.size, h.block⟩

theorem Kept.alloc {F : Nat → Prop} {a b : World} (h : Kept F a b) (o : Obj) : Kept F a (b.alloc o) :=
  ⟨h.os, h.tape, h.output, Nat.le_trans h.size (by simp), fun k hk hn => (Below.heap_alloc _ _ _ (Nat.lt_of_lt_of_le hk h.size)).trans (h.block k hk hn)⟩

theorem Kept.setCell {F : Nat → Prop} {a b : World} (h : Kept F a b) (p : Addr) (u : Value) (hp : F p.block ∨ a.heap.size ≤ p.block) : Kept F a (b.setCell p u) :=
  ⟨h.os, h.tape, h.output, Nat.le_trans h.size (by simp [World.setCell]),
    fun k hk hn => (Below.heap_setCell _ _ _ _ (by rintro rfl; rcases hp with hp | hp; exact hn hp; omega)).trans (h.block k hk hn)⟩

theorem Kept.grown {F : Nat → Prop} {a w w' : World} {row : Option Nat} (h : Kept F a w) (hg : w.grownBy w' row) (hr : ∀ k, row = some k → F k ∨ a.heap.size ≤ k) : Kept F a w' :=
  ⟨hg.os.trans h.os, hg.tape.trans h.tape, hg.output.trans h.output, Nat.le_trans h.size hg.size,
    fun k hk hn => (hg.block k (Nat.lt_of_lt_of_le hk h.size) (fun e => by rcases hr k e.symm with q | q; exact hn q; omega)).trans (h.block k hk hn)⟩

theorem Kept.below {F : Nat → Prop} {a b : World} (h : Kept F a b) {B : Nat} (hB : B ≤ a.heap.size) (hF : ∀ x, x < B → ¬ F x) : Below B a b :=
  ⟨h.os, h.tape, h.output, h.size, fun k hk => h.block k (Nat.lt_of_lt_of_le hk hB) (hF k hk)⟩

theorem Kept.ofBelow {F : Nat → Prop} {a b : World} (h : Below a.heap.size a b) : Kept F a b := ⟨h.os, h.tape, h.output, h.size, fun k hk _ => h.block k hk⟩

theorem Kept.cell {F : Nat → Prop} {w w' : World} (h : Kept F w w') {p : Addr} {v : Value} (hc : w.cell? p = some v) (hp : ¬ F p.block) : w'.cell? p = some v :=
  (World.cell?_of_block (h.block p.block (World.block_lt_of_cell? w p hc) hp)).trans hc

theorem Kept.frozen {F : Nat → Prop} {w w' : World} (h : Kept F w w') {p : Addr} (hlt : p.block < w.heap.size) (hp : ¬ F p.block) : w'.frozen? p = w.frozen? p :=
  World.frozen?_of_block (h.block p.block hlt hp)

/-- A slice of bytes that lies at the head of a row of its own. -/
abbrev Row (w : World) (v : Value) (bs : List Nat) : Prop := w.ownsRow 0 5 1 v bs.length (bs.map byteV)

theorem Row.kept {F : Nat → Prop} {w w' : World} {v : Value} {bs : List Nat} (h : Row w v bs) (hk : Kept F w w') (hn : ∀ k, v.ownBlock = some k → ¬ F k) : Row w' v bs := by
  refine ⟨h.1, ?_⟩
  rcases h.2 with hn' | ⟨g, cap, cur, rfl, hb, hgg, rest⟩
  · exact .inl hn'
  · refine .inr ⟨g, cap, cur, rfl, hb, ?_, rest⟩
    rw [hk.block g (Array.getElem?_eq_some_iff.1 hgg).1 (hn g rfl)]
    exact hgg

theorem Row.lt {w : World} {v : Value} {bs : List Nat} (h : Row w v bs) {k : Nat} (hk : v.ownBlock = some k) : k < w.heap.size := (World.ownsRow.lt h k hk).2

theorem Row.shape {w : World} {v : Value} {bs : List Nat} (h : Row w v bs) : ∃ ao cap, v = .slice ao bs.length cap ∧ (bs ≠ [] → ∃ g, ao = some ⟨g, 0, none⟩) := by
  rcases h.2 with ⟨rfl, hn⟩ | ⟨g, cap, cur, rfl, _⟩
  · exact ⟨none, 0, by rw [hn], fun hb => absurd (List.eq_nil_of_length_eq_zero hn) hb⟩
  · exact ⟨_, cap, rfl, fun _ => ⟨g, rfl⟩⟩

theorem Row.cell {w : World} {g cap : Nat} {bs : List Nat} (h : Row w (.slice (some ⟨g, 0, none⟩) bs.length cap) bs) (j : Nat) (hj : j < bs.length) : w.cell? ⟨g, j, none⟩ = some (.int .u8 (bs[j] : Nat)) := by
  rw [h.cellAt j (by omega)]
  simp [byteV, hj]

/-- An object of two fields at block p: a row of bytes, a count. -/
structure St (w : World) (p : Nat) (v : Value) (bs : List Nat) (c : Nat) : Prop where
  cb : w.cell? ⟨p, 0, none⟩ = some v
  cc : w.cell? ⟨p, 1, none⟩ = some (.int .i64 c)
  fb : w.frozen? ⟨p, 0, none⟩ = false
  fc : w.frozen? ⟨p, 1, none⟩ = false
  row : Row w v bs
  ne : v.ownBlock ≠ some p
  byte : ∀ b ∈ bs, b < 256

/-- The blocks of such an object. -/
def Fp (p : Nat) (v : Value) (k : Nat) : Prop := k = p ∨ v.ownBlock = some k

theorem St.lt {w : World} {p : Nat} {v : Value} {bs : List Nat} {c : Nat} (h : St w p v bs c) : p < w.heap.size := World.block_lt_of_cell? w _ h.cb

theorem St.fp_lt {w : World} {p : Nat} {v : Value} {bs : List Nat} {c : Nat} (h : St w p v bs c) {k : Nat} (hk : Fp p v k) : k < w.heap.size := by
  rcases hk with rfl | hk
  · exact h.lt
  · exact h.row.lt hk

theorem St.kept {F : Nat → Prop} {w w' : World} {p : Nat} {v : Value} {bs : List Nat} {c : Nat} (h : St w p v bs c) (hk : Kept F w w') (hn : ∀ k, Fp p v k → ¬ F k) : St w' p v bs c :=
  ⟨hk.cell h.cb (hn p (.inl rfl)), hk.cell h.cc (hn p (.inl rfl)), (hk.frozen h.lt (hn p (.inl rfl))).trans h.fb, (hk.frozen h.lt (hn p (.inl rfl))).trans h.fc,
    h.row.kept hk (fun k e => hn k (.inr e)), h.ne, h.byte⟩

theorem St.drewN {w : World} {p : Nat} {v : Value} {bs : List Nat} {c : Nat} (h : St w p v bs c) (n : Nat) : St (w.drewN n) p v bs c := ⟨h.cb, h.cc, h.fb, h.fc, h.row, h.ne, h.byte⟩

/-- The count is written. -/
theorem St.setCount {w : World} {p : Nat} {v : Value} {bs : List Nat} {c : Nat} (h : St w p v bs c) (c' : Nat) : St (w.setCell ⟨p, 1, none⟩ (.int .i64 c')) p v bs c' := by
  obtain ⟨cur, t, fr, hg, h1⟩ : ∃ cur t fr, w.heap[p]? = some (.cells cur t fr) ∧ cur[1]? = some (.int .i64 c) := by
    have := h.cc
    simp only [World.cell?] at this
    split at this
    · rename_i cu t fr e; exact ⟨cu, t, fr, e, by simpa using this⟩
    · cases this
  have hsz : 1 < cur.size := (Array.getElem?_eq_some_iff.1 h1).1
  have hk : Kept (· = p) w (w.setCell ⟨p, 1, none⟩ (.int .i64 c')) := (Kept.refl _ w).setCell _ _ (.inl rfl)
  have hh : (w.setCell ⟨p, 1, none⟩ (.int .i64 c')).heap[p]? = some (.cells (cur.setIfInBounds 1 (.int .i64 c')) t fr) := by
    simp [World.setCell, Array.getElem?_modify, hg]
  refine ⟨?_, ?_, ?_, ?_, h.row.kept hk (fun k e hkp => h.ne (by rw [e, hkp])), h.ne, h.byte⟩
  · have := h.cb
    simp only [World.cell?, hg] at this
    simp only [World.cell?, hh]
    simpa using this
  · simp [World.cell?, hh, hsz]
  · have := h.fb
    simpa only [World.frozen?, hg, hh] using this
  · have := h.fc
    simpa only [World.frozen?, hg, hh] using this

/-- The bytes are written. -/
theorem St.setBytes {w w1 : World} {p : Nat} {v v' : Value} {bs bs' : List Nat} {c : Nat} (h : St w p v bs c) (hk : Kept (fun k => v.ownBlock = some k) w w1) (hrow : Row w1 v' bs') (hne : v'.ownBlock ≠ some p) (hb : ∀ b ∈ bs', b < 256) :
    St (w1.setCell ⟨p, 0, none⟩ v') p v' bs' c := by
  have hcb := hk.cell h.cb h.ne
  have hcc := hk.cell h.cc h.ne
  have hfb := (hk.frozen (p := ⟨p, 0, none⟩) h.lt h.ne).trans h.fb
  have hfc := (hk.frozen (p := ⟨p, 1, none⟩) h.lt h.ne).trans h.fc
  obtain ⟨cur, t, fr, hg, h1⟩ : ∃ cur t fr, w1.heap[p]? = some (.cells cur t fr) ∧ cur[0]? = some v := by
    have := hcb
    simp only [World.cell?] at this
    split at this
    · rename_i cu t fr e; exact ⟨cu, t, fr, e, by simpa using this⟩
    · cases this
  have hsz : 0 < cur.size := (Array.getElem?_eq_some_iff.1 h1).1
  have hk2 : Kept (· = p) w1 (w1.setCell ⟨p, 0, none⟩ v') := (Kept.refl _ w1).setCell _ _ (.inl rfl)
  have hh : (w1.setCell ⟨p, 0, none⟩ v').heap[p]? = some (.cells (cur.setIfInBounds 0 v') t fr) := by
    simp [World.setCell, Array.getElem?_modify, hg]
  refine ⟨?_, ?_, ?_, ?_, hrow.kept hk2 (fun k e hkp => hne (by rw [e, hkp])), hne, hb⟩
  · simp [World.cell?, hh, hsz]
  · have := hcc
    simp only [World.cell?, hg] at this
    simp only [World.cell?, hh]
    simpa using this
  · have := hfb
    simpa only [World.frozen?, hg, hh] using this
  · have := hfc
    simpa only [World.frozen?, hg, hh] using this

theorem drewN_add (w : World) (a b : Nat) : (w.drewN a).drewN b = w.drewN (a + b) := by simp [World.drewN, Nat.add_assoc]

end Go.Proofs.Ytaefgnakdadgeaa
