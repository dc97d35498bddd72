/-
  Layer 18's laws: bytes, rows of bytes, frames that came in.
-/
import Derived.Test.YtjjhjbmmhkcapaaFmA
import Derived.Test.YtjjhjbmmhkcapaaArgs
import Derived.Test.YtjjhjbmmhkcapaaRowsOf
import Derived.Deep.Slices
namespace Go.Proofs.Ytjjhjbmmhkcapaa
open Go.ChangeShapes Go.WideShapes Go.ChangeAt Go.RowKit Go.Deep

/-- Bytes that came in. -/
structure Arg18 (w : World) (v : Value) (bs : List Nat) : Prop where
  src : Src w (fun k => k < w.heap.size) v bs
  room : ∀ a n c, v = .slice a n c → n ≤ c
  nil : ∀ n c, v = .slice none n c → n = 0 ∧ c = 0
  byt : ∀ b ∈ bs, b < 256

theorem IsRow.arg18 {w : World} {a : Option Addr} {len cap : Nat} {zs : List Int} (h : IsRow .u8 w a len cap zs) : ∃ bs, Arg18 w (.slice a len cap) bs ∧ bs.length = len := by
  obtain ⟨bs, hs, hl, hb⟩ := h.src
  refine ⟨bs, ⟨hs, fun a' n c e => ?_, fun n c e => ?_, hb⟩, hl⟩
  · injection e with e1 e2 e3
    rcases h with ⟨_, h2, h3, _⟩ | ⟨x, _, h2, _⟩
    · omega
    · omega
  · injection e with e1 e2 e3
    rcases h with ⟨_, h2, h3, _⟩ | ⟨x, h1, _⟩
    · omega
    · rw [h1] at e1; cases e1

/-- One part: a slice and its bytes. -/
structure Pt18 where
  a : Option Addr
  n : Nat
  c : Nat
  bs : List Nat

instance : Inhabited Pt18 := ⟨⟨none, 0, 0, []⟩⟩

/-- Parts: a row of slices. -/
def Pts18 (W : World) (a : Option Addr) (len : Nat) (P : Nat → Pt18) : Prop :=
  ∀ j, j < len → (Arg18 W (.slice (P j).a (P j).n (P j).c) (P j).bs ∧ (P j).bs.length = (P j).n) ∧ ∃ b o, a = some ⟨b, o, none⟩ ∧ W.cell? ⟨b, o + j, none⟩ = some (.slice (P j).a (P j).n (P j).c)

theorem Try.cellsBs18 : Try.prog.cellsOf 25 = 1 := by kernel_rfl
theorem Try.cellsU18 : Try.prog.cellsOf 5 = 1 := by kernel_rfl
theorem Try.cellsS18 : Try.prog.cellsOf 9 = 1 := by kernel_rfl
theorem Try.cellsI18 : Try.prog.cellsOf 3 = 1 := by kernel_rfl
theorem Try.cellsF18 : Try.prog.cellsOf 23 = 2 := by kernel_rfl

section
variable {H : Type} {enc : TypeId × Value → H} {W : World} {x : DataW H × List MemPlace}

theorem parts18_of {a : Option Addr} {len cap fuel : Nat} (h : DataW.trod enc Try.prog W 0 (fun _ => true) true fuel 31 [.slice a len cap] = some x) :
    ∃ P : Nat → Pt18, Pts18 W a len P := by
  rcases open_slice1 Try.underlying31 Try.cellsBs18 h with ⟨hcs, _⟩ | ⟨x0, l, c, m, n, V, D, Pl, hcs, _, hl, _, hm, _, hx⟩
  · simp only [List.cons.injEq, Value.slice.injEq, and_true] at hcs
    obtain ⟨rfl, rfl, rfl⟩ := hcs
    exact ⟨fun _ => default, fun j hj => by omega⟩
  · simp only [List.cons.injEq, Value.slice.injEq, and_true] at hcs
    obtain ⟨rfl, rfl, rfl⟩ := hcs
    simp only [if_true] at hm
    subst hm
    refine choose_lt (α := Pt18) (p := fun j p => (Arg18 W (.slice p.a p.n p.c) p.bs ∧ p.bs.length = p.n) ∧ ∃ b o, some x0 = some ⟨b, o, none⟩ ∧ W.cell? ⟨b, o + j, none⟩ = some (.slice p.a p.n p.c)) (fun j hj => ?_)
    obtain ⟨hc, ht⟩ := hx j (by omega)
    have hc0 := (hx 0 (by omega)).1
    have hx0 := spot_none hc0
    obtain ⟨p, hp, hok⟩ : ∃ p : Pt18, Value.slice p.a p.n p.c = V j ∧ Arg18 W (.slice p.a p.n p.c) p.bs ∧ p.bs.length = p.n := by
      rcases open_ints Try.underlying25 Try.underlying5 Try.cellsU18 ht with ⟨hcs, _⟩ | ⟨y, l2, c2, zs, hcs, _, hl2, hm2, hz, _, hcell, hwz⟩
      · simp only [List.cons.injEq, and_true] at hcs
        obtain ⟨bs, hb, hl⟩ := IsRow.arg18 (w := W) (a := none) (len := 0) (cap := 0) (zs := []) (.inl ⟨rfl, rfl, rfl, rfl⟩)
        exact ⟨⟨none, 0, 0, bs⟩, hcs.symm, hb, hl⟩
      · simp only [List.cons.injEq, and_true] at hcs
        obtain ⟨bs, hb, hl⟩ := IsRow.arg18 (w := W) (zs := zs) (.inr ⟨_, rfl, hl2, hm2, by simpa using hz, hcell, hwz⟩)
        exact ⟨⟨some y, l2, c2, bs⟩, hcs.symm, hb, hl⟩
    refine ⟨p, hok, x0.block, x0.off, by rw [← hx0], ?_⟩
    rw [hx0, addAt] at hc
    rw [hc, ← hp]

theorem frm_of {fuel : Nat} {k0 k1 : Value} (h : DataW.trod enc Try.prog W 0 (fun _ => true) true fuel 23 [k0, k1] = some x) : ∃ f : Fm, [k0, k1] = fmE f ∧ (Lit.int .i64 f.k).wf = true ∧ f.s.size ≤ maxLen := by
  obtain ⟨xs, n', _, _, _, hlen, hf⟩ := DataW.trod_struct Try.underlying23 h
  match xs, hlen with
  | [y0, y1], _ =>
    have c2 := Try.cellsS18
    have c3 := Try.cellsI18
    have t0 : DataW.trod enc Try.prog W 0 (fun _ => true) true n' 3 [k0] = some y0 := by simpa [c2, c3] using hf 0 _ rfl
    have t1 : DataW.trod enc Try.prog W 0 (fun _ => true) true n' 9 [k1] = some y1 := by simpa [c2, c3] using hf 1 _ rfl
    obtain ⟨q0, e0, _, s0⟩ := DataW.trod_int Try.underlying3 t0
    obtain ⟨q1, e1, _, s1⟩ := DataW.trod_string Try.underlying9 t1
    simp only [List.cons.injEq, and_true] at e0 e1
    subst e0 e1
    exact ⟨⟨q0, q1⟩, rfl, s0, s1⟩

theorem frm_arg {fuel : Nat} {cs : Array Value} (hs : cs.size = Try.prog.cellsOf 23) (h : DataW.trod enc Try.prog W 0 (fun _ => true) true fuel 23 (Value.agg cs).cells.toList = some x) : ∃ f : Fm, cs = #[.int .i64 f.k, .string f.s] ∧ (Lit.int .i64 f.k).wf = true ∧ f.s.size ≤ maxLen := by
  rw [Try.cellsF18] at hs
  obtain ⟨l⟩ := cs
  simp only [List.size_toArray] at hs
  rcases l with _ | ⟨a, _ | ⟨b, _ | ⟨q, r⟩⟩⟩
  all_goals try (simp at hs; done)
  obtain ⟨f, h1, h2⟩ := frm_of (k0 := a) (k1 := b) h
  exact ⟨f, by rw [h1]; rfl, h2⟩

instance : Inhabited Fm := ⟨⟨0, ⟨#[]⟩⟩⟩

theorem frms_of {fuel : Nat} {a : Option Addr} {len cap : Nat} (h : DataW.trod enc Try.prog W 0 (fun _ => true) true fuel 36 [.slice a len cap] = some x) : ∃ ks : List Fm, SrcC 2 fmE W (fun j => j < W.heap.size) (.slice a len cap) ks := by
  obtain ⟨a', n', c', xs, e, h1, h2, h3, _⟩ := rows_of (enc := enc) fmE_ok Try.underlying36 Try.cellsF18 (fun _ => True) (fun m cs y hl ht => by
    match cs, hl with
    | [u0, u1], _ =>
      obtain ⟨f, e, _⟩ := frm_of ht
      exact ⟨f, e, trivial⟩) h
  injection e with e1 e2 e3
  subst e1 e2 e3
  exact ⟨xs, h1⟩

end

end Go.Proofs.Ytjjhjbmmhkcapaa
