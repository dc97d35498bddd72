/-
  Of the proof: parts ChTa.
-/
import Derived.Deep.Slices
import Derived.Deep.Strs
import Derived.Test.YthignkloecfcbaaJ5
import Derived.Test.YthignkloecfcbaaJ13

/-
  Layers 12 and 13: commits and keys that came in.
-/
namespace Go.Proofs.Ythignkloecfcbaa
open Go.ChangeShapes Go.WideShapes Go.ChangeAt Go.RowKit Go.Deep Go.Maps

/-- A commit that came in. -/
structure Cm where
  t : Int
  a : Option Addr
  n : Nat
  c : Nat
  ws : List Wr

/-- It can be read. -/
structure CmOk (W : World) (I : Nat → Prop) (x : Cm) : Prop where
  src : SrcC 5 wrE W I (.slice x.a x.n x.c) x.ws
  len : x.ws.length = x.n
  num : -9223372036854775808 ≤ x.t ∧ x.t ≤ 9223372036854775807
  big : x.ws.length ≤ 9223372036854775807

theorem CmOk.kept {W W' : World} {I F : Nat → Prop} {x : Cm} (h : CmOk W I x) (hk : Kept F W W') (hF : ∀ k, I k → k < W.heap.size → ¬ F k) : CmOk W' I x := ⟨h.src.kept wrE_ok hk hF, h.len, h.num, h.big⟩

theorem wf12 {n : Int} (h : (Lit.int .i64 n).wf = true) : -9223372036854775808 ≤ n ∧ n ≤ 9223372036854775807 := by
  simp [Lit.wf, IntKind.min, IntKind.max, IntKind.signed, IntKind.bits] at h
  exact h

theorem Try.cells12s : Try.prog.cellsOf 9 = 1 := by kernel_rfl
theorem Try.cells12i : Try.prog.cellsOf 3 = 1 := by kernel_rfl
theorem Try.cells12b : Try.prog.cellsOf 4 = 1 := by kernel_rfl
theorem Try.cells12k : Try.prog.cellsOf 36 = 3 := by kernel_rfl
theorem Try.cells12w : Try.prog.cellsOf 49 = 5 := by kernel_rfl
theorem Try.cells12ws : Try.prog.cellsOf 32 = 1 := by kernel_rfl
theorem Try.cells12c : Try.prog.cellsOf 34 = 2 := by kernel_rfl

section
variable {H : Type} {enc : TypeId × Value → H} {W : World} {fuel : Nat} {x : DataW H × List MemPlace}

theorem key_of {k0 k1 k2 : Value} (h : DataW.trod enc Try.prog W 0 (fun _ => true) true fuel 36 [k0, k1, k2] = some x) : ∃ (b : Bx) (n : Nm), k0 = .string b.tn ∧ k1 = .string b.ar ∧ k2 = .string n.s := by
  obtain ⟨xs, n', _, _, _, hlen, hf⟩ := DataW.trod_struct Try.underlying36 h
  match xs, hlen with
  | [y0, y1, y2], _ =>
    have c2 := Try.cells12s
    have t0 : DataW.trod enc Try.prog W 0 (fun _ => true) true n' 9 [k0] = some y0 := by simpa [c2] using hf 0 _ rfl
    have t1 : DataW.trod enc Try.prog W 0 (fun _ => true) true n' 9 [k1] = some y1 := by simpa [c2] using hf 1 _ rfl
    have t2 : DataW.trod enc Try.prog W 0 (fun _ => true) true n' 9 [k2] = some y2 := by simpa [c2] using hf 2 _ rfl
    obtain ⟨q0, e0, _, s0⟩ := DataW.trod_string Try.underlying9 t0
    obtain ⟨q1, e1, _, s1⟩ := DataW.trod_string Try.underlying9 t1
    obtain ⟨q2, e2, _, s2⟩ := DataW.trod_string Try.underlying9 t2
    simp only [List.cons.injEq, and_true] at e0 e1 e2
    exact ⟨⟨q0, q1, s0, s1⟩, ⟨q2, s2⟩, e0, e1, e2⟩

theorem write_of {k0 k1 k2 k3 k4 : Value} (h : DataW.trod enc Try.prog W 0 (fun _ => true) true fuel 49 [k0, k1, k2, k3, k4] = some x) : ∃ r : Wr, [k0, k1, k2, k3, k4] = wrE r := by
  obtain ⟨xs, n', _, _, _, hlen, hf⟩ := DataW.trod_struct Try.underlying49 h
  match xs, hlen with
  | [y0, y1, y2], _ =>
    have c2 := Try.cells12s
    have c3 := Try.cells12k
    have c4 := Try.cells12b
    have t0 : DataW.trod enc Try.prog W 0 (fun _ => true) true n' 36 [k0, k1, k2] = some y0 := by simpa [c2, c3, c4] using hf 0 _ rfl
    have t1 : DataW.trod enc Try.prog W 0 (fun _ => true) true n' 4 [k3] = some y1 := by simpa [c2, c3, c4] using hf 1 _ rfl
    have t2 : DataW.trod enc Try.prog W 0 (fun _ => true) true n' 9 [k4] = some y2 := by simpa [c2, c3, c4] using hf 2 _ rfl
    obtain ⟨b, n, e0, e1, e2⟩ := key_of t0
    obtain ⟨q3, e3, _⟩ := DataW.trod_bool Try.underlying4 t1
    obtain ⟨q4, e4, _, s4⟩ := DataW.trod_string Try.underlying9 t2
    simp only [List.cons.injEq, and_true] at e3 e4
    subst e0 e1 e2 e3 e4
    exact ⟨⟨b, n, q3, q4, s4⟩, rfl⟩

theorem five12 {w : World} {base : Nat} {x : Addr} {cs : List Value} (h : w.cells? base x 5 = some cs) : ∃ u0 u1 u2 u3 u4, cs = [u0, u1, u2, u3, u4] ∧ ∀ i u, cs[i]? = some u → w.cell? (x.add i) = some u := by
  obtain ⟨_, hl, hc⟩ := World.cells?_some h
  have h2 : ∀ i u, cs[i]? = some u → w.cell? (x.add i) = some u := fun i u e => by
    have hi : i < 5 := by rw [← hl]; exact (List.getElem?_eq_some_iff.1 e).1
    rw [← e]
    exact hc i hi
  match cs, hl with
  | [u0, u1, u2, u3, u4], _ => exact ⟨u0, u1, u2, u3, u4, rfl, h2⟩

theorem add_zero12 (x : Addr) : x.add 0 = x := by unfold Addr.add; simp

theorem writes_of {v : Value} (h : DataW.trod enc Try.prog W 0 (fun _ => true) true fuel 32 [v] = some x) : ∃ a n c ws, v = .slice a n c ∧ SrcC 5 wrE W (fun k => k < W.heap.size) (.slice a n c) ws ∧ ws.length = n ∧ n ≤ 9223372036854775807 := by
  rcases open_slice Try.underlying32 h with ⟨hcs, _⟩ | ⟨x0, l, c, m, n, D, Pl, hcs, _, hl, hmx, hm, hxx, hx⟩
  · simp only [List.cons.injEq, and_true] at hcs
    exact ⟨none, 0, 0, [], hcs, ⟨none, 0, rfl, Nat.le_refl _, fun e => absurd rfl e⟩, rfl, by decide⟩
  · simp only [List.cons.injEq, and_true] at hcs
    simp only [if_true] at hm
    subst hm
    rw [Try.cells12w] at hx
    have key : ∀ j, j < l → ∃ r : Wr, ∀ i u, (wrE r)[i]? = some u → W.cell? ((x0.add (j * 5)).add i) = some u := fun j hj => by
      obtain ⟨cs, hc, ht⟩ := hx j (by omega)
      obtain ⟨u0, u1, u2, u3, u4, rfl, hcell⟩ := five12 hc
      obtain ⟨r, hr⟩ := write_of ht
      exact ⟨r, fun i u e => hcell i u (by rw [hr]; exact e)⟩
    obtain ⟨R, hR⟩ := choose_lt (α := Wr) (p := fun j r => ∀ i u, (wrE r)[i]? = some u → W.cell? ((x0.add (j * 5)).add i) = some u) key
    refine ⟨some x0, l, m, (List.range l).map R, hcs, ⟨some x0, m, by simp, by simpa using hl, fun hne => ?_⟩, by simp, by unfold maxLen at hmx; omega⟩
    have hl0 : 0 < l := by
      rcases Nat.eq_zero_or_pos l with e | e
      · subst e; simp at hne
      · exact e
    have h00 := hR 0 hl0 0 (.string (R 0).b.tn) rfl
    rw [Nat.zero_mul, add_zero12, add_zero12] at h00
    obtain ⟨b, o, rfl⟩ : ∃ b o, x0 = ⟨b, o, none⟩ := ⟨x0.block, x0.off, spot_none h00⟩
    refine ⟨b, o, rfl, World.block_lt_of_cell? W _ h00, fun j hj i hi => ?_⟩
    have hjl : j < l := by simpa using hj
    have e1 : ((List.range l).map R)[j] = R j := by simp
    rw [e1]
    have hli := wrE_ok.len (R j)
    rw [List.getElem?_eq_getElem (by omega)]
    have h9 := hR j hjl i _ (List.getElem?_eq_getElem (by omega))
    rw [addAt, addAt, Nat.add_assoc] at h9
    exact h9

theorem commit_of {k0 k1 : Value} (h : DataW.trod enc Try.prog W 0 (fun _ => true) true fuel 34 [k0, k1] = some x) : ∃ c : Cm, k0 = .int .i64 c.t ∧ k1 = .slice c.a c.n c.c ∧ CmOk W (fun k => k < W.heap.size) c := by
  obtain ⟨xs, n', _, _, _, hlen, hf⟩ := DataW.trod_struct Try.underlying34 h
  match xs, hlen with
  | [y0, y1], _ =>
    have c1 := Try.cells12i
    have c2 := Try.cells12ws
    have t0 : DataW.trod enc Try.prog W 0 (fun _ => true) true n' 3 [k0] = some y0 := by simpa [c1, c2] using hf 0 _ rfl
    have t1 : DataW.trod enc Try.prog W 0 (fun _ => true) true n' 32 [k1] = some y1 := by simpa [c1, c2] using hf 1 _ rfl
    obtain ⟨q0, e0, _, w0⟩ := DataW.trod_int Try.underlying3 t0
    obtain ⟨a, n, c, ws, e1, h1, h2, h3⟩ := writes_of t1
    simp only [List.cons.injEq, and_true] at e0
    exact ⟨⟨q0, a, n, c, ws⟩, e0, e1, h1, h2, wf12 w0, by show ws.length ≤ _; omega⟩

end

def cmC (x : Cm) : List Value := [.int .i64 x.t, .slice x.a x.n x.c]
def kyC (b : Bx) (n : Nm) : List Value := [.string b.tn, .string b.ar, .string n.s]

section
variable {H : Type} {enc : TypeId × Value → H} {W : World} {fuel : Nat} {x : DataW H × List MemPlace} {cs : Array Value}

theorem commit_arg (hs : cs.size = Try.prog.cellsOf 34) (h : DataW.trod enc Try.prog W 0 (fun _ => true) true fuel 34 (Value.agg cs).cells.toList = some x) : ∃ c : Cm, cs = (cmC c).toArray ∧ CmOk W (fun k => k < W.heap.size) c := by
  rw [Try.cells12c] at hs
  obtain ⟨l⟩ := cs
  simp only [List.size_toArray] at hs
  rcases l with _ | ⟨a, _ | ⟨b, _ | ⟨q, r⟩⟩⟩
  all_goals try (simp at hs; done)
  obtain ⟨c, h1, h2, h3⟩ := commit_of (k0 := a) (k1 := b) h
  exact ⟨c, by rw [h1, h2]; rfl, h3⟩

theorem key_arg (hs : cs.size = Try.prog.cellsOf 36) (h : DataW.trod enc Try.prog W 0 (fun _ => true) true fuel 36 (Value.agg cs).cells.toList = some x) : ∃ (b : Bx) (n : Nm), cs = (kyC b n).toArray := by
  rw [Try.cells12k] at hs
  obtain ⟨l⟩ := cs
  simp only [List.size_toArray] at hs
  rcases l with _ | ⟨a, _ | ⟨b, _ | ⟨c, _ | ⟨q, r⟩⟩⟩⟩
  all_goals try (simp at hs; done)
  obtain ⟨bb, n, h1, h2, h3⟩ := key_of (k0 := a) (k1 := b) (k2 := c) h
  exact ⟨bb, n, by rw [h1, h2, h3]; rfl⟩

end

end Go.Proofs.Ythignkloecfcbaa
