/-
  Joined: RowsOf, WiAr.
-/
import Derived.Test.YtaefgnakdadgeaaRec
import Derived.Test.YtaefgnakdadgeaaArgs
import Derived.Deep.Slices
import Derived.Deep.Strs
import Derived.Test.YtaefgnakdadgeaaWiS

/-
  Slices of structs that came in.
-/
namespace Go.Proofs.Ytaefgnakdadgeaa
open Go.ChangeShapes Go.WideShapes Go.ChangeAt Go.RowKit Go.Deep

theorem add_zero12 (x : Addr) : x.add 0 = x := by unfold Addr.add; simp

section
variable {H : Type} {enc : TypeId × Value → H} {W : World} {x : DataW H × List MemPlace}

theorem rows_of {α : Type} [Inhabited α] {en : α → List Value} {k : Nat} (ok : EncOk en k) {t e : TypeId} (ht : Try.prog.underlying t = some (.slice e)) (hc : Try.prog.cellsOf e = k) (P : α → Prop)
    (hone : ∀ (m : Nat) (cs : List Value) (y : DataW H × List MemPlace), cs.length = k → DataW.trod enc Try.prog W 0 (fun _ => true) true m e cs = some y → ∃ r : α, cs = en r ∧ P r)
    {fuel : Nat} {v : Value} (h : DataW.trod enc Try.prog W 0 (fun _ => true) true fuel t [v] = some x) :
    ∃ a n c xs, v = .slice a n c ∧ SrcC k en W (fun j => j < W.heap.size) (.slice a n c) xs ∧ xs.length = n ∧ n ≤ 9223372036854775807 ∧ ∀ r ∈ xs, P r := by
  rcases open_slice ht h with ⟨hcs, _⟩ | ⟨x0, l, c, m, n, D, Pl, hcs, _, hl, hmx, hm, hxx, hx⟩
  · simp only [List.cons.injEq, and_true] at hcs
    exact ⟨none, 0, 0, [], hcs, ⟨none, 0, rfl, Nat.le_refl _, fun e => absurd rfl e⟩, rfl, by decide, fun r hr => (by cases hr)⟩
  · simp only [List.cons.injEq, and_true] at hcs
    simp only [if_true] at hm
    subst hm
    rw [hc] at hx
    have key : ∀ j, j < l → ∃ r : α, P r ∧ ∀ i u, (en r)[i]? = some u → W.cell? ((x0.add (j * k)).add i) = some u := fun j hj => by
      obtain ⟨cs, hcc, htr⟩ := hx j (by omega)
      obtain ⟨_, hlen, hcell⟩ := World.cells?_some hcc
      obtain ⟨r, hr, hp⟩ := hone _ cs _ hlen htr
      refine ⟨r, hp, fun i u e => ?_⟩
      rw [← hr] at e
      have hi : i < k := by rw [← hlen]; exact (List.getElem?_eq_some_iff.1 e).1
      rw [← e]
      exact hcell i hi
    obtain ⟨R, hR⟩ := choose_lt (α := α) (p := fun j r => P r ∧ ∀ i u, (en r)[i]? = some u → W.cell? ((x0.add (j * k)).add i) = some u) key
    refine ⟨some x0, l, m, (List.range l).map R, hcs, ⟨some x0, m, by simp, by simpa using hl, fun hne => ?_⟩, by simp, by unfold maxLen at hmx; omega, fun r hr => ?_⟩
    · have hl0 : 0 < l := by
        rcases Nat.eq_zero_or_pos l with e | e
        · subst e; simp at hne
        · exact e
      have hlr := ok.len (R 0)
      have hk0 := ok.pos
      have h00 := (hR 0 hl0).2 0 _ (List.getElem?_eq_getElem (by omega))
      rw [Nat.zero_mul, add_zero12, add_zero12] at h00
      obtain ⟨b, o, rfl⟩ : ∃ b o, x0 = ⟨b, o, none⟩ := ⟨x0.block, x0.off, spot_none h00⟩
      refine ⟨b, o, rfl, World.block_lt_of_cell? W _ h00, fun j hj i hi => ?_⟩
      have hjl : j < l := by simpa using hj
      have e1 : ((List.range l).map R)[j] = R j := by simp
      rw [e1]
      have hli := ok.len (R j)
      rw [List.getElem?_eq_getElem (by omega)]
      have h9 := (hR j hjl).2 i _ (List.getElem?_eq_getElem (by omega))
      rw [addAt, addAt, Nat.add_assoc] at h9
      exact h9
    · obtain ⟨j, hj, rfl⟩ := List.mem_map.1 hr
      exact (hR j (List.mem_range.1 hj)).1

end

end Go.Proofs.Ytaefgnakdadgeaa

/-
  Layer 19's laws: requests and responses that came in.
-/
namespace Go.Proofs.Ytaefgnakdadgeaa
open Go.ChangeShapes Go.WideShapes Go.ChangeAt Go.RowKit Go.Deep

theorem Try.cells19s : Try.prog.cellsOf 9 = 1 := by kernel_rfl
theorem Try.cells19i : Try.prog.cellsOf 3 = 1 := by kernel_rfl
theorem Try.cells19k : Try.prog.cellsOf 22 = 1 := by kernel_rfl
theorem Try.cells19e : Try.prog.cellsOf 27 = 1 := by kernel_rfl
theorem Try.cells19n : Try.prog.cellsOf 36 = 1 := by kernel_rfl
theorem Try.cells19u : Try.prog.cellsOf 38 = 2 := by kernel_rfl
theorem Try.cells19q : Try.prog.cellsOf 24 = 8 := by kernel_rfl
theorem Try.cells19r : Try.prog.cellsOf 40 = 8 := by kernel_rfl


section
variable {H : Type} {enc : TypeId × Value → H} {W : World} {x : DataW H × List MemPlace}

theorem req_of {fuel : Nat} {k0 k1 k2 k3 k4 k5 k6 k7 : Value} (h : DataW.trod enc Try.prog W 0 (fun _ => true) true fuel 24 [k0, k1, k2, k3, k4, k5, k6, k7] = some x) : ∃ q : Rq, [k0, k1, k2, k3, k4, k5, k6, k7] = (rqV q).toList := by
  obtain ⟨xs, n', _, _, _, hlen, hf⟩ := DataW.trod_struct Try.underlying24 h
  match xs, hlen with
  | [y0, y1, y2, y3, y4, y5, y6, y7], _ =>
    have c1 := Try.cells19k
    have c2 := Try.cells19s
    have c3 := Try.cells19i
    have t0 : DataW.trod enc Try.prog W 0 (fun _ => true) true n' 22 [k0] = some y0 := by simpa [c1, c2, c3] using hf 0 _ rfl
    have t1 : DataW.trod enc Try.prog W 0 (fun _ => true) true n' 3 [k1] = some y1 := by simpa [c1, c2, c3] using hf 1 _ rfl
    have t2 : DataW.trod enc Try.prog W 0 (fun _ => true) true n' 9 [k2] = some y2 := by simpa [c1, c2, c3] using hf 2 _ rfl
    have t3 : DataW.trod enc Try.prog W 0 (fun _ => true) true n' 9 [k3] = some y3 := by simpa [c1, c2, c3] using hf 3 _ rfl
    have t4 : DataW.trod enc Try.prog W 0 (fun _ => true) true n' 9 [k4] = some y4 := by simpa [c1, c2, c3] using hf 4 _ rfl
    have t5 : DataW.trod enc Try.prog W 0 (fun _ => true) true n' 3 [k5] = some y5 := by simpa [c1, c2, c3] using hf 5 _ rfl
    have t6 : DataW.trod enc Try.prog W 0 (fun _ => true) true n' 3 [k6] = some y6 := by simpa [c1, c2, c3] using hf 6 _ rfl
    have t7 : DataW.trod enc Try.prog W 0 (fun _ => true) true n' 9 [k7] = some y7 := by simpa [c1, c2, c3] using hf 7 _ rfl
    obtain ⟨q0, e0, _, _⟩ := DataW.trod_int Try.underlying22 t0
    obtain ⟨q1, e1, _, _⟩ := DataW.trod_int Try.underlying3 t1
    obtain ⟨q2, e2, _, _⟩ := DataW.trod_string Try.underlying9 t2
    obtain ⟨q3, e3, _, _⟩ := DataW.trod_string Try.underlying9 t3
    obtain ⟨q4, e4, _, _⟩ := DataW.trod_string Try.underlying9 t4
    obtain ⟨q5, e5, _, _⟩ := DataW.trod_int Try.underlying3 t5
    obtain ⟨q6, e6, _, _⟩ := DataW.trod_int Try.underlying3 t6
    obtain ⟨q7, e7, _, _⟩ := DataW.trod_string Try.underlying9 t7
    simp only [List.cons.injEq, and_true] at e0 e1 e2 e3 e4 e5 e6 e7
    subst e0 e1 e2 e3 e4 e5 e6 e7
    exact ⟨⟨q0, q1, q2, q3, q4, q5, q6, q7⟩, rfl⟩

theorem req_arg {fuel : Nat} {cs : Array Value} (hs : cs.size = Try.prog.cellsOf 24) (h : DataW.trod enc Try.prog W 0 (fun _ => true) true fuel 24 (Value.agg cs).cells.toList = some x) : ∃ q : Rq, cs = rqV q := by
  rw [Try.cells19q] at hs
  obtain ⟨l⟩ := cs
  simp only [List.size_toArray] at hs
  match l, hs with
  | [k0, k1, k2, k3, k4, k5, k6, k7], _ =>
    obtain ⟨q, e⟩ := req_of (k0 := k0) (k1 := k1) (k2 := k2) (k3 := k3) (k4 := k4) (k5 := k5) (k6 := k6) (k7 := k7) h
    exact ⟨q, by rw [e]⟩

theorem names_of {fuel : Nat} {v : Value} (h : DataW.trod enc Try.prog W 0 (fun _ => true) true fuel 36 [v] = some x) : ∃ a n c L, v = .slice a n c ∧ SrcC 1 nsE W (fun j => j < W.heap.size) (.slice a n c) L ∧ n ≤ 9223372036854775807 := by
  obtain ⟨a', n', c', xs, e, h1, h2, h3, _⟩ := rows_of (enc := enc) nsE_ok Try.underlying36 Try.cells19s (fun _ => True) (fun m cs y hl ht => by
    match cs, hl with
    | [u0], _ =>
      obtain ⟨q, e, _, _⟩ := DataW.trod_string Try.underlying9 ht
      simp only [List.cons.injEq, and_true] at e
      subst e
      exact ⟨q, rfl, trivial⟩) h
  exact ⟨a', n', c', xs, e, h1, h3⟩

theorem use19_of {fuel : Nat} {k0 k1 : Value} (h : DataW.trod enc Try.prog W 0 (fun _ => true) true fuel 38 [k0, k1] = some x) : ∃ (b e : Int), k0 = .int .i64 b ∧ k1 = .int .i64 e := by
  obtain ⟨xs, n', _, _, _, hlen, hf⟩ := DataW.trod_struct Try.underlying38 h
  match xs, hlen with
  | [y0, y1], _ =>
    have c3 := Try.cells19i
    have t0 : DataW.trod enc Try.prog W 0 (fun _ => true) true n' 3 [k0] = some y0 := by simpa [c3] using hf 0 _ rfl
    have t1 : DataW.trod enc Try.prog W 0 (fun _ => true) true n' 3 [k1] = some y1 := by simpa [c3] using hf 1 _ rfl
    obtain ⟨q0, e0, _, _⟩ := DataW.trod_int Try.underlying3 t0
    obtain ⟨q1, e1, _, _⟩ := DataW.trod_int Try.underlying3 t1
    simp only [List.cons.injEq, and_true] at e0 e1
    exact ⟨q0, q1, e0, e1⟩

theorem res_of {fuel : Nat} {k0 k1 k2 k3 k4 k5 k6 k7 : Value} (h : DataW.trod enc Try.prog W 0 (fun _ => true) true fuel 40 [k0, k1, k2, k3, k4, k5, k6, k7] = some x) : ∃ (r : Rs) (a : Option Addr) (n c : Nat) (L : List ByteArray), [k0, k1, k2, k3, k4, k5, k6, k7] = (rsV r (.slice a n c)).toList ∧ SrcC 1 nsE W (fun j => j < W.heap.size) (.slice a n c) L ∧ n ≤ 9223372036854775807 ∧ r.d.size ≤ maxLen := by
  obtain ⟨xs, n', _, _, _, hlen, hf⟩ := DataW.trod_struct Try.underlying40 h
  match xs, hlen with
  | [y0, y1, y2, y3, y4, y5, y6], _ =>
    have c1 := Try.cells19e
    have c2 := Try.cells19s
    have c3 := Try.cells19i
    have c4 := Try.cells19n
    have c5 := Try.cells19u
    have t0 : DataW.trod enc Try.prog W 0 (fun _ => true) true n' 27 [k0] = some y0 := by simpa [c1, c2, c3, c4, c5] using hf 0 _ rfl
    have t1 : DataW.trod enc Try.prog W 0 (fun _ => true) true n' 3 [k1] = some y1 := by simpa [c1, c2, c3, c4, c5] using hf 1 _ rfl
    have t2 : DataW.trod enc Try.prog W 0 (fun _ => true) true n' 3 [k2] = some y2 := by simpa [c1, c2, c3, c4, c5] using hf 2 _ rfl
    have t3 : DataW.trod enc Try.prog W 0 (fun _ => true) true n' 3 [k3] = some y3 := by simpa [c1, c2, c3, c4, c5] using hf 3 _ rfl
    have t4 : DataW.trod enc Try.prog W 0 (fun _ => true) true n' 9 [k4] = some y4 := by simpa [c1, c2, c3, c4, c5] using hf 4 _ rfl
    have t5 : DataW.trod enc Try.prog W 0 (fun _ => true) true n' 36 [k5] = some y5 := by simpa [c1, c2, c3, c4, c5] using hf 5 _ rfl
    have t6 : DataW.trod enc Try.prog W 0 (fun _ => true) true n' 38 [k6, k7] = some y6 := by simpa [c1, c2, c3, c4, c5] using hf 6 _ rfl
    obtain ⟨q0, e0, _, _⟩ := DataW.trod_int Try.underlying27 t0
    obtain ⟨q1, e1, _, _⟩ := DataW.trod_int Try.underlying3 t1
    obtain ⟨q2, e2, _, _⟩ := DataW.trod_int Try.underlying3 t2
    obtain ⟨q3, e3, _, _⟩ := DataW.trod_int Try.underlying3 t3
    obtain ⟨q4, e4, _, s4⟩ := DataW.trod_string Try.underlying9 t4
    obtain ⟨a, n, c, L, e5, hL, hn⟩ := names_of t5
    obtain ⟨q6, q7, e6, e7⟩ := use19_of t6
    simp only [List.cons.injEq, and_true] at e0 e1 e2 e3 e4
    subst e0 e1 e2 e3 e4 e5 e6 e7
    exact ⟨⟨q0, q1, q2, q3, q4, q6, q7⟩, a, n, c, L, rfl, hL, hn, s4⟩

theorem res_arg {fuel : Nat} {cs : Array Value} (hs : cs.size = Try.prog.cellsOf 40) (h : DataW.trod enc Try.prog W 0 (fun _ => true) true fuel 40 (Value.agg cs).cells.toList = some x) : ∃ (r : Rs) (a : Option Addr) (n c : Nat) (L : List ByteArray), cs = rsV r (.slice a n c) ∧ SrcC 1 nsE W (fun j => j < W.heap.size) (.slice a n c) L ∧ n ≤ 9223372036854775807 ∧ r.d.size ≤ maxLen := by
  rw [Try.cells19r] at hs
  obtain ⟨l⟩ := cs
  simp only [List.size_toArray] at hs
  match l, hs with
  | [k0, k1, k2, k3, k4, k5, k6, k7], _ =>
    obtain ⟨r, a, n, c, L, e, hL⟩ := res_of (k0 := k0) (k1 := k1) (k2 := k2) (k3 := k3) (k4 := k4) (k5 := k5) (k6 := k6) (k7 := k7) h
    exact ⟨r, a, n, c, L, by rw [e], hL⟩

end

end Go.Proofs.Ytaefgnakdadgeaa
