/-
  Layer 13's law: keys, boxes, commits and scripts that came in.
-/
import Derived.Test.YtlfibbghkdbomaaVaL
namespace Go.Proofs.Ytlfibbghkdbomaa
open Go.ChangeShapes Go.WideShapes Go.ChangeAt Go.RowKit Go.Deep Go.Maps

theorem Try.cells13b : Try.prog.cellsOf 26 = 2 := by kernel_rfl
theorem Try.cells13cs : Try.prog.cellsOf 27 = 1 := by kernel_rfl
theorem Try.cells13o : Try.prog.cellsOf 29 = 8 := by kernel_rfl

section
variable {H : Type} {enc : TypeId × Value → H} {W : World} {x : DataW H × List MemPlace}

theorem rows_of {α : Type} [Inhabited α] {en : α → List Value} {k : Nat} (ok : EncOk en k) {t e : TypeId} (ht : Try.prog.underlying t = some (.slice e)) (hc : Try.prog.cellsOf e = k) (P : α → Prop)
    (hone : ∀ (m : Nat) (cs : List Value) (y : DataW H × List MemPlace), cs.length = k → DataW.trod enc Try.prog W 0 (fun _ => true) true m e cs = some y → ∃ r : α, cs = en r ∧ P r)
    {fuel : Nat} {v : Value} (h : DataW.trod enc Try.prog W 0 (fun _ => true) true fuel t [v] = some x) :
    ∃ a n c xs, v = .slice a n c ∧ SrcC k en W (fun j => j < W.heap.size) (.slice a n c) xs ∧ xs.length = n ∧ n ≤ 9223372036854775807 ∧ ∀ r ∈ xs, P r := by
  rcases open_slice ht h with ⟨hcs, _⟩ | ⟨x0, l, c, m, n, D, Pl, hcs, _, hl, hmx, hm, hxx, hx⟩
  · simp only [List.cons.injEq, and_true] at hcs
    exact ⟨none, 0, 0, [], hcs, ⟨none, 0, rfl, Nat.le_refl _, fun e => absurd rfl e⟩, rfl, by decide, fun r hr => (by cases hr)⟩
  · simp only [List.cons.injEq, and_true] at hcs
    simp only [if_true] at hm
    subst hm
    rw [hc] at hx
    have key : ∀ j, j < l → ∃ r : α, P r ∧ ∀ i u, (en r)[i]? = some u → W.cell? ((x0.add (j * k)).add i) = some u := fun j hj => by
      obtain ⟨cs, hcc, htr⟩ := hx j (by omega)
      obtain ⟨_, hlen, hcell⟩ := World.cells?_some hcc
      obtain ⟨r, hr, hp⟩ := hone _ cs _ hlen htr
      refine ⟨r, hp, fun i u e => ?_⟩
      rw [← hr] at e
      have hi : i < k := by rw [← hlen]; exact (List.getElem?_eq_some_iff.1 e).1
      rw [← e]
      exact hcell i hi
    obtain ⟨R, hR⟩ := choose_lt (α := α) (p := fun j r => P r ∧ ∀ i u, (en r)[i]? = some u → W.cell? ((x0.add (j * k)).add i) = some u) key
    refine ⟨some x0, l, m, (List.range l).map R, hcs, ⟨some x0, m, by simp, by simpa using hl, fun hne => ?_⟩, by simp, by unfold maxLen at hmx; omega, fun r hr => ?_⟩
    · have hl0 : 0 < l := by
        rcases Nat.eq_zero_or_pos l with e | e
        · subst e; simp at hne
        · exact e
      have hlr := ok.len (R 0)
      have hk0 := ok.pos
      have h00 := (hR 0 hl0).2 0 _ (List.getElem?_eq_getElem (by omega))
      rw [Nat.zero_mul, add_zero12, add_zero12] at h00
      obtain ⟨b, o, rfl⟩ : ∃ b o, x0 = ⟨b, o, none⟩ := ⟨x0.block, x0.off, spot_none h00⟩
      refine ⟨b, o, rfl, World.block_lt_of_cell? W _ h00, fun j hj i hi => ?_⟩
      have hjl : j < l := by simpa using hj
      have e1 : ((List.range l).map R)[j] = R j := by simp
      rw [e1]
      have hli := ok.len (R j)
      rw [List.getElem?_eq_getElem (by omega)]
      have h9 := (hR j hjl).2 i _ (List.getElem?_eq_getElem (by omega))
      rw [addAt, addAt, Nat.add_assoc] at h9
      exact h9
    · obtain ⟨j, hj, rfl⟩ := List.mem_map.1 hr
      exact (hR j (List.mem_range.1 hj)).1

def keE (k : Ke) : List Value := [.string k.1.tn, .string k.1.ar, .string k.2.s]
theorem keE_ok : EncOk keE 3 := ⟨fun _ => rfl, fun x u hu => by simp [keE] at hu; rcases hu with rfl | rfl | rfl <;> rfl, by decide⟩
def bxC (b : Bx) : List Value := [.string b.tn, .string b.ar]
theorem bxC_ok : EncOk bxC 2 := ⟨fun _ => rfl, fun x u hu => by simp [bxC] at hu; rcases hu with rfl | rfl <;> rfl, by decide⟩

theorem box_of {fuel : Nat} {k0 k1 : Value} (h : DataW.trod enc Try.prog W 0 (fun _ => true) true fuel 26 [k0, k1] = some x) : ∃ b : Bx, k0 = .string b.tn ∧ k1 = .string b.ar := by
  obtain ⟨xs, n', _, _, _, hlen, hf⟩ := DataW.trod_struct Try.underlying26 h
  match xs, hlen with
  | [y0, y1], _ =>
    have c2 := Try.cells12s
    have t0 : DataW.trod enc Try.prog W 0 (fun _ => true) true n' 9 [k0] = some y0 := by simpa [c2] using hf 0 _ rfl
    have t1 : DataW.trod enc Try.prog W 0 (fun _ => true) true n' 9 [k1] = some y1 := by simpa [c2] using hf 1 _ rfl
    obtain ⟨q0, e0, _, s0⟩ := DataW.trod_string Try.underlying9 t0
    obtain ⟨q1, e1, _, s1⟩ := DataW.trod_string Try.underlying9 t1
    simp only [List.cons.injEq, and_true] at e0 e1
    exact ⟨⟨q0, q1, s0, s1⟩, e0, e1⟩

theorem keys_of {fuel : Nat} {a : Option Addr} {len cap : Nat} (h : DataW.trod enc Try.prog W 0 (fun _ => true) true fuel 33 [.slice a len cap] = some x) : ∃ ks : List Ke, SrcC 3 keE W (fun j => j < W.heap.size) (.slice a len cap) ks ∧ ks.length = len ∧ len ≤ 9223372036854775807 := by
  obtain ⟨a', n', c', xs, e, h1, h2, h3, _⟩ := rows_of (enc := enc) keE_ok Try.underlying33 Try.cells12k (fun _ => True) (fun m cs y hl ht => by
    match cs, hl with
    | [u0, u1, u2], _ =>
      obtain ⟨b, n, rfl, rfl, rfl⟩ := key_of ht
      exact ⟨(b, n), rfl, trivial⟩) h
  cases e
  exact ⟨xs, h1, h2, h3⟩

theorem boxes_of {fuel : Nat} {a : Option Addr} {len cap : Nat} (h : DataW.trod enc Try.prog W 0 (fun _ => true) true fuel 34 [.slice a len cap] = some x) : ∃ ks : List Bx, SrcC 2 bxC W (fun j => j < W.heap.size) (.slice a len cap) ks ∧ ks.length = len ∧ len ≤ 9223372036854775807 := by
  obtain ⟨a', n', c', xs, e, h1, h2, h3, _⟩ := rows_of (enc := enc) bxC_ok Try.underlying34 Try.cells13b (fun _ => True) (fun m cs y hl ht => by
    match cs, hl with
    | [u0, u1], _ =>
      obtain ⟨b, rfl, rfl⟩ := box_of ht
      exact ⟨b, rfl, trivial⟩) h
  cases e
  exact ⟨xs, h1, h2, h3⟩

instance : Inhabited Cm := ⟨⟨0, none, 0, 0, []⟩⟩

theorem commits_of {fuel : Nat} {v : Value} (h : DataW.trod enc Try.prog W 0 (fun _ => true) true fuel 27 [v] = some x) : ∃ a n c cs, v = .slice a n c ∧ Cms W (fun j => j < W.heap.size) (.slice a n c) cs ∧ cs.length = n := by
  obtain ⟨a', n', c', xs, e, h1, h2, h3, h4⟩ := rows_of (enc := enc) cmC_ok Try.underlying27 Try.cells12c (fun c => CmOk W (fun j => j < W.heap.size) c) (fun m cs y hl ht => by
    match cs, hl with
    | [u0, u1], _ =>
      obtain ⟨c, rfl, rfl, hc⟩ := commit_of ht
      exact ⟨c, rfl, hc⟩) h
  exact ⟨a', n', c', xs, e, ⟨h1, h4, by omega⟩, h2⟩

end

/-- A call of a script. -/
structure Ov where
  k : Int
  ky : Ke
  bx : Bx
  d : ByteArray
  ca : Option Addr
  cn : Nat
  cc : Nat
  cs : List Cm

def ovC (o : Ov) : List Value := [.int .i64 o.k, .string o.ky.1.tn, .string o.ky.1.ar, .string o.ky.2.s, .string o.bx.tn, .string o.bx.ar, .string o.d, .slice o.ca o.cn o.cc]
theorem ovC_ok : EncOk ovC 8 := ⟨fun _ => rfl, fun x u hu => by simp [ovC] at hu; rcases hu with rfl | rfl | rfl | rfl | rfl | rfl | rfl | rfl <;> rfl, by decide⟩

instance : Inhabited Ov := ⟨⟨0, default, default, ⟨#[]⟩, none, 0, 0, []⟩⟩

structure OvOk (W : World) (I : Nat → Prop) (o : Ov) : Prop where
  cms : Cms W I (.slice o.ca o.cn o.cc) o.cs
  len : o.cs.length = o.cn
  dz : o.d.size ≤ maxLen

theorem OvOk.kept {W W' : World} {I F : Nat → Prop} {o : Ov} (h : OvOk W I o) (hk : Kept F W W') (hF : ∀ k, I k → k < W.heap.size → ¬ F k) : OvOk W' I o := ⟨h.cms.kept hk hF, h.len, h.dz⟩

section
variable {H : Type} {enc : TypeId × Value → H} {W : World} {x : DataW H × List MemPlace}

theorem ov_of {fuel : Nat} {k0 k1 k2 k3 k4 k5 k6 k7 : Value} (h : DataW.trod enc Try.prog W 0 (fun _ => true) true fuel 29 [k0, k1, k2, k3, k4, k5, k6, k7] = some x) : ∃ o : Ov, [k0, k1, k2, k3, k4, k5, k6, k7] = ovC o ∧ OvOk W (fun k => k < W.heap.size) o := by
  obtain ⟨xs, n', _, _, _, hlen, hf⟩ := DataW.trod_struct Try.underlying29 h
  match xs, hlen with
  | [y0, y1, y2, y3, y4], _ =>
    have c1 := Try.cells12i
    have c2 := Try.cells12k
    have c3 := Try.cells13b
    have c4 := Try.cells12s
    have c5 := Try.cells13cs
    have t0 : DataW.trod enc Try.prog W 0 (fun _ => true) true n' 3 [k0] = some y0 := by simpa [c1, c2, c3, c4, c5] using hf 0 _ rfl
    have t1 : DataW.trod enc Try.prog W 0 (fun _ => true) true n' 24 [k1, k2, k3] = some y1 := by simpa [c1, c2, c3, c4, c5] using hf 1 _ rfl
    have t2 : DataW.trod enc Try.prog W 0 (fun _ => true) true n' 26 [k4, k5] = some y2 := by simpa [c1, c2, c3, c4, c5] using hf 2 _ rfl
    have t3 : DataW.trod enc Try.prog W 0 (fun _ => true) true n' 9 [k6] = some y3 := by simpa [c1, c2, c3, c4, c5] using hf 3 _ rfl
    have t4 : DataW.trod enc Try.prog W 0 (fun _ => true) true n' 27 [k7] = some y4 := by simpa [c1, c2, c3, c4, c5] using hf 4 _ rfl
    obtain ⟨q0, e0, _, w0⟩ := DataW.trod_int Try.underlying3 t0
    obtain ⟨b, n, e1, e2, e3⟩ := key_of t1
    obtain ⟨b', e4, e5⟩ := box_of t2
    obtain ⟨q6, e6, _, s6⟩ := DataW.trod_string Try.underlying9 t3
    obtain ⟨a, m, c, cs, e7, h7, h8⟩ := commits_of t4
    simp only [List.cons.injEq, and_true] at e0 e6
    subst e0 e1 e2 e3 e4 e5 e6 e7
    exact ⟨⟨q0, (b, n), b', q6, a, m, c, cs⟩, rfl, h7, h8, s6⟩

theorem ovs_of {fuel : Nat} {a : Option Addr} {len cap : Nat} (h : DataW.trod enc Try.prog W 0 (fun _ => true) true fuel 22 [.slice a len cap] = some x) : ∃ os : List Ov, SrcC 8 ovC W (fun j => j < W.heap.size) (.slice a len cap) os ∧ os.length = len ∧ len ≤ 9223372036854775807 ∧ ∀ o ∈ os, OvOk W (fun j => j < W.heap.size) o := by
  obtain ⟨a', n', c', xs, e, h1, h2, h3, h4⟩ := rows_of (enc := enc) ovC_ok Try.underlying22 Try.cells13o (fun o => OvOk W (fun j => j < W.heap.size) o) (fun m cs y hl ht => by
    match cs, hl with
    | [u0, u1, u2, u3, u4, u5, u6, u7], _ =>
      obtain ⟨o, ho, hc⟩ := ov_of ht
      exact ⟨o, ho, hc⟩) h
  cases e
  exact ⟨xs, h1, h2, h3, h4⟩

end

end Go.Proofs.Ytlfibbghkdbomaa
