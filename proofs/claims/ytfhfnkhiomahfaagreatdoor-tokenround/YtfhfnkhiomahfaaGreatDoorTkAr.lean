/-
  Layer 16's laws: claims, tenants and scripts that came in.
-/
import Derived.Test.YtfhfnkhiomahfaaGreatDoorTkI
import Derived.Test.YtfhfnkhiomahfaaGreatDoorRowsOf
namespace Go.Proofs.YtfhfnkhiomahfaaGreatDoor
open Go.ChangeShapes Go.WideShapes Go.ChangeAt Go.RowKit Go.Deep Go.Maps

theorem Tryz.cells16s : Tryz.prog.cellsOf 9 = 1 := by kernel_rfl
theorem Tryz.cells16i : Tryz.prog.cellsOf 3 = 1 := by kernel_rfl
theorem Tryz.cells16c : Tryz.prog.cellsOf 23 = 3 := by kernel_rfl
theorem Tryz.cells16t : Tryz.prog.cellsOf 51 = 4 := by kernel_rfl
theorem Tryz.cells16o : Tryz.prog.cellsOf 43 = 5 := by kernel_rfl

theorem wf16 {n : Int} (h : (Lit.int .i64 n).wf = true) : -9223372036854775808 ≤ n ∧ n ≤ 9223372036854775807 := by
  simp [Lit.wf, IntKind.min, IntKind.max, IntKind.signed, IntKind.bits] at h
  exact h

/-- A call of the script. -/
structure Oq where
  kind : Int
  num : Int
  which : Int
  tn : ByteArray
  tx : ByteArray
  ok : tn.size ≤ maxLen ∧ tx.size ≤ maxLen ∧ (Lit.int .i64 num).wf = true

instance : Inhabited Oq := ⟨⟨0, 0, 0, ⟨#[]⟩, ⟨#[]⟩, Nat.zero_le _, Nat.zero_le _, by decide⟩⟩

def oqE (o : Oq) : List Value := [.int .i64 o.kind, .int .i64 o.num, .int .i64 o.which, .string o.tn, .string o.tx]
theorem oqE_ok : EncOk oqE 5 := ⟨fun _ => rfl, fun x u hu => by simp [oqE] at hu; rcases hu with rfl | rfl | rfl | rfl | rfl <;> rfl, by decide⟩

section
variable {H : Type} {enc : TypeId × Value → H} {W : World} {x : DataW H × List MemPlace}

theorem claim_of {fuel : Nat} {k0 k1 k2 : Value} (h : DataW.trod enc Tryz.prog W 0 (fun _ => true) true fuel 23 [k0, k1, k2] = some x) : ∃ (t : ByteArray) (u s : Int), k0 = .string t ∧ k1 = .int .i64 u ∧ k2 = .int .i64 s ∧ t.size ≤ maxLen ∧ (Lit.int .i64 u).wf = true ∧ (Lit.int .i64 s).wf = true := by
  obtain ⟨xs, n', _, _, _, hlen, hf⟩ := DataW.trod_struct Tryz.underlying23 h
  match xs, hlen with
  | [y0, y1, y2], _ =>
    have c2 := Tryz.cells16s
    have c3 := Tryz.cells16i
    have t0 : DataW.trod enc Tryz.prog W 0 (fun _ => true) true n' 9 [k0] = some y0 := by simpa [c2, c3] using hf 0 _ rfl
    have t1 : DataW.trod enc Tryz.prog W 0 (fun _ => true) true n' 3 [k1] = some y1 := by simpa [c2, c3] using hf 1 _ rfl
    have t2 : DataW.trod enc Tryz.prog W 0 (fun _ => true) true n' 3 [k2] = some y2 := by simpa [c2, c3] using hf 2 _ rfl
    obtain ⟨q0, e0, _, s0⟩ := DataW.trod_string Tryz.underlying9 t0
    obtain ⟨q1, e1, _, s1⟩ := DataW.trod_int Tryz.underlying3 t1
    obtain ⟨q2, e2, _, s2⟩ := DataW.trod_int Tryz.underlying3 t2
    simp only [List.cons.injEq, and_true] at e0 e1 e2
    exact ⟨q0, q1, q2, e0, e1, e2, s0, s1, s2⟩

theorem claim_arg {fuel : Nat} {cs : Array Value} (hs : cs.size = Tryz.prog.cellsOf 23) (h : DataW.trod enc Tryz.prog W 0 (fun _ => true) true fuel 23 (Value.agg cs).cells.toList = some x) : ∃ (t : ByteArray) (u s : Int), cs = #[.string t, .int .i64 u, .int .i64 s] ∧ t.size ≤ maxLen ∧ (Lit.int .i64 u).wf = true ∧ (Lit.int .i64 s).wf = true := by
  rw [Tryz.cells16c] at hs
  obtain ⟨l⟩ := cs
  simp only [List.size_toArray] at hs
  rcases l with _ | ⟨a, _ | ⟨b, _ | ⟨c, _ | ⟨q, r⟩⟩⟩⟩
  all_goals try (simp at hs; done)
  obtain ⟨t, u, s, h1, h2, h3, h4⟩ := claim_of (k0 := a) (k1 := b) (k2 := c) h
  exact ⟨t, u, s, by rw [h1, h2, h3], h4⟩

theorem ten_of {fuel : Nat} {k0 k1 k2 k3 : Value} (h : DataW.trod enc Tryz.prog W 0 (fun _ => true) true fuel 51 [k0, k1, k2, k3] = some x) : ∃ t : Tn, [k0, k1, k2, k3] = tnE t := by
  obtain ⟨xs, n', _, _, _, hlen, hf⟩ := DataW.trod_struct Tryz.underlying51 h
  match xs, hlen with
  | [y0, y1, y2, y3], _ =>
    have c2 := Tryz.cells16s
    have c3 := Tryz.cells16i
    have t0 : DataW.trod enc Tryz.prog W 0 (fun _ => true) true n' 9 [k0] = some y0 := by simpa [c2, c3] using hf 0 _ rfl
    have t1 : DataW.trod enc Tryz.prog W 0 (fun _ => true) true n' 9 [k1] = some y1 := by simpa [c2, c3] using hf 1 _ rfl
    have t2 : DataW.trod enc Tryz.prog W 0 (fun _ => true) true n' 3 [k2] = some y2 := by simpa [c2, c3] using hf 2 _ rfl
    have t3 : DataW.trod enc Tryz.prog W 0 (fun _ => true) true n' 3 [k3] = some y3 := by simpa [c2, c3] using hf 3 _ rfl
    obtain ⟨q0, e0, _, s0⟩ := DataW.trod_string Tryz.underlying9 t0
    obtain ⟨q1, e1, _, s1⟩ := DataW.trod_string Tryz.underlying9 t1
    obtain ⟨q2, e2, _, s2⟩ := DataW.trod_int Tryz.underlying3 t2
    obtain ⟨q3, e3, _, s3⟩ := DataW.trod_int Tryz.underlying3 t3
    simp only [List.cons.injEq, and_true] at e0 e1 e2 e3
    subst e0 e1 e2 e3
    exact ⟨⟨q0, q1, q2, q3, s0⟩, rfl⟩

theorem tens_of {fuel : Nat} {a : Option Addr} {len cap : Nat} (h : DataW.trod enc Tryz.prog W 0 (fun _ => true) true fuel 32 [.slice a len cap] = some x) : ∃ ks : List Tn, SrcC 4 tnE W (fun j => j < W.heap.size) (.slice a len cap) ks := by
  obtain ⟨a', n', c', xs, e, h1, h2, h3, _⟩ := rows_of (enc := enc) tnE_ok Tryz.underlying32 Tryz.cells16t (fun _ => True) (fun m cs y hl ht => by
    match cs, hl with
    | [u0, u1, u2, u3], _ =>
      obtain ⟨t, e⟩ := ten_of ht
      exact ⟨t, e, trivial⟩) h
  injection e with e1 e2 e3
  subst e1 e2 e3
  exact ⟨xs, h1⟩

theorem op16_of {fuel : Nat} {k0 k1 k2 k3 k4 : Value} (h : DataW.trod enc Tryz.prog W 0 (fun _ => true) true fuel 43 [k0, k1, k2, k3, k4] = some x) : ∃ o : Oq, [k0, k1, k2, k3, k4] = oqE o := by
  obtain ⟨xs, n', _, _, _, hlen, hf⟩ := DataW.trod_struct Tryz.underlying43 h
  match xs, hlen with
  | [y0, y1, y2, y3, y4], _ =>
    have c2 := Tryz.cells16s
    have c3 := Tryz.cells16i
    have t0 : DataW.trod enc Tryz.prog W 0 (fun _ => true) true n' 3 [k0] = some y0 := by simpa [c2, c3] using hf 0 _ rfl
    have t1 : DataW.trod enc Tryz.prog W 0 (fun _ => true) true n' 3 [k1] = some y1 := by simpa [c2, c3] using hf 1 _ rfl
    have t2 : DataW.trod enc Tryz.prog W 0 (fun _ => true) true n' 3 [k2] = some y2 := by simpa [c2, c3] using hf 2 _ rfl
    have t3 : DataW.trod enc Tryz.prog W 0 (fun _ => true) true n' 9 [k3] = some y3 := by simpa [c2, c3] using hf 3 _ rfl
    have t4 : DataW.trod enc Tryz.prog W 0 (fun _ => true) true n' 9 [k4] = some y4 := by simpa [c2, c3] using hf 4 _ rfl
    obtain ⟨q0, e0, _, s0⟩ := DataW.trod_int Tryz.underlying3 t0
    obtain ⟨q1, e1, _, s1⟩ := DataW.trod_int Tryz.underlying3 t1
    obtain ⟨q2, e2, _, s2⟩ := DataW.trod_int Tryz.underlying3 t2
    obtain ⟨q3, e3, _, s3⟩ := DataW.trod_string Tryz.underlying9 t3
    obtain ⟨q4, e4, _, s4⟩ := DataW.trod_string Tryz.underlying9 t4
    simp only [List.cons.injEq, and_true] at e0 e1 e2 e3 e4
    subst e0 e1 e2 e3 e4
    exact ⟨⟨q0, q1, q2, q3, q4, s3, s4, s1⟩, rfl⟩

theorem ops16_of {fuel : Nat} {a : Option Addr} {len cap : Nat} (h : DataW.trod enc Tryz.prog W 0 (fun _ => true) true fuel 33 [.slice a len cap] = some x) : ∃ ks : List Oq, SrcC 5 oqE W (fun j => j < W.heap.size) (.slice a len cap) ks := by
  obtain ⟨a', n', c', xs, e, h1, h2, h3, _⟩ := rows_of (enc := enc) oqE_ok Tryz.underlying33 Tryz.cells16o (fun _ => True) (fun m cs y hl ht => by
    match cs, hl with
    | [u0, u1, u2, u3, u4], _ =>
      obtain ⟨t, e⟩ := op16_of ht
      exact ⟨t, e, trivial⟩) h
  injection e with e1 e2 e3
  subst e1 e2 e3
  exact ⟨xs, h1⟩

end

end Go.Proofs.YtfhfnkhiomahfaaGreatDoor
