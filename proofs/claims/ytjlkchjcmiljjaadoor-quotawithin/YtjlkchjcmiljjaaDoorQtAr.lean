/-
  Layer 17's laws: tenants, scripts and uses that came in.
-/
import Derived.Test.YtjlkchjcmiljjaaDoorQtM
import Derived.Test.YtjlkchjcmiljjaaDoorQtA
import Derived.Test.YtjlkchjcmiljjaaDoorRowsOf
namespace Go.Proofs.YtjlkchjcmiljjaaDoor
open Go.ChangeShapes Go.WideShapes Go.ChangeAt Go.RowKit Go.Deep Go.Maps

theorem Tryd.cells17s : Tryd.prog.cellsOf 9 = 1 := by kernel_rfl
theorem Tryd.cells17i : Tryd.prog.cellsOf 3 = 1 := by kernel_rfl
theorem Tryd.cells17u : Tryd.prog.cellsOf 31 = 2 := by kernel_rfl
theorem Tryd.cells17t : Tryd.prog.cellsOf 29 = 4 := by kernel_rfl
theorem Tryd.cells17o : Tryd.prog.cellsOf 41 = 5 := by kernel_rfl

/-- A call of the script. -/
structure Ow where
  kind : Int
  tn : ByteArray
  u : Us
  id : Int
  ok : tn.size ≤ maxLen ∧ (Lit.int .i64 id).wf = true

instance : Inhabited Ow := ⟨⟨0, ⟨#[]⟩, default, 0, Nat.zero_le _, by decide⟩⟩

def Ow.nm (o : Ow) : Nm := ⟨o.tn, o.ok.1⟩
def Ow.nb (o : Ow) : Nb := ⟨o.id, o.ok.2⟩
def owE (o : Ow) : List Value := [.int .i64 o.kind, .string o.tn, .int .i64 o.u.b, .int .i64 o.u.e, .int .i64 o.id]
theorem owE_ok : EncOk owE 5 := ⟨fun _ => rfl, fun x u hu => by simp [owE] at hu; rcases hu with rfl | rfl | rfl | rfl | rfl <;> rfl, by decide⟩

section
variable {H : Type} {enc : TypeId × Value → H} {W : World} {x : DataW H × List MemPlace}

theorem use_of {fuel : Nat} {k0 k1 : Value} (h : DataW.trod enc Tryd.prog W 0 (fun _ => true) true fuel 31 [k0, k1] = some x) : ∃ (b e : Int), k0 = .int .i64 b ∧ k1 = .int .i64 e ∧ (Lit.int .i64 b).wf = true ∧ (Lit.int .i64 e).wf = true := by
  obtain ⟨xs, n', _, _, _, hlen, hf⟩ := DataW.trod_struct Tryd.underlying31 h
  match xs, hlen with
  | [y0, y1], _ =>
    have c3 := Tryd.cells17i
    have t0 : DataW.trod enc Tryd.prog W 0 (fun _ => true) true n' 3 [k0] = some y0 := by simpa [c3] using hf 0 _ rfl
    have t1 : DataW.trod enc Tryd.prog W 0 (fun _ => true) true n' 3 [k1] = some y1 := by simpa [c3] using hf 1 _ rfl
    obtain ⟨q0, e0, _, s0⟩ := DataW.trod_int Tryd.underlying3 t0
    obtain ⟨q1, e1, _, s1⟩ := DataW.trod_int Tryd.underlying3 t1
    simp only [List.cons.injEq, and_true] at e0 e1
    exact ⟨q0, q1, e0, e1, s0, s1⟩

theorem use_arg {fuel : Nat} {cs : Array Value} (hs : cs.size = Tryd.prog.cellsOf 31) (h : DataW.trod enc Tryd.prog W 0 (fun _ => true) true fuel 31 (Value.agg cs).cells.toList = some x) : ∃ (b e : Int), cs = #[.int .i64 b, .int .i64 e] ∧ (Lit.int .i64 b).wf = true ∧ (Lit.int .i64 e).wf = true := by
  rw [Tryd.cells17u] at hs
  obtain ⟨l⟩ := cs
  simp only [List.size_toArray] at hs
  rcases l with _ | ⟨a, _ | ⟨b, _ | ⟨q, r⟩⟩⟩
  all_goals try (simp at hs; done)
  obtain ⟨t, u, h1, h2, h3⟩ := use_of (k0 := a) (k1 := b) h
  exact ⟨t, u, by rw [h1, h2], h3⟩

theorem ten_of {fuel : Nat} {k0 k1 k2 k3 : Value} (h : DataW.trod enc Tryd.prog W 0 (fun _ => true) true fuel 29 [k0, k1, k2, k3] = some x) : ∃ t : Tn, [k0, k1, k2, k3] = tnE t := by
  obtain ⟨xs, n', _, _, _, hlen, hf⟩ := DataW.trod_struct Tryd.underlying29 h
  match xs, hlen with
  | [y0, y1, y2, y3], _ =>
    have c2 := Tryd.cells17s
    have c3 := Tryd.cells17i
    have t0 : DataW.trod enc Tryd.prog W 0 (fun _ => true) true n' 9 [k0] = some y0 := by simpa [c2, c3] using hf 0 _ rfl
    have t1 : DataW.trod enc Tryd.prog W 0 (fun _ => true) true n' 9 [k1] = some y1 := by simpa [c2, c3] using hf 1 _ rfl
    have t2 : DataW.trod enc Tryd.prog W 0 (fun _ => true) true n' 3 [k2] = some y2 := by simpa [c2, c3] using hf 2 _ rfl
    have t3 : DataW.trod enc Tryd.prog W 0 (fun _ => true) true n' 3 [k3] = some y3 := by simpa [c2, c3] using hf 3 _ rfl
    obtain ⟨q0, e0, _, s0⟩ := DataW.trod_string Tryd.underlying9 t0
    obtain ⟨q1, e1, _, s1⟩ := DataW.trod_string Tryd.underlying9 t1
    obtain ⟨q2, e2, _, s2⟩ := DataW.trod_int Tryd.underlying3 t2
    obtain ⟨q3, e3, _, s3⟩ := DataW.trod_int Tryd.underlying3 t3
    simp only [List.cons.injEq, and_true] at e0 e1 e2 e3
    subst e0 e1 e2 e3
    exact ⟨⟨q0, q1, q2, q3, s0⟩, rfl⟩

theorem tens_of {fuel : Nat} {a : Option Addr} {len cap : Nat} (h : DataW.trod enc Tryd.prog W 0 (fun _ => true) true fuel 22 [.slice a len cap] = some x) : ∃ ks : List Tn, SrcC 4 tnE W (fun j => j < W.heap.size) (.slice a len cap) ks := by
  obtain ⟨a', n', c', xs, e, h1, h2, h3, _⟩ := rows_of (enc := enc) tnE_ok Tryd.underlying22 Tryd.cells17t (fun _ => True) (fun m cs y hl ht => by
    match cs, hl with
    | [u0, u1, u2, u3], _ =>
      obtain ⟨t, e⟩ := ten_of ht
      exact ⟨t, e, trivial⟩) h
  injection e with e1 e2 e3
  subst e1 e2 e3
  exact ⟨xs, h1⟩

theorem op17_of {fuel : Nat} {k0 k1 k2 k3 k4 : Value} (h : DataW.trod enc Tryd.prog W 0 (fun _ => true) true fuel 41 [k0, k1, k2, k3, k4] = some x) : ∃ o : Ow, [k0, k1, k2, k3, k4] = owE o := by
  obtain ⟨xs, n', _, _, _, hlen, hf⟩ := DataW.trod_struct Tryd.underlying41 h
  match xs, hlen with
  | [y0, y1, y2, y3], _ =>
    have c2 := Tryd.cells17s
    have c3 := Tryd.cells17i
    have c4 := Tryd.cells17u
    have t0 : DataW.trod enc Tryd.prog W 0 (fun _ => true) true n' 3 [k0] = some y0 := by simpa [c2, c3, c4] using hf 0 _ rfl
    have t1 : DataW.trod enc Tryd.prog W 0 (fun _ => true) true n' 9 [k1] = some y1 := by simpa [c2, c3, c4] using hf 1 _ rfl
    have t2 : DataW.trod enc Tryd.prog W 0 (fun _ => true) true n' 31 [k2, k3] = some y2 := by simpa [c2, c3, c4] using hf 2 _ rfl
    have t3 : DataW.trod enc Tryd.prog W 0 (fun _ => true) true n' 3 [k4] = some y3 := by simpa [c2, c3, c4] using hf 3 _ rfl
    obtain ⟨q0, e0, _, s0⟩ := DataW.trod_int Tryd.underlying3 t0
    obtain ⟨q1, e1, _, s1⟩ := DataW.trod_string Tryd.underlying9 t1
    obtain ⟨b, e, rfl, rfl, _⟩ := use_of t2
    obtain ⟨q3, e3, _, s3⟩ := DataW.trod_int Tryd.underlying3 t3
    simp only [List.cons.injEq, and_true] at e0 e1 e3
    subst e0 e1 e3
    exact ⟨⟨q0, q1, ⟨b, e⟩, q3, s1, s3⟩, rfl⟩

theorem ops17_of {fuel : Nat} {a : Option Addr} {len cap : Nat} (h : DataW.trod enc Tryd.prog W 0 (fun _ => true) true fuel 36 [.slice a len cap] = some x) : ∃ ks : List Ow, SrcC 5 owE W (fun j => j < W.heap.size) (.slice a len cap) ks := by
  obtain ⟨a', n', c', xs, e, h1, h2, h3, _⟩ := rows_of (enc := enc) owE_ok Tryd.underlying36 Tryd.cells17o (fun _ => True) (fun m cs y hl ht => by
    match cs, hl with
    | [u0, u1, u2, u3, u4], _ =>
      obtain ⟨t, e⟩ := op17_of ht
      exact ⟨t, e, trivial⟩) h
  injection e with e1 e2 e3
  subst e1 e2 e3
  exact ⟨xs, h1⟩

end

end Go.Proofs.YtjlkchjcmiljjaaDoor
