/-
  Layer 12: Put.
-/
import Derived.Test.YthignkloecfcbaaChF
import Derived.Test.YthignkloecfcbaaChH
namespace Go.Proofs.Ythignkloecfcbaa
open Go.RowKit Go.Maps Go.Sort

/-- The version that a write says. -/
def verOf (x : Wr) (t : Int) : Ver := if x.there then ⟨t, true, x.data⟩ else ⟨t, false, ⟨#[]⟩⟩

theorem verOf_t (x : Wr) (t : Int) : (verOf x t).t = t := by unfold verOf; split <;> rfl

abbrev Vs := Bx → Nm → List Ver

/-- A write laid; writes laid. -/
def putF (f : Vs) (x : Wr) (t : Int) : Vs := fun b n => if b = x.b ∧ n = x.n then putV (f b n) (verOf x t) else f b n
def putsF (f : Vs) (ws : List Wr) (t : Int) : Vs := ws.foldl (fun f x => putF f x t) f

set_option maxHeartbeats 400000 in
theorem versionOf_any (w : World) (x : Wr) (t : Int) :
    Calls Try.prog 40 #[.agg #[.string x.b.tn, .string x.b.ar, .string x.n.s, .bool x.there, .string x.data], .int .i64 t] w fun e w' => e = .returned (.agg #[.int .i64 (verOf x t).t, .bool (verOf x t).there, .string (verOf x t).data]) ∧ Same w w' := by
  obtain ⟨b, n, there, data, _⟩ := x
  cases there with
  | true =>
    go_enter Try.func40, Try.ntmps40
    go_wp2_with fail
    refine bodyPost_ret (v := .agg #[.int .i64 t, .bool true, .string data]) (by rw [results_cellC rfl]; simp [go_sem]) rfl ?_
    exact ⟨rfl, ((Kept.refl _ w).alloc _).alloc _⟩
  | false =>
    go_enter Try.func40, Try.ntmps40
    go_wp2_with fail
    refine bodyPost_ret (v := .agg #[.int .i64 t, .bool false, .string ⟨#[]⟩]) (by rw [results_cellC rfl]; simp [go_sem]) rfl ?_
    exact ⟨rfl, ((Kept.refl _ w).alloc _).alloc _⟩

section
variable {K N : Nat} {w : World} {p : Nat} {s : Cs} {ρ : Nat → Nat} {mb : Nat}

theorem VerOk.put {now : Int} {l : List Ver} (h : VerOk now l) {v : Ver} (h1 : 1 ≤ v.t) (h2 : v.t ≤ now) (h3 : v.there = false → v.data = ⟨#[]⟩) (h4 : v.data.size ≤ maxLen) : VerOk now (putV l v) :=
  ⟨putV_ris h.ris v, fun x hx => by
    rcases putV_mem hx with rfl | h5
    · exact ⟨h1, h2⟩
    · exact h.low x h5.1, fun x hx => by
    rcases putV_mem hx with rfl | h5
    · exact h3
    · exact h.gone x h5.1, fun x hx => by
    rcases putV_mem hx with rfl | h5
    · exact h4
    · exact h.big x h5.1⟩

/-- put, of an entry's chain. -/
theorem put_any (h : Ck K N w p s ρ mb) (hN : N ≤ w.heap.size) (hK : K + 1 ≤ 100000) {b : Bx} {n : Nm} {c : Nat} (hf : fndC s b n = some c) (v : Ver) (h1 : 1 ≤ v.t) (h2 : v.t ≤ s.now) (h3 : v.there = false → v.data = ⟨#[]⟩) (h4 : v.data.size ≤ maxLen) :
    Calls Try.prog 39 #[.pointer (some ⟨c, 0, none⟩), .agg #[.int .i64 v.t, .bool v.there, .string v.data]] w fun e w' => e = .returned (.tuple #[]) ∧ ∃ s' ρ', Ck (K + 1) N w' p s' ρ' mb ∧ (∀ b' n', vers s' b' n' = if b' = b ∧ n' = n then putV (vers s b n) v else vers s b' n') ∧ s'.now = s.now ∧ s'.floor = s.floor ∧ ExtC w ρ ρ' ∧ Kept (fun k => ρ k ≠ 0) w w' := by
  have hc := h.fnd hf
  have hv : vers s b n = s.vr c := by unfold vers; rw [hf]; rfl
  have hl := h.lens.2.2 c hc
  have hb := h.big
  refine (put_raw (h.cm c hc) (h.okv c hc).ris (by omega) hN (h.new c (by rw [hc]; decide)).2 (by rw [hc]; omega) v h1 (by have := h.nums; omega)).mono ?_
  rintro e w' ⟨rfl, hB⟩
  refine ⟨rfl, ?_⟩
  have hlen := putV_len (s.vr c) v
  obtain ⟨ρ', hC, hE, hk⟩ := (h.more (Nat.le_succ K) hK).setChain hc hB ((h.okv c hc).put h1 h2 h3 h4) (by omega)
  refine ⟨_, ρ', hC, fun b' n' => ?_, rfl, rfl, hE, hk⟩
  rw [vers_set h hf, hv]

/-- The time set. -/
theorem Ck.setNow (h : Ck K N w p s ρ mb) {t : Int} (ht : s.now ≤ t) (ht2 : t ≤ 9223372036854775807) {w' : World} (hb : Blk w' p #[.int .i64 t, .int .i64 s.floor, .map (some mb)] 70) (hk : Kept (· = p) w w') : Ck K N w' p { s with now := t } ρ mb := by
  have hne : ∀ k, ρ k ≠ 1 → ¬ k = p := fun k e e2 => e (by rw [e2]; exact h.rp)
  refine { h with blk := hb, bm := h.bm.kept hk (hne mb (by rw [h.rm]; decide)), am := fun a ha => (h.am a ha).kept hk (hne a (by rw [ha]; decide)), cm := fun c hc => ?_, okv := fun c hc => ⟨(h.okv c hc).ris, fun v hv => ⟨((h.okv c hc).low v hv).1, Int.le_trans ((h.okv c hc).low v hv).2 ht⟩, (h.okv c hc).gone, (h.okv c hc).big⟩, new := fun k hk2 => ⟨(h.new k hk2).1, Nat.lt_of_lt_of_le (h.new k hk2).2 hk.size⟩, nums := ⟨h.nums.1, Int.le_trans h.nums.2.1 ht, ht2⟩ }
  obtain ⟨v, h1, h2, h3⟩ := h.cm c hc
  exact ⟨v, h1.kept hk (hne c (by rw [hc]; decide)), h2.kept hk (fun k e => hne k (by rw [h3 k e]; omega)), h3⟩

end

set_option maxHeartbeats 400000 in
theorem cput_nil (w : World) (t : Int) (ao : Option Addr) (n cap : Nat) : Calls Try.prog 16 #[.pointer none, .agg #[.int .i64 t, .slice ao n cap]] w fun e w' => e = .returned (.int .i64 3) ∧ Same w w' := by
  go_enter Try.func16, Try.ntmps16
  go_wp2_with fail
  go_ret
  exact ⟨rfl, (Kept.refl _ w).alloc _⟩

/-- What Put tells. -/
def PuA (K N : Nat) (w : World) (p : Nat) (s : Cs) (ρ : Nat → Nat) (mb : Nat) (t : Int) (ws : List Wr) (w' : World) : Prop :=
  ∃ s' ρ', Ck (K + 3 * ws.length) N w' p s' ρ' mb ∧ vers s' = putsF (vers s) ws t ∧ s'.now = t ∧ s'.floor = s.floor ∧ ExtC w ρ ρ' ∧ Kept (fun k => ρ k ≠ 0) w w'

set_option maxRecDepth 100000 in
set_option maxHeartbeats 2000000 in
theorem cput_old {K N : Nat} {w : World} {p : Nat} {s : Cs} {ρ : Nat → Nat} {mb : Nat} (h : Ck K N w p s ρ mb) (t : Int) (ht : t ≤ s.now) (ao : Option Addr) (n cap : Nat) :
    Calls Try.prog 16 #[.pointer (some ⟨p, 0, none⟩), .agg #[.int .i64 t, .slice ao n cap]] w fun e w' => e = .returned (.int .i64 120) ∧ Same w w' := by
  have b1 : decide (t ≤ s.now) = true := by simpa using ht
  obtain ⟨wA, hwA⟩ : ∃ W, W = w.alloc (.cells #[.int .i64 t, .slice ao n cap] 34) := ⟨_, rfl⟩
  have hka : Same w wA := by rw [hwA]; exact (Kept.refl _ w).alloc _
  obtain ⟨xb, hxb⟩ : ∃ x, x = w.heap.size := ⟨_, rfl⟩
  have BA : Blk wA xb #[.int .i64 t, .slice ao n cap] 34 := by rw [hwA, hxb]; exact Blk.new w _ _
  have x0 := BA.cell 0
  have p0 : wA.cell? ⟨p, 0, none⟩ = some (.int .i64 s.now) := (h.same hka).blk.cell 0
  simp at x0
  have HK : Hid (Same w wA) := hka
  clear h ht BA hka
  go_enter Try.func16, Try.ntmps16
  go_upto_region 3 with fail
  rw [← hwA, ← hxb]
  clear hwA hxb
  go_region
  go_wp2_with fail
  go_ret
  exact ⟨rfl, HK.out.drew⟩

end Go.Proofs.Ythignkloecfcbaa
