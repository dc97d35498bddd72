/-
  Layer 12's law: two dumps that say the same.
-/
import Derived.Test.YthignkloecfcbaaChDm
import Derived.BigQuiet
namespace Go.Proofs.Ythignkloecfcbaa
open Go.RowKit Go.Maps Go.Sort

theorem DmAt.ofs {B : Nat} {w : World} {v : Value} {As : List Ad} (h : DmAt B w v As) : ∃ ao cap, v = .slice ao As.length cap ∧ ∀ i (hi : i < As.length), ∃ g, ao = some ⟨g, 0, none⟩ ∧ w.cell? ⟨g, i * 3, none⟩ = some (.string As[i].b.tn) ∧ w.cell? ⟨g, i * 3 + 1, none⟩ = some (.string As[i].b.ar) ∧ w.cell? ⟨g, i * 3 + 2, none⟩ = some (.slice As[i].a As[i].es.length As[i].c) ∧ As[i].n = As[i].es.length ∧ ∀ j (hj : j < As[i].es.length), ∃ k, As[i].a = some ⟨k, 0, none⟩ ∧ w.cell? ⟨k, j * 2, none⟩ = some (.string (As[i].es[j]).1.s) ∧ w.cell? ⟨k, j * 2 + 1, none⟩ = some (.string (As[i].es[j]).2) := by
  obtain ⟨ao, cap, hv, hg, _, _, _⟩ := h.row.shape
  refine ⟨ao, cap, hv, fun i hi => ?_⟩
  obtain ⟨g, rfl⟩ := hg (by rintro rfl; simp at hi)
  have hr := h.row
  rw [hv] at hr
  have he := h.ent As[i] (List.getElem_mem hi)
  obtain ⟨ao2, cap2, hv2, hg2, _, _, _⟩ := he.shape
  unfold adV at hv2
  injection hv2 with e1 e2 e3
  refine ⟨g, rfl, RowC.cell adE_ok hr i 0 hi (by decide), RowC.cell adE_ok hr i 1 hi (by decide), ?_, e2, fun j hj => ?_⟩
  · rw [← e2]; exact RowC.cell adE_ok hr i 2 hi (by decide)
  · obtain ⟨k, hk⟩ := hg2 (by intro e; rw [e] at hj; simp at hj)
    rw [hk] at e1
    unfold adV at he
    rw [e1] at he
    exact ⟨k, e1, RowC.cell enE2_ok he j 0 hj (by decide), RowC.cell enE2_ok he j 1 hj (by decide)⟩

set_option maxRecDepth 100000 in
set_option maxHeartbeats 2000000 in
theorem dsame_true (w : World) (B B' : Nat) (v v' : Value) (As As' : List Ad) (h : DmAt B w v As) (h' : DmAt B' w v' As') (he : adD As = adD As') (hl : As.length ≤ 100000) (hl2 : ∀ x ∈ As, x.es.length ≤ 100000) :
    Calls Try.prog 17 #[v, v'] w fun e w' => e = .returned (.bool true) ∧ Same w w' := by
  have hlen : As'.length = As.length := by have := congrArg List.length he; simpa [adD] using this.symm
  obtain ⟨a, c, rfl, HA⟩ := h.ofs
  obtain ⟨a', c', rfl, HB⟩ := h'.ofs
  rw [hlen]
  obtain ⟨n, hn⟩ : ∃ n, n = As.length := ⟨_, rfl⟩
  have HF : Hid (∀ i, i < n → ∃ (g g' : Nat) (b : Bx) (m : Nat) (ea ea' : Option Addr) (ec ec' : Nat), a = some ⟨g, 0, none⟩ ∧ a' = some ⟨g', 0, none⟩ ∧ m ≤ 100000 ∧ w.cell? ⟨g, i * 3, none⟩ = some (.string b.tn) ∧ w.cell? ⟨g, i * 3 + 1, none⟩ = some (.string b.ar) ∧ w.cell? ⟨g, i * 3 + 2, none⟩ = some (.slice ea m ec) ∧ w.cell? ⟨g', i * 3, none⟩ = some (.string b.tn) ∧ w.cell? ⟨g', i * 3 + 1, none⟩ = some (.string b.ar) ∧ w.cell? ⟨g', i * 3 + 2, none⟩ = some (.slice ea' m ec') ∧ ∀ j, j < m → ∃ (k k' : Nat) (s d : ByteArray), ea = some ⟨k, 0, none⟩ ∧ ea' = some ⟨k', 0, none⟩ ∧ w.cell? ⟨k, j * 2, none⟩ = some (.string s) ∧ w.cell? ⟨k, j * 2 + 1, none⟩ = some (.string d) ∧ w.cell? ⟨k', j * 2, none⟩ = some (.string s) ∧ w.cell? ⟨k', j * 2 + 1, none⟩ = some (.string d)) := hid (fun i hi => by
    have hi1 : i < As.length := by omega
    have hi2 : i < As'.length := by omega
    have hx : (As[i].b, As[i].es) = (As'[i].b, As'[i].es) := by
      have : (adD As)[i]'(by simpa [adD] using hi1) = (adD As')[i]'(by simpa [adD] using hi2) := by simp only [he]
      simpa [adD] using this
    injection hx with x1 x2
    obtain ⟨g, q1, q2, q3, q4, q5, q6⟩ := HA i hi1
    obtain ⟨g', r1, r2, r3, r4, r5, r6⟩ := HB i hi2
    rw [← x1] at r2 r3
    have hm : As'[i].es.length = As[i].es.length := by rw [x2]
    rw [hm] at r4
    refine ⟨g, g', As[i].b, As[i].es.length, As[i].a, As'[i].a, As[i].c, As'[i].c, q1, r1, hl2 _ (List.getElem_mem hi1), q2, q3, q4, r2, r3, r4, fun j hj => ?_⟩
    obtain ⟨k, s1, s2, s3⟩ := q6 j hj
    obtain ⟨k', t1, t2, t3⟩ := r6 j (by omega)
    have hy : As'[i].es[j]'(by omega) = As[i].es[j] := by simp only [x2]
    rw [hy] at t2 t3
    exact ⟨k, k', _, _, s1, t1, s2, s3, t2, t3⟩)
  rw [← hn] at hl ⊢
  clear HA HB h h' he hl2 hlen hn
  have hnn : ((n : Int) == (n : Int)) = true := by simp
  go_enter Try.func17, Try.ntmps17
  go_wp2_with fail
  go_loopg [5] n (fun k z wr => ∃ i : Nat, n - i ≤ k ∧ i ≤ n ∧ z = .int .i64 (i : Nat) ∧ Hid (Same w wr))
  case atStart => exact ⟨0, by omega, by omega, rfl, hid (Kept.refl _ _)⟩
  case round =>
    obtain ⟨i, hk, hil, rfl, HK⟩ := hrel
    by_cases hlt : i < n
    · have hli : decide (i < n) = true := by simp; omega
      obtain ⟨g, g', b, m, ea, ea', ec, ec', e1, e2, hm, c0, c1, c2, d0, d1, d2, HE0⟩ := HF.out i hlt
      have HE := hid HE0
      clear HE0
      subst e1
      subst e2
      have HC : Hid (w.cell? ⟨g, i * 3 + 2, none⟩ = some (.slice ea m ec) ∧ w.cell? ⟨g', i * 3 + 2, none⟩ = some (.slice ea' m ec')) := hid ⟨c2, d2⟩
      have c0 := HK.out.cell c0 (fun f => f)
      have c1 := HK.out.cell c1 (fun f => f)
      have c2 := HK.out.cell c2 (fun f => f)
      have d0 := HK.out.cell d0 (fun f => f)
      have d1 := HK.out.cell d1 (fun f => f)
      have d2 := HK.out.cell d2 (fun f => f)
      have q0 : (b.tn.toList == b.tn.toList) = true := by simp
      have q1 : (b.ar.toList == b.ar.toList) = true := by simp
      have q2 : ((m : Int) == (m : Int)) = true := by simp
      have hiw : IntKind.i64.wrap ((i : Int) + 1) = ((i + 1 : Nat) : Int) := by rw [IntKind.wrap_i64]; omega
      have i1 : (0 : Int) ≤ (i : Int) := by omega
      have i2 : (i : Int) < (n : Int) := by omega
      go_wp2_with fail
      go_quiet (fail)
      clear c0 c1 c2 d0 d1 d2
      obtain ⟨gk0, hgk⟩ : ∃ x, x = gk := ⟨_, rfl⟩
      rw [← hgk] at hk
      have HG := hid hgk
      clear hgk
      go_wp2_with fail
      go_loopg [6] m (fun k z wr => ∃ j : Nat, m - j ≤ k ∧ j ≤ m ∧ z = .int .i64 (j : Nat) ∧ Hid (Same w wr))
      case atStart => exact ⟨0, by omega, by omega, rfl, hid (HK.out.drewN _)⟩
      case round =>
        obtain ⟨j, hjk, hjm, rfl, HL⟩ := hrel
        have c2 := HL.out.cell HC.out.1 (fun f => f)
        have d2 := HL.out.cell HC.out.2 (fun f => f)
        by_cases hjl : j < m
        · have hlj : decide (j < m) = true := by simp; omega
          obtain ⟨k, k', s, d, e1, e2, y0, y1, z0, z1⟩ := HE.out j hjl
          subst e1
          subst e2
          have y0 := HL.out.cell y0 (fun f => f)
          have y1 := HL.out.cell y1 (fun f => f)
          have z0 := HL.out.cell z0 (fun f => f)
          have z1 := HL.out.cell z1 (fun f => f)
          have r0 : (s.toList == s.toList) = true := by simp
          have r1 : (d.toList == d.toList) = true := by simp
          have hjw : IntKind.i64.wrap ((j : Int) + 1) = ((j + 1 : Nat) : Int) := by rw [IntKind.wrap_i64]; omega
          have j1 : (0 : Int) ≤ (j : Int) := by omega
          have j2 : (j : Int) < (m : Int) := by omega
          go_wp2_with fail
          go_quiet (fail)
          go_wp2_with fail
          go_roundg (gk - 1)
          case measure => omega
          case rel => exact ⟨j + 1, by omega, by omega, by go_num, hid (HL.out.drewN _)⟩
        · have hlj : decide (j < m) = false := by simp; omega
          go_wp2_with fail
          go_roundg (gk0 - 1)
          case measure => have := HG.out; omega
          case rel => exact ⟨i + 1, by omega, by omega, by go_num, HL⟩
    · have hli : decide (i < n) = false := by simp; omega
      go_wp2_with fail
      go_ret
      exact ⟨rfl, HK.out⟩

end Go.Proofs.Ythignkloecfcbaa
