/-
  FrameEncodes' walk.
-/
import Derived.Test.YtjjhjbmmhkcapaaFmR
import Derived.Test.YtjjhjbmmhkcapaaFmF
import Derived.Test.YtjjhjbmmhkcapaaFmAr
namespace Go.Proofs.Ytjjhjbmmhkcapaa
open Go.RowKit

theorem encB_len (f : Fm) : (encB f).length ≤ 20009 := by
  unfold encB
  split
  · rename_i h
    rw [frmB_len]
    have := (errE_may.1 h).2.2
    omega
  · simp

set_option maxRecDepth 100000 in
set_option maxHeartbeats 2000000 in
theorem frameEncodes_all (f : Fm) (W : World) (_w0 : (Lit.int .i64 f.k).wf = true ∧ f.s.size ≤ maxLen) :
    Calls Try.prog 3 #[.agg #[.int .i64 f.k, .string f.s]] W fun e W' => e = .returned (.bool true) ∧ Below W.heap.size W W' := by
  obtain ⟨W1, hW1⟩ : ∃ W1, W1 = W.alloc (.cells #[.int .i64 f.k, .string f.s] 23) := ⟨_, rfl⟩
  obtain ⟨xb, hxb⟩ : ∃ b, b = W.heap.size := ⟨_, rfl⟩
  have HK1 : Hid (Same W W1) := hid (by rw [hW1]; exact (Kept.refl _ W).alloc _)
  have HB : Hid (Blk W1 xb #[.int .i64 f.k, .string f.s] 23) := hid (by rw [hW1, hxb]; exact Blk.new W _ _)
  obtain ⟨z0, z1, z2, z3⟩ := HB.out.two
  by_cases hl : 1048576 < f.s.size
  · go_enter Try.func3, Try.ntmps3
    go_upto_region 1 with fail
    rw [← hW1, ← hxb]
    clear hW1 hxb
    go_wp2_with fail
    refine (awake18 W1).mono ?_
    rintro x w1 ⟨rfl, hk⟩
    go_wp2_with fail
    go_ret
    exact ⟨rfl, (Same.trans HK1.out hk).below (Nat.le_refl _) (fun _ _ f => f)⟩
  · go_enter Try.func3, Try.ntmps3
    go_upto_region 1 with fail
    rw [← hW1, ← hxb]
    clear hW1 hxb
    go_wp2_with fail
    refine (fenc_any W1 f).mono ?_
    rintro x w2 ⟨v2, rfl, hf2, _⟩
    obtain ⟨a2, c2, hv2, hne2⟩ := hf2.row.shape
    obtain ⟨n, hn⟩ : ∃ n, n = (encB f).length := ⟨_, rfl⟩
    rw [← hn] at hv2
    subst hv2
    obtain ⟨E, hE⟩ : ∃ E, E = errE f := ⟨_, rfl⟩
    rw [← hE]
    have HE := hid hE
    have HN : Hid (n = (encB f).length ∧ n ≤ 20009 ∧ (encB f ≠ [] → ∃ g, a2 = some ⟨g, 0, none⟩)) := hid ⟨hn, by rw [hn]; exact encB_len f, hne2⟩
    have HF2 := hid hf2
    obtain ⟨z0, z1, z2, z3⟩ := (HB.out.kept hf2.kept (fun f => f)).two
    have hn9 : n ≤ 20009 := HN.out.2.1
    clear hf2 hn hE hne2
    go_wp2_with fail
    refine (renc_any w2 f).mono ?_
    rintro x w3 ⟨v3, rfl, hf3, _⟩
    rw [← HE.out]
    have HF3 := hid hf3
    have HBY : Calls Try.prog 12 #[.slice a2 n c2, v3] w3 fun e w' => e = .returned (.bool true) ∧ Same w3 w' := by
      have h9 := bytes18 w3 _ _ _ _ _ _ ((Src.ofRow HF2.out.row).kept hf3.kept (fun _ _ _ f => f)) (Src.ofRow hf3.row) (by have := HN.out.1; have := HN.out.2.1; omega) (by have := HN.out.1; have := HN.out.2.1; omega)
      rw [decide_eq_true rfl] at h9
      exact h9
    clear hf3 z0 z1 z2 z3
    go_wp2_with fail
    refine HBY.mono ?_
    rintro x w4 ⟨rfl, hk4⟩
    have HK4 := hid hk4
    have HR4 : Hid (Row w4 (.slice a2 n c2) (encB f)) := hid ((HF2.out.row.kept HF3.out.kept (fun _ _ f => f)).kept hk4 (fun _ _ f => f))
    clear hk4 HBY
    go_wp2_with fail
    go_loopg [8] n (fun k z wx => ∃ (t : Nat) (es : List Nat), t ≤ n ∧ n - t ≤ k ∧ z = .int .i64 (t : Nat) ∧ Row wx (.slice a2 n c2) es ∧ es.length = n ∧ Kept (fun k => (Value.slice a2 n c2).ownBlock = some k) w4 wx)
    case atStart => exact ⟨0, encB f, by omega, by omega, rfl, HR4.out, HN.out.1.symm, Kept.refl _ _⟩
    case round =>
      obtain ⟨t, es, ht, htk, rfl, hr, hel, hk⟩ := hrel
      have HR := hid hr
      have HK := hid hk
      by_cases hlt : t < n
      · obtain ⟨g2, rfl⟩ := HN.out.2.2 (fun e => by have := HN.out.1; rw [e] at this; simp at this; omega)
        have hc : ∃ y : Nat, wr.cell? ⟨g2, t, none⟩ = some (.int .u8 (y : Nat)) := ⟨_, Row.cell' hr t (by omega)⟩
        obtain ⟨y, hc⟩ := hc
        have hf : wr.frozen? ⟨g2, t, none⟩ = false := Row.frozen' hr _
        have HEL := hid hel
        clear hr hk hel
        go_wp2_with fail
        go_roundg (gk - 1)
        case measure => omega
        case rel => exact ⟨t + 1, es.set t 7, by omega, by omega, by go_num, Row.lay HR.out t 7, by rw [List.length_set]; exact HEL.out, HK.out.setCell _ _ (.inl rfl)⟩
      · have HK5 : Hid (Same W1 wr) := hid ((Same.trans HF2.out.kept (Same.trans HF3.out.kept HK4.out)).then HK.out (fun k hk e => by have := HF2.out.new k e; omega))
        obtain ⟨z0, z1, z2, z3⟩ := (HB.out.kept HK5.out (fun f => f)).two
        have HR3 : Hid (Row wr v3 (encB f)) := hid ((HF3.out.row.kept HK4.out (fun _ _ f => f)).kept HK.out (fun k e e2 => by
          have h1 := HF3.out.new k e
          have h2 := HF2.out.row.lt e2
          omega))
        clear hr hk hel
        go_wp2_with fail
        refine (fenc_any wr f).mono ?_
        rintro x w6 ⟨v6, rfl, hf6, _⟩
        rw [← HE.out]
        have HF6 := hid hf6
        clear hf6 z0 z1 z2 z3
        go_wp2_with fail
        refine (awake18 w6).mono ?_
        rintro x w7 ⟨rfl, hk7⟩
        have HK7 := hid hk7
        have HBY : Calls Try.prog 12 #[v6, v3] w7 fun e w' => e = .returned (.bool true) ∧ Same w7 w' := by
          have h9 := bytes18 w7 _ _ _ _ _ _ ((Src.ofRow HF6.out.row).kept hk7 (fun _ _ _ f => f)) (((Src.ofRow HR3.out).kept HF6.out.kept (fun _ _ _ f => f)).kept hk7 (fun _ _ _ f => f)) (by have := HN.out.1; have := HN.out.2.1; omega) (by have := HN.out.1; have := HN.out.2.1; omega)
          rw [decide_eq_true rfl] at h9
          exact h9
        clear hk7
        go_wp2_with fail
        refine HBY.mono ?_
        rintro x w8 ⟨rfl, hk8⟩
        have HK8 := hid hk8
        clear hk8 HBY
        go_wp2_with fail
        go_ret
        exact ⟨rfl, (Same.trans HK1.out (Same.trans HK5.out (Same.trans HF6.out.kept (Same.trans HK7.out HK8.out)))).below (Nat.le_refl _) (fun _ _ f => f)⟩

end Go.Proofs.Ytjjhjbmmhkcapaa
