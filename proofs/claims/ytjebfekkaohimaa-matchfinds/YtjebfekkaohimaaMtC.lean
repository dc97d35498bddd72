/-
  The program's layer 6: say, Expand.
-/
import Derived.Test.YtjebfekkaohimaaMtB
namespace Go.Proofs.Ytjebfekkaohimaa
open Go.RowKit

set_option maxRecDepth 100000 in
set_option maxHeartbeats 2000000 in
theorem msay_any (w0 w : World) (v : Value) (out : List Nat) (t : TK) (hF : Fresh w0 w v out) (hm : mayT t out.length = true) (hl : out.length ≤ 100000) :
    Calls Try.prog 25 #[v, .agg (tkA t)] w fun e w' => ∃ v', e = .returned v' ∧ Fresh w0 w' v' (sayT out t) := by
  obtain ⟨ao, cap, rfl, hsh⟩ := hF.row.shape
  obtain ⟨lit, len, dist⟩ := t
  have hk0 : Same w (w.alloc (.cells #[.int .u8 (lit : Nat), .int .i64 len, .int .i64 dist] 38)) := (Kept.refl _ w).alloc _
  have HF0 : Hid (Fresh w0 (w.alloc (.cells #[.int .u8 (lit : Nat), .int .i64 len, .int .i64 dist] 38)) (.slice ao out.length cap) out) := hid (hF.later hk0 (fun _ f => f.elim))
  have HB0 : Hid (Blk (w.alloc (.cells #[.int .u8 (lit : Nat), .int .i64 len, .int .i64 dist] 38)) w.heap.size #[.int .u8 (lit : Nat), .int .i64 len, .int .i64 dist] 38) := hid (Blk.new w _ _)
  obtain ⟨L, hL⟩ : ∃ L, L = out.length := ⟨_, rfl⟩
  have HL : Hid (L = out.length) := hL
  have HNB : Hid ((Value.slice ao out.length cap).ownBlock ≠ some w.heap.size) := hid (fun e => by have := hF.row.lt e; omega)
  simp only [tkA]
  rcases mayT_cases hm with ⟨h0, h1, _⟩ | ⟨n, d, h0, h1, h2, h3, h4, h5, h6, _⟩
  · simp only at h0 h1
    subst h0 h1
    have HLN : Hid (out.length + [lit].length ≤ 1000000000000) := hid (by simp; omega)
    rw [← hL] at HF0 ⊢
    have HSY : Hid (sayT out ⟨lit, 0, 0⟩ = out ++ [lit]) := hid (by unfold sayT; rw [if_pos rfl])
    clear hm hF hsh hk0 hL hl HNB
    go_enter Try.func25, Try.ntmps25
    go_wp2_with (at_builtin; refine wpList_append_row _ rfl (.tmp 8) (.tmp 11) rfl (.slice ao L cap) out rfl (World.ownsRow.alloc HF0.out.row _) ⟨w.heap.size + 1, 0, none⟩ 1 1 [lit] rfl rfl (by have := bytesAt_new (w.alloc (.cells #[.int .u8 (lit : Nat), .int .i64 0, .int .i64 0] 38)) lit; simpa using this) HLN.out ?_; intro v' w1 hrow hgr hv')
    have R : Hid (Fresh w0 w1 v' (out ++ [lit])) := hid (HF0.out.app hrow hgr hv')
    clear hrow hgr hv' HLN
    go_wp2_with fail
    go_ret
    exact ⟨_, rfl, by rw [HSY.out]; exact R.out⟩
  · simp only at h0 h1 h2
    subst h0 h1 h2
    have HSY : Hid (sayT out ⟨0, (n : Int), (d : Int)⟩ = cpT d n out) := hid (by unfold sayT; rw [if_neg (by simp; omega)]; simp)
    have e0 : ((n : Int) == 0) = false := by simp; omega
    have HD : Hid (1 ≤ d ∧ d ≤ out.length) := hid ⟨h5, h6⟩
    rw [← hL] at HF0 ⊢
    have HHL : Hid (out.length ≤ 100000) := hl
    clear hm hF hsh hk0 hL hl h3 h5 h6
    go_enter Try.func25, Try.ntmps25
    go_wp2_with fail
    clear e0
    go_loopg [0, 15] n (fun q zo zi wr => ∃ (i : Nat), n - i ≤ q ∧ i ≤ n ∧ zi = .int .i64 (i : Nat) ∧ Hid (Fresh w0 wr zo (cpT d i out)) ∧ Hid (Blk wr w.heap.size #[.int .u8 0, .int .i64 (n : Nat), .int .i64 (d : Nat)] 38) ∧ Hid (zo.ownBlock ≠ some w.heap.size))
    case atStart => exact ⟨0, by omega, by omega, rfl, HF0, HB0, hid (by rw [HL.out]; exact HNB.out)⟩
    case round =>
      clear HF0 HB0 HNB
      obtain ⟨i, hq, hi, rfl, HF, HB, HNB⟩ := hrel
      by_cases hlt : i < n
      · obtain ⟨so, scap, hso, hsh⟩ := HF.out.row.shape
        rw [cpT_length] at hso
        obtain ⟨M, hM⟩ : ∃ M, M = out.length + i := ⟨_, rfl⟩
        rw [← hM] at hso
        subst hso
        obtain ⟨g, rfl⟩ := hsh (fun e => by have h9 := congrArg List.length e; rw [cpT_length] at h9; have := HD.out; rw [List.length_nil] at h9; omega)
        obtain ⟨p, hp⟩ : ∃ p, p = M - d := ⟨_, rfl⟩
        have hMd : (M : Int) - (d : Int) = (p : Int) := by have := HD.out; omega
        have hpM : p < M := by have := HD.out; omega
        have hMb : M ≤ 100300 := by have := HHL.out; omega
        have HX : Hid (cpT d (i + 1) out = cpT d i out ++ [(cpT d i out).getD p 0]) := hid (by rw [cpT_more, cpT_length, hp, hM])
        have cp : wr.cell? ⟨g, p, none⟩ = some (.int .u8 ((cpT d i out).getD p 0 : Nat)) := by
          have hr : Row wr (.slice (some ⟨g, 0, none⟩) (cpT d i out).length scap) (cpT d i out) := by rw [cpT_length, ← hM]; exact HF.out.row
          have hpl : p < (cpT d i out).length := by rw [cpT_length]; omega
          rw [hr.cell p hpl]
          simp [List.getD, hpl]
        have d2 : wr.cell? ⟨w.heap.size, 2, none⟩ = some (.int .i64 (d : Nat)) := HB.out.cell 2
        have HLN : Hid ((cpT d i out).length + [(cpT d i out).getD p 0].length ≤ 1000000000000) := hid (by rw [cpT_length]; have := HHL.out; simp; omega)
        obtain ⟨x, hx⟩ : ∃ x, x = (cpT d i out).getD p 0 := ⟨_, rfl⟩
        rw [← hx] at cp HX HLN
        have HNB2 : Hid (g ≠ w.heap.size) := hid (fun e => HNB.out (by rw [e]; rfl))
        have HW : Hid (w.heap.size < wr.heap.size) := hid HB.out.lt
        clear hM hp hx hsh
        go_wp2_with (at_builtin; refine wpList_append_row _ rfl (.tmp 17) (.tmp 26) rfl (.slice (some ⟨g, 0, none⟩) M scap) (cpT d i out) rfl (World.ownsRow.alloc HF.out.row _) ⟨wr.heap.size, 0, none⟩ 1 1 [x] rfl rfl (bytesAt_new _ _) HLN.out ?_; intro v' w1 hrow hgr hv')
        have R : Hid (Fresh w0 w1 v' (cpT d (i + 1) out)) := hid (by rw [HX.out]; exact HF.out.app hrow hgr hv')
        have hk1 : Kept (fun j => j = g) wr w1 := ((Kept.refl (fun j => j = g) wr).alloc _).grown hgr (fun k e => .inl (by simp [Value.ownBlock] at e; exact e.symm))
        have RB : Hid (Blk w1 w.heap.size #[.int .u8 0, .int .i64 (n : Nat), .int .i64 (d : Nat)] 38) := hid (HB.out.kept hk1 (fun e => HNB2.out e.symm))
        have RN : Hid (v'.ownBlock ≠ some w.heap.size) := hid (fun e => by
          have := HW.out
          rcases hv' with e1 | e1
          · rw [e1] at e; exact HNB2.out (by simpa [Value.ownBlock] using e)
          · rw [e1] at e; simp at e; omega)
        clear hrow hgr hv' HLN hk1
        go_wp2_with fail
        go_roundg (gk - 1)
        case measure => omega
        case rel => exact ⟨i + 1, by omega, by omega, by go_num, R, RB, RN⟩
      · have hin : i = n := by omega
        have HF2 : Hid (Fresh w0 wr u0 (cpT d n out)) := hid (by rw [← hin]; exact HF.out)
        clear hin
        go_wp2_with fail
        go_ret
        exact ⟨_, rfl, by rw [HSY.out]; exact HF2.out⟩

end Go.Proofs.Ytjebfekkaohimaa
