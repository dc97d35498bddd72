/-
  The reference's padded.
-/
import Derived.Test.YtgbfhpilhnbnjaaDoorHmH
import Derived.Test.YtgbfhpilhnbnjaaDoorHmQ
import Derived.Test.YtgbfhpilhnbnjaaDoorHmK
namespace Go.Proofs.YtgbfhpilhnbnjaaDoor
open Go.RowKit

/-- The last m bytes of a number of N bytes, noughts ahead. -/
def bkF (x N m : Nat) : List Nat := List.replicate (N - m) 0 ++ (beB x N).drop (N - m)

theorem bkF_length (x N m : Nat) (h : m ≤ N) : (bkF x N m).length = N := by
  unfold bkF
  rw [List.length_append, List.length_replicate, List.length_drop, beB_length]
  omega

theorem bkF_zero (x N : Nat) : bkF x N 0 = List.replicate N 0 := by
  unfold bkF
  rw [Nat.sub_zero, List.drop_of_length_le (by rw [beB_length]; exact Nat.le_refl _), List.append_nil]

theorem bkF_all (x N : Nat) : bkF x N N = beB x N := by
  unfold bkF
  rw [Nat.sub_self, List.replicate_zero, List.nil_append, List.drop_zero]

theorem bkF_next (x N m : Nat) (h : m < N) : (bkF x N m).set (N - 1 - m) (x / 256 ^ m % 256) = bkF x N (m + 1) := by
  unfold bkF
  have hl := beB_length x N
  have e1 : N - m = (N - (m + 1)) + 1 := by omega
  have e2 : N - 1 - m = N - (m + 1) := by omega
  rw [e2, e1, List.replicate_succ', List.append_assoc, List.set_append_right _ _ (by simp), List.length_replicate, Nat.sub_self, List.singleton_append, List.set_cons_zero]
  congr 1
  rw [List.drop_eq_getElem_cons (i := N - (m + 1)) (by omega)]
  congr 1
  have h2 := beB_get x N (N - (m + 1)) (by omega)
  rw [List.getD_eq_getElem?_getD, List.getElem?_eq_getElem (by omega), Option.getD_some, show N - 1 - (N - (m + 1)) = m by omega] at h2
  exact h2.symm

theorem Tryd.zeroB8 : (Tryd.prog.info? 50).bind (·.zero) = some (.agg ((List.replicate 8 0).map byteV).toArray) := by kernel_rfl

set_option maxRecDepth 100000 in
set_option maxHeartbeats 1000000 in
theorem rpadded_any (w : World) (aa : Option Addr) (n ca : Nat) (b : List Nat) (ha : Arg15 w (.slice aa n ca) b) (hl : b.length = n) (hn : n ≤ 1000000000) :
    Calls Tryd.prog 21 #[.slice aa n ca] w fun e w' => ∃ v, e = .returned v ∧ Fresh w w' v (padB b) := by
  have HA := hid ha
  have HL := hid hl
  obtain ⟨Z, hZ⟩ : ∃ Z, Z = zeN n := ⟨_, rfl⟩
  have hZ64 : Z < 64 := by rw [hZ]; unfold zeN; omega
  have HZ := hid hZ
  clear ha hl hZ
  go_enter Tryd.func21, Tryd.ntmps21
  go_wp2_with (at_builtin; (first
    | (refine wpList_append_any _ rfl (.tmp 7) (.tmp 8) rfl (.slice none 0 0) [] rfl (row_none15 _) (fun k => k < w.heap.size) (.slice aa n ca) b rfl HA.out.nil HA.out.src (by have := HL.out; simp; omega) ?_; intro v4 w4 hr4 hg4 hv4; have HF4 : Hid (Fresh w w4 v4 b) := hid ⟨by simpa using hr4, (Kept.refl _ _).grown hg4 (fun k e => by cases e), fun k hk => by rcases hv4 with q | q; (rw [q] at hk; cases hk); (rw [q] at hk; cases hk; exact Nat.le_refl _)⟩; clear hr4 hg4 hv4)
    | (refine wpList_append_row _ rfl (.tmp 10) (.tmp 11) rfl v4 b rfl (World.ownsRow.alloc HF4.out.row _) ⟨w4.heap.size, 0, none⟩ 1 1 [128] rfl rfl (bytesAt_int _ _ _ (by omega)) (by have := HL.out; simp; omega) ?_; intro v5 w5 hrow hgr hv'; have HF5 : Hid (Fresh w w5 v5 (b ++ 128 :: List.replicate 0 0)) := hid (HF4.out.app hrow hgr hv'); clear hrow hgr hv')))
  obtain ⟨a5, c5, e5, _⟩ := HF5.out.row.shape
  have hl5 : (b ++ 128 :: List.replicate 0 0).length = n + 1 := by have := HL.out; simp; omega
  rw [e5, hl5] at HF5
  rw [e5, hl5]
  clear e5 hl5
  go_loopg [3] Z (fun k o wr => ∃ (i l : Nat) (a : Option Addr) (c : Nat), i ≤ Z ∧ Z - i ≤ k ∧ l = n + 1 + i ∧ o = .slice a l c ∧ Hid (Fresh w wr (.slice a l c) (b ++ 128 :: List.replicate i 0)))
  case atStart => exact ⟨0, n + 1, a5, c5, by omega, by omega, rfl, rfl, HF5⟩
  case round =>
    clear HF5
    obtain ⟨i, l, a, c, hi, hik, hl, rfl, HF⟩ := hrel
    obtain ⟨t3, ht3⟩ : ∃ t, t = l % 64 := ⟨_, rfl⟩
    have i3 : (l : Int) % 64 = (t3 : Int) := by omega
    have i4 : Int.tmod (l : Int) 64 = (t3 : Int) := by rw [Int.tmod_eq_emod_of_nonneg (by omega)]; exact i3
    have HLL := hid hl
    have b3 : l ≤ 2000000000 := by omega
    by_cases hlt : i < Z
    · have h3 : t3 ≠ 56 := by have hz := HZ.out; rw [hz] at hlt; unfold zeN at hlt; omega
      have h4 : ((t3 : Int) != 56) = true := by simp; omega
      have h5 : ((t3 : Int) == 56) = false := by simp; omega
      have HL2 : Hid ((b ++ 128 :: List.replicate i 0).length + [0].length ≤ 1000000000000) := hid (by have := HL.out; simp; omega)
      clear hl ht3
      go_wp2_with (at_builtin; refine wpList_append_row _ rfl (.tmp 17) (.tmp 18) rfl (.slice a l c) (b ++ 128 :: List.replicate i 0) rfl (World.ownsRow.alloc HF.out.row _) ⟨wr.heap.size, 0, none⟩ 1 1 [0] rfl rfl (bytesAt_int _ _ _ (by omega)) HL2.out ?_; intro v' w1 hrow hgr hv'; have HF1 : Hid (Fresh w w1 v' (b ++ 128 :: List.replicate (i + 1) 0)) := hid (by have h := HF.out.app hrow hgr hv'; rw [show b ++ 128 :: List.replicate i 0 ++ [0] = b ++ 128 :: List.replicate (i + 1) 0 by rw [List.replicate_succ', List.append_assoc]; rfl] at h; exact h); obtain ⟨a9, c9, e9, _⟩ := HF1.out.row.shape; clear hrow hgr hv')
      go_roundg (gk - 1)
      case measure => omega
      case rel =>
        have h1 := HL.out
        have h2 := HLL.out
        have h3 : (b ++ 128 :: List.replicate (i + 1) 0).length = n + 1 + (i + 1) := by simp; omega
        refine ⟨i + 1, n + 1 + (i + 1), a9, c9, by omega, by omega, rfl, ?_, ?_⟩
        · first | (rw [e9, h3]) | (simp; omega)
        · rw [e9, h3] at HF1
          exact HF1
    · have h3 : t3 = 56 := by have hz := HZ.out
                              have hiz : i = Z := by omega
                              rw [hz] at hiz
                              unfold zeN at hiz
                              omega
      have hiz : i = Z := by omega
      subst h3
      rw [hiz] at HF
      obtain ⟨L, hL⟩ : ∃ L, L = 8 * n := ⟨_, rfl⟩
      have iL : 8 * (n : Int) = (L : Int) := by omega
      have bL : L ≤ 8000000000 := by omega
      have HT : Hid (padB b = (b ++ 128 :: List.replicate Z 0) ++ beB L 8) := hid (by
        unfold padB tailB
        rw [HL.out, ← HZ.out, ← hL, List.append_assoc]
        rfl)
      clear hL ht3 hiz hlt hik hi hl
      go_wp2_with (first
        | (with_reducible refine at_alloc 50 5 ?_; refine wpl_alloc 50 _ Tryd.zeroB8 ?_; intro w6 g6 hB6 hk6 hg6 hl6; have HB6 := hid hB6; have HK6 := hid hk6; clear hB6 hk6))
      clear i3 i4
      have HB7 : Hid (Blk w6 g6 ((bkF L 8 0).map byteV).toArray 50) := hid (by rw [bkF_zero]; exact HB6.out)
      have HF7 : Hid (Fresh w w6 (.slice a l c) (b ++ 128 :: List.replicate Z 0)) := hid (HF.out.later HK6.out (fun _ f => f.elim))
      have hrs := HF.out.kept.size
      have HNB : Hid (∀ k, (Value.slice a l c).ownBlock = some k → k ≠ g6) := hid (fun k hk e => by have := HF.out.row.lt hk; omega)
      clear HB6
      go_loopg [4, 6] 8 (fun q y z wr => ∃ (k : Nat), k ≤ 8 ∧ 8 - k ≤ q ∧ z = .int .i64 (7 - (k : Int)) ∧ y = .int .i64 ((L / 256 ^ k : Nat) : Int) ∧ Hid (Blk wr g6 ((bkF L 8 k).map byteV).toArray 50) ∧ Hid (Kept (· = g6) w6 wr))
      case atStart => exact ⟨0, by omega, by omega, by rfl, by simp, HB7, hid (Kept.refl _ _)⟩
      case round =>
        clear HB7
        obtain ⟨k, hk, hkq, rfl, rfl, HBk, HKk⟩ := hrel
        by_cases hlt : k < 8
        · obtain ⟨m, hm⟩ : ∃ m, m = 7 - k := ⟨_, rfl⟩
          have e1 : 7 - (k : Int) = (m : Int) := by omega
          obtain ⟨y, hy⟩ : ∃ y, y = L / 256 ^ k := ⟨_, rfl⟩
          have hyL : y ≤ 8000000000 := by rw [hy]; exact Nat.le_trans (Nat.div_le_self _ _) bL
          have HY1 : Hid (L / 256 ^ (k + 1) = y / 256) := hid (by rw [hy, Nat.div_div_eq_div_mul, Nat.pow_succ])
          have HNX := hid (bkF_next L 8 k hlt)
          rw [← hy, show 8 - 1 - k = m by omega] at HNX
          rw [← hy, e1]
          obtain ⟨z, hz⟩ : ∃ z, z = y % 256 := ⟨_, rfl⟩
          rw [← hz] at HNX
          have z1 : (y : Int) % 256 = (z : Int) := by omega
          have z2 : Int.tmod (y : Int) 256 = (z : Int) := by rw [Int.tmod_eq_emod_of_nonneg (by omega)]; exact z1
          obtain ⟨y2, hy2⟩ : ∃ y2, y2 = y / 256 := ⟨_, rfl⟩
          have z3 : (y : Int) / 256 = (y2 : Int) := by omega
          have z256 : z < 256 := by omega
          rw [← hy2] at HY1
          have cz := HBk.out.bcell m (by rw [bkF_length _ _ _ hk]; omega)
          have fz := HBk.out.frozen m
          have p1 : (0 : Int) ≤ (m : Int) := by omega
          have p2 : (m : Int) < 8 := by omega
          have p3 : m < 8 := by omega
          have HE1 : Hid (m = 7 - k) := hid hm
          clear hm hy hz hy2 e1
          go_wp2_with fail
          go_roundg (gk - 1)
          case measure => omega
          case rel =>
            refine ⟨k + 1, by omega, by omega, by have := HE1.out; congr 1; omega, by rw [HY1.out], ?_, hid (HKk.out.setCell _ _ (.inl rfl))⟩
            have h9 := HBk.out.bset m z
            rw [HNX.out] at h9
            exact hid h9
        · have hk8 : k = 8 := by omega
          subst hk8
          rw [bkF_all] at HBk
          have HFk : Hid (Row wr (.slice a l c) (b ++ 128 :: List.replicate Z 0)) := hid (HF7.out.row.kept HKk.out (fun k hk e => HNB.out k hk e))
          have HSk := hid (src_arr HBk.out 8 (beB_length L 8))
          have HKw : Hid (Same w wr) := hid (Same.then HF7.out.kept HKk.out (fun x hx e => by omega))
          go_wp2_with (at_builtin; refine wpList_append_any _ rfl (.tmp 34) (.tmp 35) rfl (.slice a l c) (b ++ 128 :: List.replicate Z 0) rfl HFk.out (· = g6) (.slice (some ⟨g6, 0, none⟩) 8 8) (beB L 8) rfl (fun n c e => by cases e) HSk.out (by have := HL.out; rw [beB_length]; simp; omega) ?_; intro v' w9 hrow hgr hv'; have HF9 : Hid (Fresh w w9 v' (padB b)) := hid (by rw [HT.out]; exact ⟨hrow, Kept.grown HKw.out hgr (fun k e => .inr (HF7.out.new k e)), fun k hk => by rcases hv' with q | q; (rw [q] at hk; exact HF7.out.new k hk); (rw [q] at hk; cases hk; exact HKw.out.size)⟩); clear hrow hgr hv')
          go_ret
          exact ⟨_, rfl, HF9.out⟩

end Go.Proofs.YtgbfhpilhnbnjaaDoor
