/-
  The reference's calls on rows of bits; what is written over.
-/
import Derived.Test.YtlbolkifdghhnaaBits
import Derived.Test.YtlbolkifdghhnaaReader
namespace Go.Proofs.Ytlbolkifdghhnaa
open Go.RowKit

/-- A row that came from another row by appending: what is known of it. -/
structure Grows (w w' : World) (v v' : Value) (bs : List Nat) : Prop where
  row : Row w' v' bs
  kept : Kept (fun k => v.ownBlock = some k) w w'
  own : Grew w v v'

theorem Grows.refl {w : World} {v : Value} {bs : List Nat} (h : Row w v bs) : Grows w w v v bs := ⟨h, Kept.refl _ _, .inl rfl⟩

/-- One byte more. -/
theorem Grows.app {w wr w1 : World} {v v1 v' : Value} {bs : List Nat} {x : Nat} {o : Obj} (h : Grows w wr v v1 bs) (hrow : Row w1 v' (bs ++ [x])) (hg : (wr.alloc o).grownBy w1 v1.ownBlock) (ho : v'.ownBlock = v1.ownBlock ∨ v'.ownBlock = some (wr.alloc o).heap.size) : Grows w w1 v v' (bs ++ [x]) := by
  have hsz := h.kept.size
  refine ⟨hrow, ?_, ?_⟩
  · refine Kept.grown (h.kept.alloc o) hg (fun k e => ?_)
    rcases h.own with e' | e'
    · exact .inl (by rw [← e', e])
    · exact .inr (e' k e)
  · rcases ho with e | e
    · rcases h.own with e' | e'
      · exact .inl (by rw [e, e'])
      · exact .inr (fun k hk => e' k (by rw [← e, hk]))
    · refine .inr (fun k hk => ?_)
      rw [e] at hk
      simp at hk
      omega

set_option maxHeartbeats 1000000 in
theorem refPut_any (w : World) (vl : Value) (ls : List Nat) (v n : Nat) (hrow : Row w vl ls) (hn : n ≤ 32) (hv : v < 4294967296) (hlen : ls.length ≤ 100000000) :
    Calls Try.prog 10 #[vl, .int .u32 (v : Nat), .int .i64 (n : Nat)] w fun e w' => ∃ v', e = .returned v' ∧ Grows w w' vl v' (ls ++ bitsOf v n) := by
  obtain ⟨ao, cap, hvl, _⟩ := hrow.shape
  have HR : Hid (Row w vl ls) := hrow
  clear hrow
  go_enter Try.func10, Try.ntmps10
  go_wp2
  go_loopg [0, 1, 7] n (fun k x y z wr => ∃ i u : Nat, i ≤ n ∧ n - i ≤ k ∧ z = .int .i64 (i : Nat) ∧ y = .int .u32 (u : Nat) ∧ u = v / 2 ^ i ∧ Grows w wr vl x (ls ++ bitsOf v i))
  case atStart => exact ⟨0, v, by omega, by omega, rfl, rfl, by simp, by simpa [bitsOf] using Grows.refl HR.out⟩
  case round =>
    obtain ⟨i, u, hi, hik, rfl, rfl, hu, hg⟩ := hrel
    have HU : Hid (u = v / 2 ^ i) := hu
    have hu2 : u < 4294967296 := by rw [hu]; exact Nat.lt_of_le_of_lt (Nat.div_le_self _ _) hv
    have HG : Hid (Grows w wr vl u0 (ls ++ bitsOf v i)) := hg
    have hlen2 : (ls ++ bitsOf v i).length + [u % 2].length ≤ 1000000000000 := by rw [List.length_append, bitsOf_length]; simp; omega
    have HL2 : Hid ((ls ++ bitsOf v i).length + [u % 2].length ≤ 1000000000000) := hlen2
    clear hu hg hlen2 hvl hv
    by_cases hlt : i < n
    · go_wp2_with (at_builtin; refine wpList_append_row _ rfl (.tmp 13) (.tmp 17) rfl u0 (ls ++ bitsOf v i) rfl (World.ownsRow.alloc HG.out.row _) ⟨wr.heap.size, 0, none⟩ 1 1 [u % 2] rfl rfl (bytesAt_int _ _ _ (by omega)) HL2.out ?_; intro v' w1 hrow hgr hv')
      have R : Hid (Grows w w1 vl v' (ls ++ bitsOf v (i + 1))) := by
        have h := HG.out.app hrow hgr hv'
        rw [List.append_assoc, HU.out] at h
        exact h
      clear hrow hgr hv' HL2
      go_wp2
      go_roundg (gk - 1)
      case measure => omega
      case rel => exact ⟨i + 1, u / 2, by omega, by omega, by go_num, by go_num, by rw [HU.out, Nat.div_div_eq_div_mul, ← Nat.pow_succ], R.out⟩
    · have hin : i = n := by omega
      subst hin
      go_wp2
      go_ret
      exact ⟨_, rfl, HG.out⟩

/-- How many noughts Align lays. -/
def gap (n : Nat) : Nat := (n + 7) / 8 * 8 - n

set_option maxHeartbeats 1000000 in
theorem refAlign_any (w : World) (vl : Value) (ls : List Nat) (hrow : Row w vl ls) (hlen : ls.length ≤ 100000000) :
    Calls Try.prog 12 #[vl] w fun e w' => ∃ v', e = .returned v' ∧ Grows w w' vl v' (ls ++ List.replicate (gap ls.length) 0) := by
  have HR : Hid (Row w vl ls) := hrow
  clear hrow
  go_enter Try.func12, Try.ntmps12
  go_wp2
  go_loopg [0] (gap ls.length) (fun k x wr => ∃ i : Nat, i ≤ gap ls.length ∧ gap ls.length - i ≤ k ∧ Grows w wr vl x (ls ++ List.replicate i 0))
  case atStart => exact ⟨0, by omega, by omega, by simpa using Grows.refl HR.out⟩
  case round =>
    obtain ⟨i, hi, hik, hg⟩ := hrel
    obtain ⟨ao, cap, hv, _⟩ := hg.row.shape
    have HG : Hid (Grows w wr vl u0 (ls ++ List.replicate i 0)) := hg
    have HLN : Hid (gap ls.length = (ls.length + 7) / 8 * 8 - ls.length) := rfl
    have hln := HLN.out
    rw [List.length_append, List.length_replicate] at hv
    have HV : Hid (u0 = Value.slice ao (ls.length + i) cap) := hv
    obtain ⟨L, hL⟩ : ∃ L, L = ls.length + i := ⟨_, rfl⟩
    obtain ⟨G, hG⟩ : ∃ G, G = gap ls.length := ⟨_, rfl⟩
    have HGG : Hid (G = gap ls.length) := hG
    have HLL : Hid (L = ls.length + i) := hL
    rw [← hG] at hi hik hln
    have HL2 : Hid ((ls ++ List.replicate i 0).length + [0].length ≤ 1000000000000) := by show _ ≤ _; rw [List.length_append, List.length_replicate]; simp; omega
    rw [← hL] at hv
    have HG2 : Hid (Grows w wr vl (.slice ao L cap) (ls ++ List.replicate i 0)) := by rw [← hv]; exact HG.out
    subst hv
    have hLb : L ≤ 100000010 := by omega
    by_cases hlt : i < G
    · have hmod : ¬ L % 8 = 0 := by omega
      clear hg hln hL hG
      go_wp2_with (at_builtin; refine wpList_append_row _ rfl (.tmp 7) (.tmp 8) rfl (.slice ao L cap) (ls ++ List.replicate i 0) rfl (World.ownsRow.alloc HG2.out.row _) ⟨wr.heap.size, 0, none⟩ 1 1 [0] rfl rfl (bytesAt_new _ 0) HL2.out ?_; intro v' w1 hrow hgr hv')
      have R : Hid (Grows w w1 vl v' (ls ++ List.replicate (i + 1) 0)) := by
        have h := HG2.out.app hrow hgr hv'
        rw [List.append_assoc, ← List.replicate_succ'] at h
        exact h
      clear hrow hgr hv' HL2
      go_wp2
      go_roundg (gk - 1)
      case measure => omega
      case rel => exact ⟨i + 1, by rw [← HGG.out]; omega, by rw [← HGG.out]; omega, R.out⟩
    · have hmod : L % 8 = 0 := by omega
      clear hg hln hL hG
      go_wp2
      go_ret
      have hiG : i = gap ls.length := by have := HGG.out; omega
      subst hiG
      exact ⟨_, rfl, HG2.out⟩

end Go.Proofs.Ytlbolkifdghhnaa
