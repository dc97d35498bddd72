/-
  The reference's Bytes; what is written over.
-/
import Derived.Test.YtlbolkifdghhnaaRef
namespace Go.Proofs.Ytlbolkifdghhnaa
open Go.RowKit

theorem Grows.ofNil {w wr : World} {v v' : Value} {bs : List Nat} (h : Grows w wr v v' bs) (hv : v.ownBlock = none) : Kept (fun _ => False) w wr ∧ ∀ k, v'.ownBlock = some k → w.heap.size ≤ k := by
  refine ⟨h.kept.mono (fun x _ e => by rw [hv] at e; cases e), fun k hk => ?_⟩
  rcases h.own with e | e
  · rw [e, hv] at hk; cases hk
  · exact e k hk

set_option maxHeartbeats 2000000 in
theorem refBytes_any (w : World) (vl : Value) (I : Nat → Prop) (ls : List Nat) (hsrc : Src w I vl ls) (hI : ∀ k, I k → k < w.heap.size) (hb : ∀ b ∈ ls, b < 2) (hlen : ls.length ≤ 100000000) :
    Calls Try.prog 16 #[vl] w fun e w' => ∃ v', e = .returned v' ∧ Row w' v' (outOf ls ((ls.length + 7) / 8)) ∧ Kept (fun _ => False) w w' ∧ ∀ k, v'.ownBlock = some k → w.heap.size ≤ k := by
  obtain ⟨ao, cap, rfl, _⟩ := id hsrc
  have HS : Hid (Src w I (.slice ao ls.length cap) ls) := hsrc
  have HI : Hid (∀ k, I k → k < w.heap.size) := hI
  have HB : Hid (∀ b ∈ ls, b < 2) := hb
  clear hsrc hI hb
  go_enter Try.func16, Try.ntmps16
  go_wp2
  go_loopg [3, 4] (ls.length + 8) (fun k x y wr => ∃ j : Nat, j ≤ (ls.length + 7) / 8 ∧ ls.length + 8 - 8 * j ≤ k ∧ y = .int .i64 ((8 * j : Nat) : Int) ∧ Grows w wr (.slice none 0 0) x (outOf ls j))
  case atStart => exact ⟨0, by omega, by omega, rfl, Grows.refl (World.ownsRow_nil _ _ _ _)⟩
  case round =>
    obtain ⟨j, hj, hjk, rfl, hg⟩ := hrel
    have HG : Hid (Grows w wr (.slice none 0 0) u3 (outOf ls j)) := hg
    have hk0 := (hg.ofNil rfl).1
    have HS2 : Hid (Src wr I (.slice ao ls.length cap) ls) := HS.out.kept hk0 (fun _ _ _ e => e)
    clear hg hk0
    obtain ⟨J, hJ⟩ : ∃ J, J = 8 * j := ⟨_, rfl⟩
    have HJ : Hid (J = 8 * j) := hJ
    rw [← hJ] at hjk
    rw [← hJ]
    by_cases hlt : J < ls.length
    · obtain ⟨b, o, rfl, _, hcell⟩ : ∃ b o, ao = some ⟨b, o, none⟩ ∧ True ∧ ∀ t (_ : t < ls.length), wr.cell? ⟨b, o + t, none⟩ = some (.int .u8 (ls[t] : Nat)) := by
        obtain ⟨ao', cap', e1, e2⟩ := HS2.out
        injection e1 with e3 _ _
        subst e3
        obtain ⟨b, o, e4, _, e5⟩ := e2 (by intro e; rw [e] at hlt; simp at hlt)
        exact ⟨b, o, e4, trivial, e5⟩
      have HC : Hid (∀ t (_ : t < ls.length), wr.cell? ⟨b, o + t, none⟩ = some (.int .u8 (ls[t] : Nat))) := hcell
      clear hcell hJ
      obtain ⟨g0, hg0⟩ : ∃ g0, g0 = gk := ⟨_, rfl⟩
      subst hg0
      go_wp2_with fail
      go_loopg [5, 6, 7] 8 (fun k x y z wx => ∃ t C : Nat, t ≤ 8 ∧ J + t ≤ ls.length ∧ 8 - t ≤ k ∧ z = .int .i64 ((J + t : Nat) : Int) ∧ y = .int .i64 ((2 ^ t : Nat) : Int) ∧ x = .int .i64 (C : Nat) ∧ C = n2 ((ls.drop J).take t) ∧ wx = wr)
      case atStart => exact ⟨0, 0, by omega, by omega, by omega, rfl, rfl, rfl, rfl, rfl⟩
      case round =>
        obtain ⟨t, C, ht, htl, htk, rfl, rfl, rfl, hC, rfl⟩ := hrel
        have HCC : Hid (C = n2 ((ls.drop J).take t)) := hC
        have hC8 : C < 256 := by
          rw [hC]
          exact Nat.lt_of_lt_of_le (n2_take_lt ls HB.out J t) (Nat.le_trans (Nat.pow_le_pow_right (by omega) ht) (by decide))
        obtain ⟨W, hW⟩ : ∃ W, W = 2 ^ t := ⟨_, rfl⟩
        have hW8 : W ≤ 256 := by rw [hW]; exact Nat.le_trans (Nat.pow_le_pow_right (by omega) ht) (by decide)
        have HW : Hid (W = 2 ^ t) := hW
        rw [← hW]
        obtain ⟨T, hT⟩ : ∃ T, T = J + t := ⟨_, rfl⟩
        have hT1 : T = J + t := hT
        have HT : Hid (T = J + t) := hT
        rw [← hT]
        clear hC hW hT
        by_cases hgo : t < 8 ∧ T < ls.length
        · obtain ⟨hg1, hg2⟩ := hgo
          have hc := HC.out T hg2
          obtain ⟨x, hx⟩ : ∃ x, x = ls[T] := ⟨_, rfl⟩
          rw [← hx] at hc
          have hx2 : x < 2 := by rw [hx]; exact HB.out _ (List.getElem_mem _)
          have HX : Hid (x = ls[T]) := hx
          have hd1 : decide ((T : Int) < (J : Int) + 8) = true := by simp; omega
          have hd2 : decide ((T : Int) < (ls.length : Int)) = true := by simp; omega
          have hn : n2 ((ls.drop J).take (t + 1)) = C + x * W := by
            have hl : t < (ls.drop J).length := by simp; omega
            rw [n2_take_succ _ _ hl, HCC.out, HW.out, HX.out]
            simp [hT1]
          have HN : Hid (n2 ((ls.drop J).take (t + 1)) = C + x * W) := hn
          clear hx hn hT1
          rcases (show x = 0 ∨ x = 1 by omega) with rfl | rfl
          · go_wp2_with fail
            go_roundg (gk - 1)
            case measure => omega
            case rel => exact ⟨t + 1, C + 0 * W, by omega, by have := HT.out; omega, by omega, by have := HT.out; go_num, by rw [Nat.pow_succ, ← HW.out]; go_num, by go_num, HN.out.symm, rfl⟩
          · go_wp2_with fail
            go_roundg (gk - 1)
            case measure => omega
            case rel => exact ⟨t + 1, C + 1 * W, by omega, by have := HT.out; omega, by omega, by have := HT.out; go_num, by rw [Nat.pow_succ, ← HW.out]; go_num, by go_num, HN.out.symm, rfl⟩
        · have hCj : C = n2 ((ls.drop (8 * j)).take 8) := by
            rw [HCC.out, ← HJ.out]
            by_cases h8 : t = 8
            · rw [h8]
            · have : T = ls.length := by omega
              rw [List.take_of_length_le (l := ls.drop J) (i := t) (by simp; omega), List.take_of_length_le (l := ls.drop J) (i := 8) (by simp; omega)]
          have HCj : Hid (outOf ls j ++ [C] = outOf ls (j + 1)) := by show _ = _; rw [outOf, hCj]
          have HL2 : Hid ((outOf ls j).length + [C].length ≤ 1000000000000) := by show _ ≤ _; rw [outOf_length]; simp; omega
          clear hCj
          by_cases h8 : t < 8
          · have hd1 : decide ((T : Int) < (J : Int) + 8) = true := by simp; omega
            have hd2 : decide ((T : Int) < (ls.length : Int)) = false := by simp; omega
            clear hT1
            go_wp2_with (at_builtin; refine wpList_append_row _ rfl (.tmp 38) (.tmp 41) rfl u3 (outOf ls j) rfl (World.ownsRow.alloc HG.out.row _) ⟨wr.heap.size, 0, none⟩ 1 1 [C] rfl rfl (bytesAt_int _ _ _ (by omega)) HL2.out ?_; intro v' w1 hrow hgr hv')
            have R : Hid (Grows w w1 (.slice none 0 0) v' (outOf ls (j + 1))) := by
              have h := HG.out.app hrow hgr hv'
              rw [HCj.out] at h
              exact h
            clear hrow hgr hv'
            go_roundg (ls.length + 8 - 8 * (j + 1))
            case measure => have := HJ.out; omega
            case rel => exact ⟨j + 1, by have := HJ.out; omega, Nat.le_refl _, by have := HJ.out; go_num, R.out⟩
          · have hd1 : decide ((T : Int) < (J : Int) + 8) = false := by simp; omega
            clear hT1
            go_wp2_with (at_builtin; refine wpList_append_row _ rfl (.tmp 38) (.tmp 41) rfl u3 (outOf ls j) rfl (World.ownsRow.alloc HG.out.row _) ⟨wr.heap.size, 0, none⟩ 1 1 [C] rfl rfl (bytesAt_int _ _ _ (by omega)) HL2.out ?_; intro v' w1 hrow hgr hv')
            have R : Hid (Grows w w1 (.slice none 0 0) v' (outOf ls (j + 1))) := by
              have h := HG.out.app hrow hgr hv'
              rw [HCj.out] at h
              exact h
            clear hrow hgr hv'
            go_roundg (ls.length + 8 - 8 * (j + 1))
            case measure => have := HJ.out; omega
            case rel => exact ⟨j + 1, by have := HJ.out; omega, Nat.le_refl _, by have := HJ.out; go_num, R.out⟩
    · clear hJ
      go_wp2_with fail
      go_ret
      have h1 : j = (ls.length + 7) / 8 := by have := HJ.out; omega
      subst h1
      have h2 := HG.out.ofNil rfl
      exact ⟨_, rfl, HG.out.row, h2.1, h2.2⟩

/-- A byte of a row is written. -/
theorem Row.set {w : World} {g n cap : Nat} {ds : List Nat} (h : Row w (.slice (some ⟨g, 0, none⟩) n cap) ds) (j x : Nat) : Row (w.setCell ⟨g, j, none⟩ (.int .u8 x)) (.slice (some ⟨g, 0, none⟩) n cap) (ds.set j x) := by
  have hl : ds.length = n := by
    rcases h.2 with ⟨e, _⟩ | ⟨_, _, _, e, _⟩
    · simp at e
    · injection e with _ e _; exact e.symm
  subst hl
  have := (World.ownsRow.stored h j (.int .u8 x)).1
  rw [show (Value.int .u8 x) = byteV x from rfl, ← List.map_set] at this
  unfold Row
  rw [List.length_set]
  exact this

set_option maxHeartbeats 1000000 in
theorem spoil_any (w : World) (g n : Nat) (ds : List Nat) (hrow : Row w (.slice (some ⟨g, 0, none⟩) n n) ds) (hn : n ≤ 100000000) (hb : ∀ b ∈ ds, b < 256) :
    Calls Try.prog 17 #[.slice (some ⟨g, 0, none⟩) n n] w fun e w' => e = .returned (.tuple #[]) ∧ Kept (· = g) w w' := by
  have HR : Hid (Row w (.slice (some ⟨g, 0, none⟩) n n) ds) := hrow
  have HB : Hid (∀ b ∈ ds, b < 256) := hb
  clear hrow hb
  go_enter Try.func17, Try.ntmps17
  go_wp2
  go_loopg [2] n (fun k x wr => ∃ (j : Nat) (es : List Nat), j ≤ n ∧ n - j ≤ k ∧ x = .int .i64 (j : Nat) ∧ es.length = n ∧ Row wr (.slice (some ⟨g, 0, none⟩) n n) es ∧ (∀ b ∈ es, b < 256) ∧ Kept (· = g) w wr)
  case atStart =>
    have hl : ds.length = n := by
      rcases HR.out.2 with ⟨e, _⟩ | ⟨_, _, _, e, _⟩
      · simp at e
      · injection e with _ e _; exact e.symm
    exact ⟨0, ds, by omega, by omega, rfl, hl, HR.out, HB.out, Kept.refl _ _⟩
  case round =>
    obtain ⟨j, es, hj, hjk, rfl, hl, hr, hb, hk⟩ := hrel
    have HR2 : Hid (Row wr (.slice (some ⟨g, 0, none⟩) n n) es) := hr
    have HB2 : Hid (∀ b ∈ es, b < 256) := hb
    have HK2 : Hid (Kept (· = g) w wr) := hk
    have HL2 : Hid (es.length = n) := hl
    by_cases hlt : j < n
    · have hje : j < es.length := by omega
      have hc : wr.cell? ⟨g, j, none⟩ = some (.int .u8 (es[j] : Nat)) := by
        have h2 := hr
        rw [← hl] at h2
        exact Row.cell h2 j hje
      have hf : wr.frozen? ⟨g, j, none⟩ = false := by
        have h2 := hr
        rw [← hl] at h2
        exact World.ownsRow.frozenAt h2 j
      obtain ⟨x, hx⟩ : ∃ x, x = es[j] := ⟨_, rfl⟩
      have hx2 : x < 256 := by rw [hx]; exact hb _ (List.getElem_mem _)
      rw [← hx] at hc
      clear hr hb hk hl hje hx
      go_wp2
      go_roundg (gk - 1)
      case measure => omega
      case rel =>
        refine ⟨j + 1, es.set j ((x + 99) % 256), by omega, by omega, by go_num, by rw [List.length_set]; exact HL2.out, ?_, ?_, HK2.out.setCell _ _ (.inl rfl)⟩
        · have h := Row.set HR2.out j ((x + 99) % 256)
          rw [show (((x + 99) % 256 : Nat) : Int) = ((x : Int) + 99) % 256 by omega] at h
          exact h
        · intro b hb
          rcases List.mem_or_eq_of_mem_set hb with h | h
          · exact HB2.out b h
          · omega
    · clear hr hb hk hl
      go_wp2
      go_end0
      exact ⟨rfl, HK2.out⟩

end Go.Proofs.Ytlbolkifdghhnaa
