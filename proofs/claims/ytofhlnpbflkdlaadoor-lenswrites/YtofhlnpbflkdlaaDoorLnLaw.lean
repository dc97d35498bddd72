/-
  What layer 4's laws lend and get back; a reader, some of whose bits are gone.
-/
import Derived.Test.YtofhlnpbflkdlaaDoorHKeep
import Derived.Test.YtofhlnpbflkdlaaDoorReader
namespace Go.Proofs.YtofhlnpbflkdlaaDoor
open Go.RowKit

set_option maxHeartbeats 1000000 in
theorem kept_any (w : World) (g : Nat) (v : Value) (I : Nat → Prop) (zs : List Int) (hL : Lent w g zs) (hsrc : SrcE intV w I v zs) (hlen : zs.length ≤ 10000000) :
    Calls Tryd.prog 14 #[.slice (some ⟨g, 0, none⟩) zs.length (zs.length + 1), v] w fun e w' => e = .returned (.bool true) ∧ Same w w' := by
  obtain ⟨ao, cap, rfl, hx1, hx2⟩ := id hsrc
  clear hx1 hx2
  have HC := keepInts_any _ _ _ _ zs zs w hL.src hsrc hlen hlen
  have hd : decide (zs = zs) = true := by simp
  have c1 : w.cell? ⟨g, zs.length, none⟩ = some (.int .i64 (-77)) := by
    rw [hL.row.cell zs.length (by simp)]; simp [intV]
  clear hsrc hL
  go_enter Tryd.func14, Tryd.ntmps14
  go_wp2_with fail
  refine HC.mono ?_
  rintro e w2 ⟨rfl, hk⟩
  have HK : Hid (Same w w2) := hk
  clear hk HC
  go_wp2_with fail
  go_ret
  exact ⟨rfl, HK.out⟩

set_option maxHeartbeats 1000000 in
theorem goneR_any (w : World) (v : Value) (I : Nat → Prop) (bs : List Nat) (n : Nat) (hs : Src w I v bs) (hlen : bs.length ≤ 100000000) (hb : ∀ b ∈ bs, b < 256) (hn : n ≤ 8 * bs.length) :
    Calls Tryd.prog 26 #[v, .int .i64 (n : Nat)] w fun e w' => ∃ p s, e = .returned (.pointer (some ⟨p, 0, none⟩)) ∧ St w' p s bs n ∧ Same w w' ∧ (∀ k, Fp p s k → w.heap.size ≤ k) := by
  have HC := newReader_any v I bs w hs (by omega) hb
  clear hs
  go_enter Tryd.func26, Tryd.ntmps26
  go_wp2_with fail
  refine HC.mono ?_
  rintro e w1 ⟨p, s, rfl, hst, hk, hf⟩
  have HS : Hid (St w1 p s bs 0) := hst
  have HK : Hid (Same w w1) := hk
  have HF : Hid (∀ k, Fp p s k → w.heap.size ≤ k) := hf
  clear hst hk hf HC
  go_wp2_with fail
  go_loopg [6] n (fun q zi wr => ∃ (i : Nat), n - i ≤ q ∧ i ≤ n ∧ zi = .int .i64 (i : Nat) ∧ Hid (St wr p s bs i) ∧ Hid (Same w wr))
  case atStart => exact ⟨0, by omega, by omega, rfl, HS, HK⟩
  case round =>
    clear HS HK
    obtain ⟨i, hq, hi, rfl, HS, HK⟩ := hrel
    by_cases hlt : i < n
    · have HT := take_good p i 1 s bs wr HS.out (by omega) (by decide) (by omega)
      have HT2 : Calls Tryd.prog 31 #[.pointer (some ⟨p, 0, none⟩), .int .i64 1] wr fun e w' => (∃ x, e = .returned x) ∧ St w' p s bs (i + 1) ∧ Kept (· = p) wr w' := HT.mono (by rintro e w' ⟨rfl, h1, h2⟩; exact ⟨⟨_, rfl⟩, h1, h2⟩)
      clear HT
      go_wp2_with fail
      refine HT2.mono ?_
      rintro e w2 ⟨⟨x, rfl⟩, h1, h2⟩
      have HS2 : Hid (St w2 p s bs (i + 1)) := h1
      have HK2 : Hid (Same w w2) := hid (Same.then HK.out h2 (fun y hy e => by have := HF.out p (.inl rfl); omega))
      clear h1 h2 HT2
      go_wp2_with fail
      go_roundg (gk - 1)
      case measure => omega
      case rel => exact ⟨i + 1, by omega, by omega, by go_num, HS2, HK2⟩
    · have hin : i = n := by omega
      subst hin
      go_wp2_with fail
      go_ret
      exact ⟨p, s, rfl, HS.out, HK.out, HF.out⟩

end Go.Proofs.YtofhlnpbflkdlaaDoor
