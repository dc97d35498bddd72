/-
  The reader's calls; the writer's Bytes; two rows of bytes held against one another.
-/
import Derived.Test.YtofhlnpbflkdlabDoorCut
import Derived.Test.YtofhlnpbflkdlabDoorWriter
namespace Go.Proofs.YtofhlnpbflkdlabDoor
open Go.RowKit

theorem ret_int {k : IntKind} {a b : Int} (h : a = b) : Ending.returned (.int k a) = .returned (.int k b) := by rw [h]

theorem left_nil (w : World) :
    Calls Tryd.prog 52 #[.pointer none] w fun e w' => e = .returned (.int .i64 0) ∧ w' = w := by
  go_enter Tryd.func52, Tryd.ntmps52
  go_wp2
  go_ret
  exact ⟨rfl, rfl⟩

theorem left_any (p c : Nat) (s : Value) (bs : List Nat) (w : World) (h : St w p s bs c) (hc : c ≤ 8 * bs.length) (hlen : bs.length ≤ 100000000000) :
    Calls Tryd.prog 52 #[.pointer (some ⟨p, 0, none⟩)] w fun e w' => e = .returned (.int .i64 ((8 * bs.length - c : Nat) : Int)) ∧ ∃ m, w' = w.drewN m := by
  obtain ⟨ao, cap, hv, _⟩ := h.row.shape
  have hcb := h.cb
  have hcc := h.cc
  rw [hv] at hcb
  clear h hv
  go_enter Tryd.func52, Tryd.ntmps52
  go_wp2
  go_quiet (fail)
  go_wp2
  go_ret
  exact ⟨ret_int (by omega), _, rfl⟩

theorem gone_nil (w : World) :
    Calls Tryd.prog 12 #[.pointer none] w fun e w' => e = .returned (.int .i64 0) ∧ w' = w := by
  go_enter Tryd.func12, Tryd.ntmps12
  go_wp2
  go_ret
  exact ⟨rfl, rfl⟩

theorem gone_any (p c : Nat) (s : Value) (bs : List Nat) (w : World) (h : St w p s bs c) :
    Calls Tryd.prog 12 #[.pointer (some ⟨p, 0, none⟩)] w fun e w' => e = .returned (.int .i64 (c : Nat)) ∧ w' = w := by
  have hcc := h.cc
  clear h
  go_enter Tryd.func12, Tryd.ntmps12
  go_wp2
  go_ret
  exact ⟨rfl, rfl⟩

theorem back_nil (n : Int) (w : World) :
    Calls Tryd.prog 14 #[.pointer none, .int .i64 n] w fun e w' => e = .returned (.int .i64 3) ∧ w' = w := by
  go_enter Tryd.func14, Tryd.ntmps14
  go_wp2
  go_ret
  exact ⟨rfl, rfl⟩

theorem back_bad (p c : Nat) (n : Int) (s : Value) (bs : List Nat) (w : World) (h : St w p s bs c) (hn : n < 0 ∨ (c : Int) < n) :
    Calls Tryd.prog 14 #[.pointer (some ⟨p, 0, none⟩), .int .i64 n] w fun e w' => e = .returned (.int .i64 1) ∧ w' = w := by
  have hcc := h.cc
  clear h
  by_cases h0 : n < 0
  · clear hn
    go_enter Tryd.func14, Tryd.ntmps14
    go_wp2
    go_ret
    exact ⟨rfl, rfl⟩
  · have h1 : (c : Int) < n := by omega
    clear hn
    go_enter Tryd.func14, Tryd.ntmps14
    go_wp2
    go_ret
    exact ⟨rfl, rfl⟩

theorem back_good (p c n : Nat) (s : Value) (bs : List Nat) (w : World) (h : St w p s bs c) (hn : n ≤ c) (hc : c ≤ 1000000000000) :
    Calls Tryd.prog 14 #[.pointer (some ⟨p, 0, none⟩), .int .i64 (n : Nat)] w fun e w' => e = .returned (.int .i64 0) ∧ St w' p s bs (c - n) ∧ Kept (· = p) w w' := by
  have hcc := h.cc
  have hfc := h.fc
  have HS : Hid (St w p s bs c) := h
  clear h
  go_enter Tryd.func14, Tryd.ntmps14
  go_wp2
  go_ret
  refine ⟨rfl, ?_, (Kept.refl _ w).setCell _ _ (.inl rfl)⟩
  have := HS.out.setCount (c - n)
  rw [show ((c - n : Nat) : Int) = (c : Int) - (n : Int) by omega] at this
  exact this





theorem take_nil (n : Int) (w : World) :
    Calls Tryd.prog 41 #[.pointer none, .int .i64 n] w fun e w' => e = .returned (.tuple #[.int .u32 0, .int .i64 3]) ∧ w' = w := by
  go_enter Tryd.func41, Tryd.ntmps41
  go_wp2
  go_ret2
  exact ⟨rfl, rfl⟩

theorem take_far (p : Nat) (n : Int) (w : World) (h : ¬ (0 ≤ n ∧ n ≤ 32)) :
    Calls Tryd.prog 41 #[.pointer (some ⟨p, 0, none⟩), .int .i64 n] w fun e w' => e = .returned (.tuple #[.int .u32 0, .int .i64 1]) ∧ w' = w := by
  have hd : decide (0 ≤ n ∧ n ≤ 32) = false := by simpa using h
  clear h
  go_enter Tryd.func41, Tryd.ntmps41
  go_wp2_with (go_at_call 33; refine (fits_any _ _).mono ?_; rintro e w' ⟨rfl, rfl⟩; rw [hd])
  go_ret2
  exact ⟨rfl, rfl⟩

set_option maxHeartbeats 400000 in
theorem take_end (p c n : Nat) (s : Value) (bs : List Nat) (w : World) (h : St w p s bs c) (hc : c ≤ 8 * bs.length) (hlen : bs.length ≤ 100000000000) (hn : n ≤ 32) (hm : 8 * bs.length < c + n) :
    Calls Tryd.prog 41 #[.pointer (some ⟨p, 0, none⟩), .int .i64 (n : Nat)] w fun e w' => e = .returned (.tuple #[.int .u32 0, .int .i64 10]) ∧ ∃ m, w' = w.drewN m := by
  have hd : decide (0 ≤ (n : Int) ∧ (n : Int) ≤ 32) = true := by simp; omega
  have hh : ((8 * bs.length - c : Nat) : Int) < (n : Int) := by omega
  have HC := left_any p c s bs w h hc hlen
  obtain ⟨q, hq⟩ : ∃ q, q = 8 * bs.length - c := ⟨_, rfl⟩
  rw [← hq] at HC hh
  clear h hc hlen hm hq
  go_enter Tryd.func41, Tryd.ntmps41
  go_wp2_with (first | (go_at_call 33; refine (fits_any _ _).mono ?_; rintro e w' ⟨rfl, rfl⟩; rw [hd]) | (go_at_call 52; refine HC.mono ?_; rintro e w' ⟨rfl, mq, rfl⟩))
  go_ret2
  exact ⟨rfl, _, rfl⟩

set_option maxHeartbeats 400000 in
theorem take_good (p c n : Nat) (s : Value) (bs : List Nat) (w : World) (h : St w p s bs c) (hlen : bs.length ≤ 100000000000) (hn : n ≤ 32) (hm : c + n ≤ 8 * bs.length) :
    Calls Tryd.prog 41 #[.pointer (some ⟨p, 0, none⟩), .int .i64 (n : Nat)] w fun e w' => e = .returned (.tuple #[.int .u32 (n256 bs / 2 ^ c % 2 ^ n : Nat), .int .i64 0]) ∧
      St w' p s bs (c + n) ∧ Kept (· = p) w w' := by
  have hd : decide (0 ≤ (n : Int) ∧ (n : Int) ≤ 32) = true := by simp; omega
  have hh : ¬ ((8 * bs.length - c : Nat) : Int) < (n : Int) := by omega
  have HC := left_any p c s bs w h (by omega) hlen
  have HD := fun m => cut_any (w.drewN m) p s bs c n (h.drewN m) hn hm hlen
  obtain ⟨q, hq⟩ : ∃ q, q = 8 * bs.length - c := ⟨_, rfl⟩
  rw [← hq] at HC hh
  clear h hlen hm hq
  go_enter Tryd.func41, Tryd.ntmps41
  go_wp2_with (first | (go_at_call 33; refine (fits_any _ _).mono ?_; rintro e w' ⟨rfl, rfl⟩; rw [hd]) | (go_at_call 52; refine HC.mono ?_; rintro e w' ⟨rfl, mq, rfl⟩) | (go_at_call 53; refine (HD mq).mono ?_; rintro e w' ⟨rfl, hs', hk'⟩))
  go_ret2
  exact ⟨rfl, hs', ⟨hk'.os, hk'.tape, hk'.output, hk'.size, hk'.block⟩⟩



set_option maxHeartbeats 400000 in
theorem newReader_any (v : Value) (I : Nat → Prop) (cs : List Nat) (w : World) (h : Src w I v cs) (hlen : cs.length ≤ 100000000000) (hb : ∀ b ∈ cs, b < 256) :
    Calls Tryd.prog 9 #[v] w fun e w' => ∃ p s, e = .returned (.pointer (some ⟨p, 0, none⟩)) ∧ St w' p s cs 0 ∧ Kept (fun _ => False) w w' ∧ (∀ k, Fp p s k → w.heap.size ≤ k) := by
  obtain ⟨ao, cap, rfl, hsrc⟩ := id h
  have HS : Hid (Src w I (.slice ao cs.length cap) cs) := h
  clear h hsrc
  go_enter Tryd.func9, Tryd.ntmps9
  go_wp2_with (first | (at_make; refine wpList_make_bytes _ rfl _ _ rfl _ _ _ _ cs.length rfl rfl rfl rfl (by omega) ?_; intro w1 hr1 hg1 hs1; have HR : Hid (Row w1 (.slice (some ⟨w.heap.size, 0, none⟩) cs.length cs.length) (List.replicate cs.length 0)) := hr1; have HK : Hid (Kept (fun _ => False) w w1) := (Kept.refl _ w).grown hg1 (by simp); clear hr1 hg1) | (with_reducible refine atCopy ?_; refine wpList_copy_bytes _ rfl (.tmp 12) (.tmp 13) rfl w.heap.size cs.length cs.length ao cs.length cap (List.replicate cs.length 0) cs I rfl rfl (World.ownsRow.alloc HR.out _) (HS.out.kept (HK.out.alloc _) (fun _ _ _ h => h)) (by simp) ?_; intro w2 hr2 hg2 hs2))
  go_ret
  have hk2 : Kept (· = w.heap.size) (w1.alloc (.cells #[.slice (some ⟨w.heap.size, 0, none⟩) cs.length cs.length, .int .i64 0] 57)) w2 := (Kept.refl _ _).grown hg2 (fun k e => .inl (by simpa using e.symm))
  have hne : ¬ w1.heap.size = w.heap.size := by omega
  refine ⟨w1.heap.size, .slice (some ⟨w.heap.size, 0, none⟩) cs.length cs.length, rfl, ⟨hk2.cell (by simp) hne, hk2.cell (by simp) hne, (hk2.frozen (by simp) hne).trans (by simp), (hk2.frozen (by simp) hne).trans (by simp), ?_, by simp [Value.ownBlock]; omega, hb⟩, ?_, ?_⟩
  · simpa using hr2
  · exact Kept.trans (H := fun _ => False) (HK.out.alloc _) hk2 (fun _ _ h => h) (fun x hx e => by omega)
  · intro k hk
    rcases hk with rfl | hk
    · exact HK.out.size
    · simp [Value.ownBlock] at hk; omega





end Go.Proofs.YtofhlnpbflkdlabDoor
