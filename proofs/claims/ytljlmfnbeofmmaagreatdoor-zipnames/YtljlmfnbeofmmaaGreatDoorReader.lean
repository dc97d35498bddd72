import Derived.Test.YtljlmfnbeofmmaaGreatDoorOwn2
import Derived.Laws.BitsAllLaws
import Derived.Test.YtljlmfnbeofmmaaGreatDoorWriter
namespace Go.Proofs.YtljlmfnbeofmmaaGreatDoor
open Go.RowKit
set_option maxHeartbeats 400000 in
theorem newReader_any (v : Value) (I : Nat → Prop) (cs : List Nat) (w : World) (h : Src w I v cs) (hlen : cs.length ≤ 100000000000) (hb : ∀ b ∈ cs, b < 256) :
  Calls Tryz.prog 198 #[v] w fun e w' => ∃ p s, e = .returned (.pointer (some ⟨p, 0, none⟩)) ∧ St w' p s cs 0 ∧ Kept (fun _ => False) w w' ∧ (∀ k, Fp p s k → w.heap.size ≤ k) := by
 obtain ⟨ao, cap, rfl, hsrc⟩ := id h
 have HS : Hid (Src w I (.slice ao cs.length cap) cs) := h
 clear h hsrc
 go_enter Tryz.func198, Tryz.ntmps198
 go_wp2_with (first | (at_make; refine wpList_make_bytes _ rfl _ _ rfl _ _ _ _ cs.length rfl rfl rfl rfl (by omega) ?_; intro w1 hr1 hg1 hs1; have HR : Hid (Row w1 (.slice (some ⟨w.heap.size, 0, none⟩) cs.length cs.length) (List.replicate cs.length 0)) := hr1; have HK : Hid (Kept (fun _ => False) w w1) := (Kept.refl _ w).grown hg1 (by simp); clear hr1 hg1) | (with_reducible refine atCopy ?_; refine wpList_copy_bytes _ rfl (.tmp 12) (.tmp 13) rfl w.heap.size cs.length cs.length ao cs.length cap (List.replicate cs.length 0) cs I rfl rfl (World.ownsRow.alloc HR.out _) (HS.out.kept (HK.out.alloc _) (fun _ _ _ h => h)) (by simp) ?_; intro w2 hr2 hg2 hs2))
 go_ret
 have hk2 : Kept (· = w.heap.size) (w1.alloc (.cells #[.slice (some ⟨w.heap.size, 0, none⟩) cs.length cs.length, .int .i64 0] 284)) w2 := (Kept.refl _ _).grown hg2 (fun k e => .inl (by simpa using e.symm))
 have hne : ¬ w1.heap.size = w.heap.size := by omega
 refine ⟨w1.heap.size, .slice (some ⟨w.heap.size, 0, none⟩) cs.length cs.length, rfl, ⟨hk2.cell (by simp) hne, hk2.cell (by simp) hne, (hk2.frozen (by simp) hne).trans (by simp), (hk2.frozen (by simp) hne).trans (by simp), ?_, by simp [Value.ownBlock]; omega, hb⟩, ?_, ?_⟩
 ·simpa using hr2
 ·exact Kept.trans (H := fun _ => False) (HK.out.alloc _) hk2 (fun _ _ h => h) (fun x hx e => by omega)
 ·intro k hk
  rcases hk with rfl | hk
  ·exact HK.out.size
  ·simp [Value.ownBlock] at hk; omega

set_option maxHeartbeats 400000 in
theorem wbytes_any (p X c : Nat) (s : Value) (w : World) (h : Wr w p s X c) (hc : c ≤ 100000000000) :
  Calls Tryz.prog 82 #[.pointer (some ⟨p, 0, none⟩)] w fun e w' => ∃ g bs, e = .returned (.slice (some ⟨g, 0, none⟩) bs.length bs.length) ∧ Row w' (.slice (some ⟨g, 0, none⟩) bs.length bs.length) bs ∧ (∀ b ∈ bs, b < 256) ∧
   n256 bs = X ∧ bs.length = (c + 7) / 8 ∧ Kept (fun _ => False) w w' ∧ w.heap.size ≤ g := by
 obtain ⟨bs, hst, hX, hlo, hhi⟩ := h.ex
 obtain ⟨ao, cap, hv, _⟩ := hst.row.shape
 have hcb := hst.cb
 have hcb1 : ∀ w1, Kept (fun _ => False) w w1 → w1.cell? ⟨p, 0, none⟩ = some (.slice ao bs.length cap) := fun w1 hk => hk.cell (by rw [hcb, hv]) (fun h => h)
 rw [hv] at hcb
 have HS : Hid (Src w (fun k => (Value.slice ao bs.length cap).ownBlock = some k) (.slice ao bs.length cap) bs) := by have := Src.ofRow hst.row; rw [hv] at this; exact this
 have HB : Hid (∀ b ∈ bs, b < 256) := hst.byte
 have HX : Hid (n256 bs = X) := hX
 have hlen : bs.length ≤ 100000000000 := by omega
 have HL : Hid (bs.length = (c + 7) / 8) := by show _ = _; omega
 clear h hst hX hlo hhi hc hv
 go_enter Tryz.func82, Tryz.ntmps82
 go_wp2_with (first | (at_make; refine wpList_make_bytes _ rfl _ _ rfl _ _ _ _ bs.length rfl rfl rfl rfl (by omega) ?_; intro w1 hr1 hg1 hs1; have HR : Hid (Row w1 (.slice (some ⟨w.heap.size, 0, none⟩) bs.length bs.length) (List.replicate bs.length 0)) := hr1; have HK : Hid (Kept (fun _ => False) w w1) := (Kept.refl _ w).grown hg1 (by simp); have hcb2 := hcb1 w1 HK.out; clear hr1 hg1) | (with_reducible refine atCopy ?_; refine wpList_copy_bytes _ rfl (.tmp 12) (.tmp 16) rfl w.heap.size bs.length bs.length ao bs.length cap (List.replicate bs.length 0) bs _ rfl rfl HR.out (HS.out.kept HK.out (fun _ _ _ h => h)) (by simp) ?_; intro w2 hr2 hg2 hs2))
 go_ret
 refine ⟨w.heap.size, bs, rfl, by simpa using hr2, HB.out, HX.out, HL.out, ?_, Nat.le_refl _⟩
 refine HK.out.grown hg2 (fun k e => .inr ?_)
 simp at e; omega

end Go.Proofs.YtljlmfnbeofmmaaGreatDoor
