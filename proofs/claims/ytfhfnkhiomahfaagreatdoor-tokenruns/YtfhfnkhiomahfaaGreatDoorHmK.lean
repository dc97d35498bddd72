/-
  The program's blockOf, padded, Mac.
-/
import Derived.Test.YtfhfnkhiomahfaaGreatDoorHmJ
namespace Go.Proofs.YtfhfnkhiomahfaaGreatDoor
open Go.RowKit

/-- An array seen as a slice. -/
theorem src_arr {w : World} {g : Nat} {bs : List Nat} {t : TypeId} (h : Blk w g (bs.map byteV).toArray t) (n : Nat) (hn : bs.length = n) : Src w (· = g) (.slice (some ⟨g, 0, none⟩) n n) bs := by
  subst hn
  refine ⟨_, _, rfl, fun _ => ⟨g, 0, rfl, rfl, fun j hj => ?_⟩⟩
  rw [Nat.zero_add, h.cell]
  simp [byteV, hj]

theorem Blk.raw {w : World} {g : Nat} {L : List Value} {t : TypeId} (h : Blk w g L.toArray t) : Raw w g t L := h

theorem Raw.blk {w : World} {g : Nat} {L : List Value} {t : TypeId} (h : Raw w g t L) : Blk w g L.toArray t := h

theorem src_cells15 {w : World} {I : Nat → Prop} {a : Option Addr} {n c : Nat} {key kb : List Nat} (h : Src w I (.slice a n c) key) (hk : kb = key) (hpos : 0 < (kb.map byteV).length) : ∃ ad, a = some ad ∧ CellsAt w ad (kb.map byteV) := by
  subst hk
  obtain ⟨ao, cap, e, hc⟩ := id h
  injection e with e1 e2 e3
  obtain ⟨b, o, e4, _, _⟩ := hc (by intro q; rw [q] at hpos; simp at hpos)
  subst e1 e4
  refine ⟨_, rfl, ?_⟩
  have h9 := h.cells kb.length
  rwa [List.take_of_length_le (Nat.le_refl _)] at h9

theorem splice_zero (kb : List Nat) : splice ((List.replicate 64 0).map byteV) 0 (kb.map byteV) = (kb ++ List.replicate (64 - kb.length) 0).map byteV := by
  unfold splice
  rw [← List.map_drop, List.drop_replicate]
  simp

theorem kyB_length (key : List Nat) : (kyB key).length = 64 := by
  unfold kyB
  by_cases h : 64 < key.length
  · simp only [if_pos h]
    rw [List.length_append, shaF_length, List.length_replicate]
  · simp only [if_neg h]
    rw [List.length_append, List.length_replicate]
    omega

theorem kyB_lt (key : List Nat) (hb : ∀ x ∈ key, x < 256) : ∀ x ∈ kyB key, x < 256 := by
  intro x hx
  unfold kyB at hx
  rcases List.mem_append.1 hx with h | h
  · split at h
    · exact shaF_lt key x h
    · exact hb x h
  · have := List.eq_of_mem_replicate h
    omega

set_option maxRecDepth 100000 in
set_option maxHeartbeats 1000000 in
theorem blockOf_any (w : World) (v : Value) (I : Nat → Prop) (key : List Nat) (hsrc : Src w I v key) (hI : ∀ k, I k → k < w.heap.size) (hcap : ∀ a n c, v = .slice a n c → n ≤ c) (hb : ∀ x ∈ key, x < 256) (hT : Tab15 w) (hlen : key.length ≤ 400000000) :
    Calls Tryz.prog 59 #[v] w fun e w' => e = .returned (.agg ((kyB key).map byteV).toArray) ∧ Same w w' := by
  obtain ⟨a0, c0, rfl, _⟩ := id hsrc
  have HS := hid hsrc
  have HI := hid hI
  have HC := hid hcap
  have HBY := hid hb
  have HT := hid hT
  have HLE := hid hlen
  obtain ⟨n, hn⟩ : ∃ n, n = key.length := ⟨_, rfl⟩
  have HN := hid hn
  rw [← hn] at HS HC ⊢
  clear hsrc hI hcap hb hT hlen hn
  obtain ⟨kb, hkb⟩ : ∃ kb, kb = (if 64 < key.length then shaF key else key) := ⟨_, rfl⟩
  have HKB : Hid (kyB key = kb ++ List.replicate (64 - kb.length) 0) := hid (by rw [hkb]; rfl)
  have hkl : kb.length ≤ 64 := by
    rw [hkb]
    split
    · rw [shaF_length]; omega
    · omega
  go_enter Tryz.func59, Tryz.ntmps59
  by_cases h64 : 64 < n
  · have h64i : decide ((64 : Int) < (n : Int)) = true := by simp; omega
    rw [if_pos (by rw [← HN.out]; exact h64)] at hkb
    go_wp2_with (first
      | (with_reducible refine at_alloc 98 2 ?_; refine wpl_alloc 98 _ Tryz.zeroB64 ?_; intro w2 g2 hB2 hk2 hg2 hl2; have HB2 := hid hB2; have HK2 := hid hk2; clear hB2 hk2)
      | (with_reducible refine at_alloc 98 3 ?_; refine wpl_alloc 98 _ Tryz.zeroB64 ?_; intro w3 g3 hB3 hk3 hg3 hl3; have HB3 := hid hB3; have HK3 := hid hk3; clear hB3 hk3))
    have hsz2 := HK2.out.size
    have hsz3 := HK3.out.size
    refine (psum_any w3 (.slice a0 n c0) I key ((HS.out.kept HK2.out (fun _ _ _ f => f)).kept HK3.out (fun _ _ _ f => f)) (fun k hk => by have := HI.out k hk; omega) HC.out HBY.out ((HT.out.kept HK2.out (fun f => f)).kept HK3.out (fun f => f)) HLE.out).mono ?_
    rintro e w5 ⟨rfl, hk5⟩
    have HK5 := hid hk5
    have hsz5 := hk5.size
    clear hk5
    go_wp2_with (first
      | (with_reducible refine at_alloc 86 4 ?_; refine wpl_alloc 86 _ Tryz.zero32 ?_; intro w6 g6 hB6 hk6 hg6 hl6; have HB6 := hid hB6; have HK6 := hid hk6; clear hB6 hk6)
      | (with_reducible refine at_store 86 4 ?_; refine wpl_store 86 32 Tryz.size32 rfl (cells := (shaF key).map byteV) rfl HB6.out (by simp) (by simp [shaF_length]) (byteV_one _) ?_; intro w7 hB7 hk7 hs7; have HB7 := hid hB7; have HK7 : Hid (Same w3 w7) := hid ((HK5.out.trans HK6.out).then hk7 (fun x hx e => by omega)); clear hB7 hk7 hs7 HB6 HK6)
      | (with_reducible refine atCopy ?_; refine wpList_copy_k _ rfl (.tmp 11) (.tmp 12) 52 52 rfl 5 1 Tryz.underlying52 Tryz.sizeU8 g3 0 64 64 (some ⟨g6, 0, none⟩) 32 32 rfl rfl ((List.replicate 64 0).map byteV) 98 (HB3.out.kept HK7.out (fun f => f)).raw (kb.map byteV) (by simp [hkb, shaF_length]) (fun _ => ⟨_, rfl, (by have h9 := (src_arr HB7.out 32 (shaF_length key)).cells 32; rw [List.take_of_length_le (by rw [shaF_length]; exact Nat.le_refl _)] at h9; rw [hkb]; exact h9)⟩) (by omega) (by simp; omega) (byteV_one _) 32 rfl ?_; intro w8 hr8 hg8; have HB8 : Hid (Raw w8 g3 98 ((kyB key).map byteV)) := hid (by rw [splice_zero, ← HKB.out] at hr8; exact hr8); have HK8 : Hid (Kept (· = g3) w3 w8) := hid (Kept.trans HK7.out ((Kept.refl (· = g3) _).grown hg8 (fun k e => .inl (by cases e; rfl))) (fun _ _ f => f.elim) (fun _ _ e => e)); clear hr8 hg8)
      | (with_reducible refine at_load 98 14 ?_; refine wpl_load 98 64 _ Tryz.underlying98 rfl Tryz.sizeB64 rfl HB8.out.blk ((kyB key).map byteV) (by simp [kyB_length]) (take_all15 (by simp [kyB_length])) ?_)
      | (with_reducible refine at_store 98 2 ?_; refine wpl_store 98 64 Tryz.sizeB64 rfl (cells := (kyB key).map byteV) rfl ((HB2.out.kept HK3.out (fun f => f)).kept HK8.out (by omega)) (by simp) (by simp [kyB_length]) (byteV_one _) ?_; intro w9 hB9 hk9 hs9; have HB9 := hid hB9; have HK9 := hid hk9; clear hB9 hk9 hs9))
    refine bodyPost_ret (results_cell15 rfl 64 _ Tryz.underlying98 rfl Tryz.sizeB64 _ rfl HB9.out (by simp [kyB_length])) rfl ?_
    exact ⟨rfl, ((HK2.out.trans HK3.out).then HK8.out (fun x hx e => by omega)).then HK9.out (fun x hx e => by omega)⟩
  · have h64i : decide ((64 : Int) < (n : Int)) = false := by simp; omega
    rw [if_neg (by rw [← HN.out]; exact h64)] at hkb
    have hmin : Nat.min n 64 = n := Nat.min_eq_left (by omega)
    have HM := hid hmin
    have HKK := hid hkb
    clear hmin hkb
    go_wp2_with (first
      | (with_reducible refine at_alloc 98 2 ?_; refine wpl_alloc 98 _ Tryz.zeroB64 ?_; intro w2 g2 hB2 hk2 hg2 hl2; have HB2 := hid hB2; have HK2 := hid hk2; clear hB2 hk2)
      | (with_reducible refine at_alloc 98 3 ?_; refine wpl_alloc 98 _ Tryz.zeroB64 ?_; intro w3 g3 hB3 hk3 hg3 hl3; have HB3 := hid hB3; have HK3 := hid hk3; clear hB3 hk3)
      | (with_reducible refine atCopy ?_; refine wpList_copy_k _ rfl (.tmp 11) (.tmp 12) 52 52 rfl 5 1 Tryz.underlying52 Tryz.sizeU8 g3 0 64 64 a0 n c0 rfl rfl ((List.replicate 64 0).map byteV) 98 HB3.out.raw (kb.map byteV) (by rw [HM.out, List.length_map, HKK.out, ← HN.out, Nat.mul_one]) (fun hpos => src_cells15 ((HS.out.kept HK2.out (fun _ _ _ f => f)).kept HK3.out (fun _ _ _ f => f)) HKK.out hpos) (by omega) (by simp; omega) (byteV_one _) n HM.out ?_; intro w8 hr8 hg8; have HB8 : Hid (Raw w8 g3 98 ((kyB key).map byteV)) := hid (by rw [splice_zero, ← HKB.out] at hr8; exact hr8); have HK8 : Hid (Kept (· = g3) w3 w8) := hid ((Kept.refl (· = g3) _).grown hg8 (fun k e => .inl (by cases e; rfl))); clear hr8 hg8)
      | (with_reducible refine at_load 98 14 ?_; refine wpl_load 98 64 _ Tryz.underlying98 rfl Tryz.sizeB64 rfl HB8.out.blk ((kyB key).map byteV) (by simp [kyB_length]) (take_all15 (by simp [kyB_length])) ?_)
      | (with_reducible refine at_store 98 2 ?_; refine wpl_store 98 64 Tryz.sizeB64 rfl (cells := (kyB key).map byteV) rfl ((HB2.out.kept HK3.out (fun f => f)).kept HK8.out (by omega)) (by simp) (by simp [kyB_length]) (byteV_one _) ?_; intro w9 hB9 hk9 hs9; have HB9 := hid hB9; have HK9 := hid hk9; clear hB9 hk9 hs9))
    refine bodyPost_ret (results_cell15 rfl 64 _ Tryz.underlying98 rfl Tryz.sizeB64 _ rfl HB9.out (by simp [kyB_length])) rfl ?_
    have hsz2 := HK2.out.size
    exact ⟨rfl, ((HK2.out.trans HK3.out).then HK8.out (fun x hx e => by omega)).then HK9.out (fun x hx e => by omega)⟩

end Go.Proofs.YtfhfnkhiomahfaaGreatDoor
