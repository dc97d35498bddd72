/-
  The reference's Mac.
-/
import Derived.Test.YtgbfhpilhnbnjaaDoorHmU
import Derived.Test.YtgbfhpilhnbnjaaDoorHmWholeLaw
namespace Go.Proofs.YtgbfhpilhnbnjaaDoor
open Go.RowKit

/-- The first i bytes of the key's block, each xor pad. -/
def kpF (key : List Nat) (pad i : Nat) : List Nat := ((keyB key).take i).map (· ^^^ pad)

theorem kpF_next (key : List Nat) (pad i : Nat) (hi : i < 64) : kpF key pad (i + 1) = kpF key pad i ++ [(keyB key).getD i 0 ^^^ pad] := by
  unfold kpF
  have hl := keyB_length key
  rw [List.take_succ_eq_append_getElem (by omega), List.map_append, List.getD_eq_getElem?_getD, List.getElem?_eq_getElem (by omega)]
  rfl

theorem kpF_length (key : List Nat) (pad i : Nat) (hi : i ≤ 64) : (kpF key pad i).length = i := by
  unfold kpF
  rw [List.length_map, List.length_take, keyB_length]
  omega

theorem kpF_64 (key : List Nat) (pad : Nat) : kpF key pad 64 = (keyB key).map (· ^^^ pad) := by
  unfold kpF
  rw [List.take_of_length_le (by rw [keyB_length]; exact Nat.le_refl _)]

theorem kpF_lt (key : List Nat) (hb : ∀ x ∈ key, x < 256) (pad i : Nat) (hp : pad < 256) : ∀ x ∈ kpF key pad i, x < 256 := by
  intro x hx
  obtain ⟨y, hy, rfl⟩ := List.mem_map.1 hx
  exact xor8_lt (keyB_lt key hb y (List.mem_of_mem_take hy)) hp

theorem keyB_get (key kb : List Nat) (hk : keyB key = kb ++ List.replicate (64 - kb.length) 0) (i : Nat) : (keyB key).getD i 0 = kb.getD i 0 := by
  rw [hk, List.getD_eq_getElem?_getD, List.getD_eq_getElem?_getD]
  by_cases h : i < kb.length
  · rw [List.getElem?_append_left h]
  · rw [List.getElem?_append_right (by omega), List.getElem?_eq_none (l := kb) (by omega), List.getElem?_replicate]
    split <;> rfl

set_option maxRecDepth 100000 in
set_option maxHeartbeats 2000000 in
theorem rmac_any (w : World) (ak : Option Addr) (nk ck : Nat) (aa : Option Addr) (n ca : Nat) (key b : List Nat) (hk : Arg15 w (.slice ak nk ck) key) (hkl : key.length = nk) (hkn : nk ≤ 400000000) (ha : Arg15 w (.slice aa n ca) b) (hl : b.length = n) (hn : n ≤ 400000000) :
    Calls Tryd.prog 13 #[.slice ak nk ck, .slice aa n ca] w fun e w' => e = .returned (.agg ((macF key b).map byteV).toArray) ∧ Same w w' := by
  have HK := hid hk
  have HKL := hid hkl
  have HA := hid ha
  have HL := hid hl
  obtain ⟨kb, hkb⟩ : ∃ kb, kb = (if 64 < key.length then shaF key else key) := ⟨_, rfl⟩
  have HKB : Hid (keyB key = kb ++ List.replicate (64 - kb.length) 0) := hid (by rw [hkb]; rfl)
  have HBY : Hid (∀ x ∈ kb, x < 256) := hid (by
    rw [hkb]
    split
    · exact shaF_lt key
    · exact hk.byt)
  clear hk hkl ha hl
  go_enter Tryd.func13, Tryd.ntmps13
  by_cases h64 : 64 < nk
  case' pos =>
    have h64i : decide ((64 : Int) < (nk : Int)) = true := by simp; omega
    rw [if_pos (by rw [HKL.out]; exact h64)] at hkb
    go_wp2_with (first
      | (with_reducible refine at_alloc 24 4 ?_; refine wpl_alloc 24 _ Tryd.zero32 ?_; intro w2 g2 hB2 hk2 hg2 hl2; have HB2 := hid hB2; have HK2 := hid hk2; clear hB2 hk2))
    refine (rsum_any w2 ak nk ck key (HK.out.same HK2.out) HKL.out (by omega)).mono ?_
    rintro e w3 ⟨rfl, hk3⟩
    have HK3 := hid hk3
    have hs3 := hk3.size
    clear hk3
    go_upto_region 4 with (first
      | (with_reducible refine at_alloc 24 5 ?_; refine wpl_alloc 24 _ Tryd.zero32 ?_; intro w4 g4 hB4 hk4 hg4 hl4; have HB4 := hid hB4; have HK4 := hid hk4; clear hB4 hk4)
      | (with_reducible refine at_store 24 5 ?_; refine wpl_store 24 32 Tryd.size32 rfl (cells := (shaF key).map byteV) rfl HB4.out (by simp) (by simp [shaF_length]) (byteV_one _) ?_; intro w5 hB5 hk5 hs5; have HB5 := hid hB5; have HK5 : Hid (Same w2 w5) := hid ((HK3.out.trans HK4.out).then hk5 (fun x hx e => by omega)); clear hB5 hk5 hs5 HB4 HK4))
    have HKS : Hid (∃ J, Src w5 J (.slice (some ⟨g4, 0, none⟩) 32 32) kb ∧ ∀ k, J k → k < w5.heap.size) := hid ⟨_, (by rw [hkb]; exact src_arr HB5.out 32 (shaF_length key)), fun k hk => by rw [hk]; exact HB5.out.lt⟩
    have HN8 : Hid (kb.length = 32 ∧ 32 ≤ 64) := hid ⟨by rw [hkb]; exact shaF_length key, by omega⟩
    obtain ⟨n8, hn8⟩ : ∃ n, n = 32 := ⟨_, rfl⟩
    obtain ⟨a8, ha8⟩ : ∃ a : Option Addr, a = some ⟨g4, 0, none⟩ := ⟨_, rfl⟩
    rw [← ha8, ← hn8] at HKS
    rw [← hn8] at HN8
    rw [show Value.slice (some ⟨g4, 0, none⟩) 32 32 = .slice a8 n8 n8 by rw [ha8, hn8]]
    obtain ⟨c8, hc8⟩ : ∃ c, c = n8 := ⟨_, rfl⟩
    rw [show Value.slice a8 n8 n8 = .slice a8 n8 c8 by rw [hc8]] at HKS
    rw [show Value.slice a8 n8 n8 = .slice a8 n8 c8 by rw [hc8]]
    have HC8 : Hid (n8 ≤ c8) := hid (by omega)
    clear hn8 ha8 hc8 HB5 HK3 hs3 hl4 hg4 hkb h64i h64
  case' neg =>
    have h64i : decide ((64 : Int) < (nk : Int)) = false := by simp; omega
    rw [if_neg (by rw [HKL.out]; exact h64)] at hkb
    go_upto_region 4 with (first
      | (with_reducible refine at_alloc 24 4 ?_; refine wpl_alloc 24 _ Tryd.zero32 ?_; intro w2 g2 hB2 hk2 hg2 hl2; have HB2 := hid hB2; have HK2 := hid hk2; clear hB2 hk2))
    obtain ⟨w5, hw5⟩ : ∃ w5, w5 = w2 := ⟨_, rfl⟩
    have HK5 : Hid (Same w2 w5) := hid (by rw [hw5]; exact Kept.refl _ _)
    have HKS : Hid (∃ J, Src w5 J (.slice ak nk ck) kb ∧ ∀ k, J k → k < w5.heap.size) := hid ⟨_, (by rw [hkb, hw5]; exact (HK.out.same HK2.out).src), fun k hk => by rw [hw5]; exact hk⟩
    have HN8 : Hid (kb.length = nk ∧ nk ≤ 64) := hid ⟨by rw [hkb]; exact HKL.out, by omega⟩
    have HC8 : Hid (nk ≤ ck) := hid (HK.out.cap _ _ _ rfl)
    rw [← hw5]
    obtain ⟨n8, hn8⟩ : ∃ n, n = nk := ⟨_, rfl⟩
    obtain ⟨a8, ha8⟩ : ∃ a, a = ak := ⟨_, rfl⟩
    obtain ⟨c8, hc8⟩ : ∃ c, c = ck := ⟨_, rfl⟩
    rw [← hn8, ← ha8, ← hc8] at HKS
    rw [← hn8, ← hc8] at HC8
    rw [← hn8] at HN8
    rw [show Value.slice ak nk ck = .slice a8 n8 c8 by rw [hn8, ha8, hc8]]
    clear hn8 ha8 hc8 hkb h64i h64 hw5
  all_goals
    have h0 : Fresh w5 w5 (.slice none 0 0) [] := ⟨row_none15 _, Kept.refl _ _, fun k e => by cases e⟩
    have HF0 := hid h0
    clear h0
    go_wp2_with fail
    go_loopg [6, 7, 8, 9] 64 (fun k x y z _ wr => ∃ i : Nat, i ≤ 64 ∧ 64 - i ≤ k ∧ z = .int .i64 (i : Nat) ∧ Hid (Fresh w5 wr x (kpF key 54 i)) ∧ Hid (Fresh w5 wr y (kpF key 92 i)) ∧ Hid (∀ k, x.ownBlock = some k → y.ownBlock ≠ some k))
    case atStart => exact ⟨0, by omega, by omega, rfl, HF0, HF0, hid (fun k e => by cases e)⟩
    case round =>
      clear HF0
      obtain ⟨i, hi, hik, rfl, HX, HY, HXY⟩ := hrel
      by_cases hlt : i < 64
      · obtain ⟨x, hx⟩ : ∃ x, x = (keyB key).getD i 0 := ⟨_, rfl⟩
        have hxk : x = kb.getD i 0 := by rw [hx]; exact keyB_get key kb HKB.out i
        have hx256 : x < 256 := by rw [hxk]; exact getD_byte HBY.out i
        have HN1 := hid (kpF_next key 54 i hlt)
        have HN2 := hid (kpF_next key 92 i hlt)
        rw [← hx] at HN1 HN2
        have o1 : bits .xor .u8 (x : Int) 54 = ((x ^^^ 54 : Nat) : Int) := u8_xor_nat x 54 hx256 (by omega)
        have o2 : bits .xor .u8 (x : Int) 92 = ((x ^^^ 92 : Nat) : Int) := u8_xor_nat x 92 hx256 (by omega)
        obtain ⟨z1, hz1⟩ : ∃ z, z = x ^^^ 54 := ⟨_, rfl⟩
        obtain ⟨z2, hz2⟩ : ∃ z, z = x ^^^ 92 := ⟨_, rfl⟩
        rw [← hz1] at o1 HN1
        rw [← hz2] at o2 HN2
        have HLX : Hid ((kpF key 54 i).length + [z1].length ≤ 1000000000000) := hid (by rw [kpF_length _ _ _ hi]; simp; omega)
        have HLY : Hid ((kpF key 92 i).length + [z2].length ≤ 1000000000000) := hid (by rw [kpF_length _ _ _ hi]; simp; omega)
        by_cases hin : i < n8
        case' pos =>
          have c1 : ∃ bb o, a8 = some ⟨bb, o, none⟩ ∧ wr.cell? ⟨bb, o + i, none⟩ = some (.int .u8 (x : Nat)) := by
            obtain ⟨J, hS, hJ⟩ := HKS.out
            obtain ⟨ao, cp, e, hc⟩ := hS.kept HX.out.kept (fun _ _ _ f => f)
            injection e with e1 e2 e3
            obtain ⟨bb, o, e4, _, hcell⟩ := hc (by intro q; have := HN8.out.1; rw [q] at this; simp at this; omega)
            have h9 := hcell i (by rw [HN8.out.1]; exact hin)
            refine ⟨bb, o, by rw [e1, e4], ?_⟩
            rw [h9, hxk, List.getD_eq_getElem?_getD, List.getElem?_eq_getElem (by rw [HN8.out.1]; exact hin)]
            rfl
          obtain ⟨bb, o, rfl, c1⟩ := c1
          have q1 : decide ((i : Int) < (n8 : Int)) = true := by simp; omega
          clear hx hz1 hz2 hxk
        case' neg =>
          have hx0 : x = 0 := by rw [hxk, List.getD_eq_getElem?_getD, List.getElem?_eq_none (by rw [HN8.out.1]; omega)]; rfl
          have q1 : decide ((i : Int) < (n8 : Int)) = false := by simp; omega
          clear hx hz1 hz2 hxk
          subst hx0
        all_goals
          go_wp2_with (at_builtin; (first
            | (refine wpList_append_row _ rfl (.tmp 29) (.tmp 32) rfl u6 (kpF key 54 i) rfl (World.ownsRow.alloc HX.out.row _) ⟨wr.heap.size, 0, none⟩ 1 1 [z1] rfl rfl (bytesAt_int _ _ _ (by first | rfl | exact o1)) HLX.out ?_; intro v6 w6 hr6 hg6 hv6; have HX6 : Hid (Fresh w5 w6 v6 (kpF key 54 (i + 1))) := hid (by have h := HX.out.app hr6 hg6 hv6; rw [← HN1.out] at h; exact h); have HK6 : Hid (Kept (fun k => u6.ownBlock = some k) wr w6) := hid (Kept.grown ((Kept.refl _ wr).alloc _) hg6 (fun k e => .inl e)); have HY6 : Hid (Fresh w5 w6 u7 (kpF key 92 i)) := hid ⟨HY.out.row.kept HK6.out (fun k hk f => HXY.out k f hk), HX6.out.kept, HY.out.new⟩; have HXY6 : Hid (∀ k, v6.ownBlock = some k → u7.ownBlock ≠ some k) := hid (fun k hk e => by rcases hv6 with q | q; (exact HXY.out k (by rw [← q]; exact hk) e); (rw [q] at hk; have hlt := HY.out.row.lt e; injection hk with hk; rw [← hk, World.size_alloc] at hlt; omega)); clear hr6 hg6 hv6)
            | (refine wpList_append_row _ rfl (.tmp 34) (.tmp 37) rfl u7 (kpF key 92 i) rfl (World.ownsRow.alloc HY6.out.row _) ⟨w6.heap.size, 0, none⟩ 1 1 [z2] rfl rfl (bytesAt_int _ _ _ (by first | rfl | exact o2)) HLY.out ?_; intro v7 w7 hr7 hg7 hv7; have HY7 : Hid (Fresh w5 w7 v7 (kpF key 92 (i + 1))) := hid (by have h := HY6.out.app hr7 hg7 hv7; rw [← HN2.out] at h; exact h); have HK7 : Hid (Kept (fun k => u7.ownBlock = some k) w6 w7) := hid (Kept.grown ((Kept.refl _ w6).alloc _) hg7 (fun k e => .inl e)); have HX7 : Hid (Fresh w5 w7 v6 (kpF key 54 (i + 1))) := hid ⟨HX6.out.row.kept HK7.out (fun k hk f => HXY6.out k hk f), HY7.out.kept, HX6.out.new⟩; have HXY7 : Hid (∀ k, v6.ownBlock = some k → v7.ownBlock ≠ some k) := hid (fun k hk e => by rcases hv7 with q | q; (exact HXY6.out k hk (by rw [← q]; exact e)); (rw [q] at e; have hlt := HX6.out.row.lt hk; injection e with e; rw [← e, World.size_alloc] at hlt; omega)); clear hr7 hg7 hv7)))
          go_roundg (gk - 1)
          case measure => omega
          case rel => exact ⟨i + 1, by omega, by omega, by go_num, HX7, HY7, HXY7⟩
      · have hin : i = 64 := by omega
        subst hin
        rw [kpF_64] at HX HY
        obtain ⟨ki, hki⟩ : ∃ k, k = (keyB key).map (· ^^^ 54) := ⟨_, rfl⟩
        obtain ⟨ko, hko⟩ : ∃ k, k = (keyB key).map (· ^^^ 92) := ⟨_, rfl⟩
        have HKI : Hid (ki.length = 64 ∧ ∀ x ∈ ki, x < 256) := hid (by rw [hki]; exact ⟨by rw [List.length_map]; exact keyB_length key, fun x hx => by obtain ⟨y, hy, rfl⟩ := List.mem_map.1 hx; exact xor8_lt (keyB_lt key HK.out.byt y hy) (by omega)⟩)
        have HKO : Hid (ko.length = 64 ∧ ∀ x ∈ ko, x < 256) := hid (by rw [hko]; exact ⟨by rw [List.length_map]; exact keyB_length key, fun x hx => by obtain ⟨y, hy, rfl⟩ := List.mem_map.1 hx; exact xor8_lt (keyB_lt key HK.out.byt y hy) (by omega)⟩)
        have HMF : Hid (macF key b = shaF (ko ++ shaF (ki ++ b))) := hid (by rw [hki, hko]; rfl)
        rw [← hki] at HX
        rw [← hko] at HY
        clear hki hko
        have HKwr : Hid (Same w wr) := hid ((HK2.out.trans HK5.out).trans HX.out.kept)
        have HAr := hid (HA.out.same HKwr.out)
        go_wp2_with (at_builtin; refine wpList_append_any _ rfl (.tmp 39) (.tmp 40) rfl u6 ki rfl HX.out.row _ (.slice aa n ca) b rfl HA.out.nil HAr.out.src (by have := HL.out; rw [HKI.out.1]; omega) ?_; intro v6 w6 hr6 hg6 hv6; have HX6 : Hid (Fresh w5 w6 v6 (ki ++ b)) := hid (HX.out.app' hr6 hg6 hv6); have HK6 : Hid (Kept (fun k => u6.ownBlock = some k) wr w6) := hid (Kept.grown (Kept.refl _ wr) hg6 (fun k e => .inl e)); have HY6 : Hid (Fresh w5 w6 u7 ko) := hid ⟨HY.out.row.kept HK6.out (fun k hk f => HXY.out k f hk), HX6.out.kept, HY.out.new⟩; clear hr6 hg6 hv6)
        obtain ⟨a6, c6, e6, _⟩ := HX6.out.row.shape
        have HG6 := hid (HX6.out.arg (fun x hx => (List.mem_append.1 hx).elim (HKI.out.2 x) (HA.out.byt x)))
        rw [e6] at HG6 ⊢
        have HS1 := rsum_any w6 a6 (ki ++ b).length c6 (ki ++ b) HG6.out rfl (by have := HL.out; rw [List.length_append, HKI.out.1]; omega)
        refine HS1.mono ?_
        rintro e w7 ⟨rfl, hk7⟩
        obtain ⟨S, hS⟩ : ∃ S, S = shaF (ki ++ b) := ⟨_, rfl⟩
        have HSL : Hid (S.length = 32) := hid (by rw [hS]; exact shaF_length _)
        have HSB : Hid (∀ x ∈ S, x < 256) := hid (by rw [hS]; exact shaF_lt _)
        rw [← hS] at HMF ⊢
        have HK7 := hid hk7
        have hs7 := hk7.size
        have hs6 := HX6.out.kept.size
        have hs5 := HK5.out.size
        clear hk7 hS HS1 e6
        go_wp2_with (first
          | (with_reducible refine at_alloc 24 10 ?_; refine wpl_alloc 24 _ Tryd.zero32 ?_; intro w8 g8 hB8 hk8 hg8 hl8; have HB8 := hid hB8; have HK8 := hid hk8; clear hB8 hk8)
          | (with_reducible refine at_store 24 10 ?_; refine wpl_store 24 32 Tryd.size32 rfl (cells := S.map byteV) rfl HB8.out (by simp) (by simp [HSL.out]) (byteV_one _) ?_; intro w9 hB9 hk9 hs9; have HB9 := hid hB9; have HK9 : Hid (Same w6 w9) := hid ((HK7.out.trans HK8.out).then hk9 (fun x hx e => by omega)); clear hB9 hk9 hs9 HB8 HK8)
          | (at_builtin; refine wpList_append_any _ rfl (.tmp 43) (.tmp 44) rfl u7 ko rfl (HY6.out.later HK9.out (fun _ f => f.elim)).row _ (.slice (some ⟨g8, 0, none⟩) 32 32) S rfl (fun n c e => by cases e) (src_arr HB9.out 32 HSL.out) (by rw [HKO.out.1, HSL.out]; omega) ?_; intro v10 w10 hr10 hg10 hv10; have HY10 : Hid (Fresh w5 w10 v10 (ko ++ S)) := hid ((HY6.out.later HK9.out (fun _ f => f.elim)).app' hr10 hg10 hv10); clear hr10 hg10 hv10))
        obtain ⟨a10, c10, e10, _⟩ := HY10.out.row.shape
        have HG10 := hid (HY10.out.arg (fun x hx => (List.mem_append.1 hx).elim (HKO.out.2 x) (HSB.out x)))
        rw [e10] at HG10 ⊢
        have HS2 := rsum_any w10 a10 (ko ++ S).length c10 (ko ++ S) HG10.out rfl (by rw [List.length_append, HKO.out.1, HSL.out]; omega)
        refine HS2.mono ?_
        rintro e w11 ⟨rfl, hk11⟩
        rw [← HMF.out]
        have HKE : Hid (Same w2 w11) := hid ((HK5.out.trans HY10.out.kept).trans hk11)
        have HML : Hid ((macF key b).length = 32) := hid (shaF_length _)
        clear hk11 HS2 e10
        go_wp2_with (first
          | (with_reducible refine at_store 24 4 ?_; refine wpl_store 24 32 Tryd.size32 rfl (cells := (macF key b).map byteV) rfl (HB2.out.kept HKE.out (fun f => f)) (by simp) (by simp [HML.out]) (byteV_one _) ?_; intro w14 hB14 hk14 hs14; have HB14 := hid hB14; have HK14 := hid hk14; clear hB14 hk14 hs14))
        refine bodyPost_ret (results_cell15 rfl 32 _ Tryd.underlying24 rfl Tryd.size32 _ rfl HB14.out (by simp [HML.out])) rfl ?_
        exact ⟨rfl, (HK2.out.trans HKE.out).then HK14.out (fun x hx e => by omega)⟩

end Go.Proofs.YtgbfhpilhnbnjaaDoor
