/-
  Of the proof: parts LnPack, LnPack2, LnPk, LnTh, LnRd, LnUk, LnSame, LnLaw, HPack, HItem, HMerge, HLev, HRange, HLen.
-/
import Derived.Deep.RegionHeld3
import Derived.Lib.SliceRun
import Derived.Deep.RegionLaw
import Derived.RangeFuncBox
import Derived.RangeFuncLeaves
import Derived.Shelf.Abstract
import Derived.WalkKit
import Derived.OwnWalkIn
import Derived.TacticsInMore
import Derived.LoopNIn
import Derived.LoopIn
import Derived.Test.YtofhlnpbflkdlaaDoorJ2
import Derived.Test.YtofhlnpbflkdlaaDoorJ3
import Derived.Test.YtofhlnpbflkdlaaDoorJ4
import Derived.Test.YtofhlnpbflkdlaaDoorJ1

/-
  The reference's Pack.
-/
namespace Go.Proofs.YtofhlnpbflkdlaaDoor
open Go.RowKit

theorem packM_next (ns : List Nat) (i n : Nat) (hi : i < ns.length) (hn : n = 1 + frontN ns[i] (ns.drop (i + 1))) : packM (ns.drop i) = sayM ns[i] n ++ packM (ns.drop (i + n)) := by
  rw [List.drop_eq_getElem_cons hi, packM_cons, List.drop_drop, hn]
  congr 3
  omega

set_option maxRecDepth 100000 in
set_option maxHeartbeats 4000000 in
theorem pack_good (w : World) (v : Value) (I : Nat → Prop) (zs : List Int) (ns : List Nat) (hs : SrcE intV w I v zs) (hl : zs.length ≤ 316) (hok : lensOk zs = true) (hns : ns = zs.map Int.toNat) :
    Calls Tryd.prog 12 #[v] w fun e w' => ∃ v', e = .returned (.tuple #[v', .int .i64 0]) ∧ StRow w.heap.size w' v' (packM ns) ∧ Same w w' := by
  have hb := (lensOk_iff zs).1 hok
  have eN : ns.map natV = zs.map intV := by
    rw [hns, List.map_map]
    refine List.map_congr_left (fun z hz => ?_)
    simp only [Function.comp, natV, intV]
    rw [Int.toNat_of_nonneg (hb z hz).1]
  obtain ⟨ao, cap, rfl, hx1, hx2⟩ := id hs
  clear hx1 hx2
  have HLN := lengths_any w _ I zs hs (by omega)
  rw [hok] at HLN
  have HS : Hid (SrcE natV w I (.slice ao zs.length cap) ns) := hid (hs.recode eN)
  have hnl : zs.length = ns.length := by rw [hns]; simp
  obtain ⟨L, hL⟩ : ∃ L, L = zs.length := ⟨_, rfl⟩
  rw [← hL] at HLN HS hl ⊢
  have HL : Hid (L = ns.length) := hid (by omega)
  have H15 : Hid (∀ x ∈ ns, x ≤ 15) := hid (by
    intro x hx
    rw [hns] at hx
    obtain ⟨z, hz, rfl⟩ := List.mem_map.1 hx
    have := hb z hz
    omega)
  have b1 : decide ((316 : Int) < (L : Int)) = false := by simp; omega
  clear hs hb hok hns eN hnl hL
  go_enter Tryd.func12, Tryd.ntmps12
  go_wp2_with fail
  refine HLN.mono ?_
  rintro e w1 ⟨rfl, hw1⟩
  subst hw1
  clear HLN
  go_wp2_with fail
  clear b1
  go_loopg [4, 5] L (fun q zo zi wr => ∃ (i : Nat) (ss : List (Int × Int)), L - i ≤ q ∧ i ≤ L ∧ zi = .int .i64 (i : Nat) ∧ Hid (packM ns = ss ++ packM (ns.drop i) ∧ ss.length ≤ i) ∧ Hid (StRow w1.heap.size wr zo ss) ∧ Hid (Same w1 wr))
  case atStart => exact ⟨0, [], by omega, by omega, rfl, hid ⟨by simp, by simp⟩, RowC.nil, Kept.refl _ _⟩
  case round =>
    obtain ⟨i, ss, hq, hi, rfl, HP, HO, HK⟩ := hrel
    obtain ⟨gk0, hgk⟩ : ∃ x, x = gk := ⟨_, rfl⟩
    rw [← hgk] at hq
    have HG : Hid (gk0 = gk) := hgk
    clear hgk
    by_cases hlt : i < L
    · have hin : i < ns.length := by have := HL.out; omega
      obtain ⟨b, o, cap', e, _, _, cx⟩ := (HS.out.same HK.out).get i hin
      simp only [Value.slice.injEq] at e
      obtain ⟨rfl, hxe, rfl⟩ := e
      clear hxe
      obtain ⟨x, hx⟩ : ∃ x, x = ns[i] := ⟨_, rfl⟩
      rw [← hx] at cx
      unfold natV at cx
      have hx15 : x ≤ 15 := by rw [hx]; exact H15.out _ (List.getElem_mem _)
      have HX : Hid (x = ns[i]) := hx
      have HCX : Hid (wr.cell? ⟨b, o + i, none⟩ = some (.int .i64 (x : Nat))) := cx
      obtain ⟨w2, hw2⟩ : ∃ w2, w2 = wr := ⟨_, rfl⟩
      subst hw2
      clear hx cx
      go_wp2_with fail
      go_loopg [6] L (fun q zn wr => ∃ (n : Nat), L - (i + n) ≤ q ∧ 1 ≤ n ∧ i + n ≤ L ∧ zn = .int .i64 (n : Nat) ∧ Hid (∀ j (_ : j < ns.length), i < j → j < i + n → ns[j] = x) ∧ Hid (Same w2 wr))
      case atStart => exact ⟨1, by omega, by omega, by omega, rfl, hid (fun j _ h1 h2 => by omega), Kept.refl _ _⟩
      case round =>
        obtain ⟨n, hq2, hn1, hnL, rfl, HF, HK2⟩ := hrel
        have cx : wr.cell? ⟨b, o + i, none⟩ = some (.int .i64 (x : Nat)) := HK2.out.cell HCX.out (fun h => h)
        obtain ⟨m, hm⟩ : ∃ m, m = i + n := ⟨_, rfl⟩
        have hmI : (i : Int) + (n : Int) = (m : Int) := by omega
        have hwm : IntKind.i64.wrap (m : Int) = (m : Int) := by rw [IntKind.wrap_i64]; omega
        have HM : Hid (m = i + n) := hm
        -- the front is found: the rest, whatever ended it
        have done : (∀ h : m < ns.length, ns[m] ≠ x) → n = 1 + frontN ns[i] (ns.drop (i + 1)) := by
          intro hne
          have h := frontN_is ns[i] (ns.drop (i + 1)) (n - 1) (fun j hj hjn => by
            rw [List.getElem_drop, ← HX.out]
            exact HF.out (i + 1 + j) (by simp at hj; omega) (by omega) (by omega)) (by simp; have := HL.out; omega) (fun h => by
            rw [List.getElem_drop, ← HX.out]
            have h2 := hne (by simp at h; have := HL.out; omega)
            have e : i + 1 + (n - 1) = m := by omega
            intro h3
            exact h2 (by rw [← h3]; congr 1; omega))
          omega
        clear hm
        by_cases hml : m < L
        · have hmn : m < ns.length := by have := HL.out; omega
          obtain ⟨b', o', cap2, e, _, _, cy⟩ := (HS.out.same (Same.trans HK.out HK2.out)).get m hmn
          simp only [Value.slice.injEq, Option.some.injEq, Addr.mk.injEq, and_true] at e
          obtain ⟨⟨rfl, rfl⟩, hxe, rfl⟩ := e
          clear hxe
          obtain ⟨y, hy⟩ : ∃ y, y = ns[m] := ⟨_, rfl⟩
          rw [← hy] at cy
          unfold natV at cy
          by_cases hyx : y = x
          · have hd : ((y : Int) == (x : Int)) = true := by simp [hyx]
            have HF2 : Hid (∀ j (_ : j < ns.length), i < j → j < i + (n + 1) → ns[j] = x) := hid (fun j hj h1 h2 => by
              by_cases e : j = m
              · subst e; rw [← hy]; exact hyx
              · exact HF.out j hj h1 (by have := HM.out; omega))
            have hm2 : i + (n + 1) ≤ L ∧ L - (i + (n + 1)) + 1 ≤ L - (i + n) := by clear done; have := HM.out; omega
            clear hy hyx done
            go_wp2_with fail
            go_quiet (fail)
            go_wp2_with fail
            go_roundg (gk - 1)
            case measure => omega
            case rel => exact ⟨n + 1, by omega, by omega, hm2.1, by go_num, HF2, hid (HK2.out.drewN _)⟩
          · have hd : ((y : Int) == (x : Int)) = false := by simp; omega
            have HN : Hid (n = 1 + frontN ns[i] (ns.drop (i + 1))) := hid (done (fun _ => by rw [← hy]; exact hyx))
            have HREST : Hid (packM ns = ss ++ (sayM x n ++ packM (ns.drop m))) := hid (by rw [HP.out.1, packM_next ns i n hin HN.out, ← HX.out, HM.out])
            clear hy hyx done HN HF
            go_wp2_with fail
            go_quiet (fail)
            by_cases hx0 : x = 0
            · have hxd : ((x : Int) == 0) = true := by simp; omega
              have HZ : Hid (sayM x n = [] ++ zerosM n ∧ ([] : List (Int × Int)).length + n ≤ n) := hid ⟨by unfold sayM; rw [if_pos hx0]; rfl, by simp⟩
              have HO3 : Hid (StRow w1.heap.size (wr.drewN nq) u4 (ss ++ [])) := hid (by simpa using RowC.kept HO.out (HK2.out.drewN nq) (fun _ _ f => f))
              have HK3 : Hid (Same w1 (wr.drewN nq)) := hid (Same.trans HK.out (HK2.out.drewN nq))
              have hn316 : n ≤ 316 := by omega
              clear hx0
              go_wp2_with fail
              clear hxd
              go_loopg [4, 6] n (fun q zo zn wx => ∃ (k : Nat) (em : List (Int × Int)), k ≤ q ∧ k ≤ n ∧ zn = .int .i64 (k : Nat) ∧ Hid (sayM x n = em ++ zerosM k ∧ em.length + k ≤ n) ∧ Hid (StRow w1.heap.size wx zo (ss ++ em)) ∧ Hid (Same w1 wx))
              case atStart => exact ⟨n, [], by omega, by omega, rfl, HZ, HO3, HK3⟩
              case round =>
                clear HZ HO3 HK3 HO HK2 cx
                obtain ⟨k, em, hqk, hkn, rfl, HZ, HO, HK3⟩ := hrel
                have hsz := HK3.out.size
                have hlen : (ss ++ em).length + 1 ≤ 1000 := by have h1 := HP.out.2; have h2 := HZ.out.2; simp; omega
                by_cases h11 : 11 ≤ k
                · have b11 : decide ((11 : Int) ≤ (k : Int)) = true := by simp; omega
                  by_cases h138 : 138 < k
                  · obtain ⟨k2, hk2⟩ : ∃ k2, k2 = k - 138 := ⟨_, rfl⟩
                    have hk2I : (k : Int) - 138 = (k2 : Int) := by omega
                    have b138 : decide ((138 : Int) < (k : Int)) = true := by simp; omega
                    have HZ2 : Hid (sayM x n = (em ++ [(18, 127)]) ++ zerosM k2 ∧ (em ++ [((18 : Int), (127 : Int))]).length + k2 ≤ n) := hid ⟨by rw [HZ.out.1, zerosM_big k h11, show min k 138 = 138 by omega, ← hk2]; simp, by have := HZ.out.2; simp; omega⟩
                    have hk2k : k2 < k := by omega
                    clear hk2
                    go_wp2_with (at_builtin; refine wpList_append_step _ w1.heap.size rfl (.tmp 56) (.tmp 60) rfl u4 _ rfl (World.ownsRow.alloc HO.out _) ⟨wr.heap.size, 0, none⟩ (18, 127) rfl (step_new _ _ _) (by omega) (by simp; omega) ?_; intro v5 w5 hr5 hg5)
                    have HO5 : Hid (StRow w1.heap.size w5 v5 (ss ++ (em ++ [(18, 127)]))) := hid (by rw [← List.append_assoc]; exact hr5)
                    have HK5 : Hid (Same w1 w5) := hid ((HK3.out.alloc _).grown hg5 (fun j e => .inr (HO.out.ge e)))
                    clear hr5 hg5
                    go_wp2_with fail
                    go_roundg (gk - 1)
                    case measure => omega
                    case rel => exact ⟨k2, _, by omega, by omega, rfl, HZ2, HO5, HK5⟩
                  · obtain ⟨e2, he2⟩ : ∃ e2, e2 = k - 11 := ⟨_, rfl⟩
                    have he2I : (k : Int) - 11 = (e2 : Int) := by omega
                    have b138 : decide ((138 : Int) < (k : Int)) = false := by simp; omega
                    have hkk : (k : Int) - (k : Int) = 0 := by omega
                    have HZ2 : Hid (sayM x n = (em ++ [(18, (e2 : Int))]) ++ zerosM 0 ∧ (em ++ [((18 : Int), (e2 : Int))]).length + 0 ≤ n) := hid ⟨by rw [HZ.out.1, zerosM_big k h11, show min k 138 = k by omega, ← he2, Nat.sub_self]; simp, by have := HZ.out.2; simp; omega⟩
                    have hk0 : 0 < k := by omega
                    clear he2
                    go_wp2_with (at_builtin; refine wpList_append_step _ w1.heap.size rfl (.tmp 56) (.tmp 60) rfl u4 _ rfl (World.ownsRow.alloc HO.out _) ⟨wr.heap.size, 0, none⟩ (18, (e2 : Int)) rfl (step_new _ _ _) (by omega) (by simp; omega) ?_; intro v5 w5 hr5 hg5)
                    have HO5 : Hid (StRow w1.heap.size w5 v5 (ss ++ (em ++ [(18, (e2 : Int))]))) := hid (by rw [← List.append_assoc]; exact hr5)
                    have HK5 : Hid (Same w1 w5) := hid ((HK3.out.alloc _).grown hg5 (fun j e => .inr (HO.out.ge e)))
                    clear hr5 hg5
                    go_wp2_with fail
                    go_roundg (gk - 1)
                    case measure => omega
                    case rel => exact ⟨0, _, by omega, by omega, rfl, HZ2, HO5, HK5⟩
                · have b11 : decide ((11 : Int) ≤ (k : Int)) = false := by simp; omega
                  by_cases h3 : 3 ≤ k
                  · obtain ⟨e2, he2⟩ : ∃ e2, e2 = k - 3 := ⟨_, rfl⟩
                    have he2I : (k : Int) - 3 = (e2 : Int) := by omega
                    have b3 : decide ((3 : Int) ≤ (k : Int)) = true := by simp; omega
                    have HZ2 : Hid (sayM x n = em ++ [(17, (e2 : Int))]) := hid (by rw [HZ.out.1, zerosM_mid k (by omega) h3, ← he2])
                    have hml2 : ss.length + n ≤ m := by have := HP.out.2; have := HM.out; omega
                    clear he2
                    go_wp2_with (at_builtin; refine wpList_append_step _ w1.heap.size rfl (.tmp 67) (.tmp 71) rfl u4 _ rfl (World.ownsRow.alloc HO.out _) ⟨wr.heap.size, 0, none⟩ (17, (e2 : Int)) rfl (step_new _ _ _) (by omega) (by simp; omega) ?_; intro v5 w5 hr5 hg5; have HO5 : Hid (StRow w1.heap.size w5 v5 (ss ++ (em ++ [(17, (e2 : Int))]))) := hid (by rw [← List.append_assoc]; exact hr5); have HK5 : Hid (Same w1 w5) := hid ((HK3.out.alloc _).grown hg5 (fun j e => .inr (HO.out.ge e))); clear hr5 hg5)
                    have HT : Calls Tryd.prog 38 #[v5, .int .i64 0, .int .i64 0] w5 fun e w' => ∃ v', e = .returned v' ∧ StRow w1.heap.size w' v' (ss ++ (em ++ [(17, (e2 : Int))]) ++ List.replicate 0 (0, 0)) ∧ Kept (Over w1.heap.size) w5 w' := times_any w5 w1.heap.size v5 _ 0 0 HO5.out HK5.out.size (by simp at hlen ⊢; omega)
                    refine HT.mono ?_
                    rintro e w6 ⟨v6, rfl, hr6, hk6⟩
                    have HO6 : Hid (StRow w1.heap.size w6 v6 (ss ++ sayM x n)) := hid (by rw [HZ2.out]; simpa using hr6)
                    have HK6 : Hid (Same w1 w6) := hid (Same.then HK5.out hk6 (fun j hj e => by unfold Over at e; omega))
                    clear hr6 hk6 HT
                    have HP6 : Hid (packM ns = (ss ++ sayM x n) ++ packM (ns.drop m) ∧ (ss ++ sayM x n).length ≤ m) := hid ⟨by rw [HREST.out, List.append_assoc], by have h1 := sayM_len x n hn1; simp; omega⟩
                    go_wp2_with fail
                    go_roundg (gk0 - 1)
                    case measure => have := HG.out; omega
                    case rel => exact ⟨m, _, by have := HM.out; omega, by have := HM.out; omega, rfl, HP6, HO6, HK6⟩
                  · have b3 : decide ((3 : Int) ≤ (k : Int)) = false := by simp; omega
                    have HZ2 : Hid (sayM x n = em ++ List.replicate k (0, 0)) := hid (by rw [HZ.out.1, zerosM_few k (by omega)])
                    have hml2 : ss.length + n ≤ m := by have := HP.out.2; have := HM.out; omega
                    have HT := times_any wr w1.heap.size u4 _ k 0 HO.out hsz (by simp at hlen ⊢; omega)
                    go_wp2_with fail
                    refine HT.mono ?_
                    rintro e w6 ⟨v6, rfl, hr6, hk6⟩
                    have HO6 : Hid (StRow w1.heap.size w6 v6 (ss ++ sayM x n)) := hid (by rw [HZ2.out, ← List.append_assoc]; exact hr6)
                    have HK6 : Hid (Same w1 w6) := hid (Same.then HK3.out hk6 (fun j hj e => by unfold Over at e; omega))
                    clear hr6 hk6 HT
                    have HP6 : Hid (packM ns = (ss ++ sayM x n) ++ packM (ns.drop m) ∧ (ss ++ sayM x n).length ≤ m) := hid ⟨by rw [HREST.out, List.append_assoc], by have h1 := sayM_len x n hn1; simp; omega⟩
                    go_wp2_with fail
                    go_roundg (gk0 - 1)
                    case measure => have := HG.out; omega
                    case rel => exact ⟨m, _, by have := HM.out; omega, by have := HM.out; omega, rfl, HP6, HO6, HK6⟩
            · have hxd : ((x : Int) == 0) = false := by simp; omega
              obtain ⟨n1, hn1e⟩ : ∃ n1, n1 = n - 1 := ⟨_, rfl⟩
              have hn1I : (n : Int) - 1 = (n1 : Int) := by omega
              have HSAY : Hid (sayM x n = ((x : Int), 0) :: againM x n1) := hid (by unfold sayM; rw [if_neg hx0, hn1e])
              have HN1 : Hid (n = n1 + 1) := hid (by omega)
              have HO3 : Hid (StRow w1.heap.size (wr.drewN nq) u4 ss) := hid (RowC.kept HO.out (HK2.out.drewN nq) (fun _ _ f => f))
              have HK3 : Hid (Same w1 (wr.drewN nq)) := hid (Same.trans HK.out (HK2.out.drewN nq))
              have hlen0 : ss.length + 1 ≤ 1000 := by have h1 := HP.out.2; omega
              have hsz3 : w1.heap.size ≤ wr.heap.size := HK3.out.size
              have hml2 : ss.length + n ≤ m := by have := HP.out.2; have := HM.out; omega
              clear hx0 hn1e
              go_wp2_with (at_builtin; refine wpList_append_step _ w1.heap.size rfl (.tmp 76) (.tmp 79) rfl u4 _ rfl (World.ownsRow.alloc HO3.out _) ⟨wr.heap.size, 0, none⟩ ((x : Int), 0) rfl (step_new _ _ _) (by omega) (by simp; omega) ?_; intro v4 w4 hr4 hg4; have HO4 : Hid (StRow w1.heap.size w4 v4 (ss ++ ((x : Int), 0) :: [])) := hr4; have HK4 : Hid (Same w1 w4) := hid ((HK3.out.alloc _).grown hg4 (fun j e => .inr (HO3.out.ge e))); clear hr4 hg4)
              clear hxd
              go_loopg [4, 6] n1 (fun q zo zn wx => ∃ (k : Nat) (em : List (Int × Int)), k ≤ q ∧ k ≤ n1 ∧ zn = .int .i64 (k : Nat) ∧ Hid (againM x n1 = em ++ againM x k ∧ em.length + k ≤ n1) ∧ Hid (StRow w1.heap.size wx zo (ss ++ ((x : Int), 0) :: em)) ∧ Hid (Same w1 wx))
              case atStart => exact ⟨n1, [], by omega, by omega, rfl, hid ⟨rfl, by simp⟩, HO4, HK4⟩
              case round =>
                clear HO3 HK3 HO4 HK4 HO HK2 cx
                obtain ⟨k, em, hqk, hkn, rfl, HZ, HO, HK3⟩ := hrel
                have hsz := HK3.out.size
                have hlen : (ss ++ ((x : Int), (0 : Int)) :: em).length + 1 ≤ 1000 := by have h1 := HP.out.2; have h2 := HZ.out.2; have := HN1.out; simp; omega
                by_cases h3 : 3 ≤ k
                · have b3 : decide ((3 : Int) ≤ (k : Int)) = true := by simp; omega
                  by_cases h6 : 6 < k
                  · obtain ⟨k2, hk2⟩ : ∃ k2, k2 = k - 6 := ⟨_, rfl⟩
                    have hk2I : (k : Int) - 6 = (k2 : Int) := by omega
                    have b6 : decide ((6 : Int) < (k : Int)) = true := by simp; omega
                    have HZ2 : Hid (againM x n1 = (em ++ [(16, 3)]) ++ againM x k2 ∧ (em ++ [((16 : Int), (3 : Int))]).length + k2 ≤ n1) := hid ⟨by rw [HZ.out.1, againM_big x k h3, show min k 6 = 6 by omega, ← hk2]; simp, by have := HZ.out.2; simp; omega⟩
                    have hk2k : k2 < k := by omega
                    clear hk2
                    go_wp2_with (at_builtin; refine wpList_append_step _ w1.heap.size rfl (.tmp 87) (.tmp 91) rfl u4 _ rfl (World.ownsRow.alloc HO.out _) ⟨wr.heap.size, 0, none⟩ (16, 3) rfl (step_new _ _ _) (by omega) (by simp; omega) ?_; intro v5 w5 hr5 hg5)
                    have HO5 : Hid (StRow w1.heap.size w5 v5 (ss ++ ((x : Int), 0) :: (em ++ [(16, 3)]))) := hid (by rw [← List.cons_append, ← List.append_assoc]; exact hr5)
                    have HK5 : Hid (Same w1 w5) := hid ((HK3.out.alloc _).grown hg5 (fun j e => .inr (HO.out.ge e)))
                    clear hr5 hg5
                    go_wp2_with fail
                    go_roundg (gk - 1)
                    case measure => omega
                    case rel => exact ⟨k2, _, by omega, by omega, rfl, HZ2, HO5, HK5⟩
                  · obtain ⟨e2, he2⟩ : ∃ e2, e2 = k - 3 := ⟨_, rfl⟩
                    have he2I : (k : Int) - 3 = (e2 : Int) := by omega
                    have b6 : decide ((6 : Int) < (k : Int)) = false := by simp; omega
                    have hkk : (k : Int) - (k : Int) = 0 := by omega
                    have HZ2 : Hid (againM x n1 = (em ++ [(16, (e2 : Int))]) ++ againM x 0 ∧ (em ++ [((16 : Int), (e2 : Int))]).length + 0 ≤ n1) := hid ⟨by rw [HZ.out.1, againM_big x k h3, show min k 6 = k by omega, ← he2, Nat.sub_self]; simp, by have := HZ.out.2; simp; omega⟩
                    have hk0 : 0 < k := by omega
                    clear he2
                    go_wp2_with (at_builtin; refine wpList_append_step _ w1.heap.size rfl (.tmp 87) (.tmp 91) rfl u4 _ rfl (World.ownsRow.alloc HO.out _) ⟨wr.heap.size, 0, none⟩ (16, (e2 : Int)) rfl (step_new _ _ _) (by omega) (by simp; omega) ?_; intro v5 w5 hr5 hg5)
                    have HO5 : Hid (StRow w1.heap.size w5 v5 (ss ++ ((x : Int), 0) :: (em ++ [(16, (e2 : Int))]))) := hid (by rw [← List.cons_append, ← List.append_assoc]; exact hr5)
                    have HK5 : Hid (Same w1 w5) := hid ((HK3.out.alloc _).grown hg5 (fun j e => .inr (HO.out.ge e)))
                    clear hr5 hg5
                    go_wp2_with fail
                    go_roundg (gk - 1)
                    case measure => omega
                    case rel => exact ⟨0, _, by omega, by omega, rfl, HZ2, HO5, HK5⟩
                · have b3 : decide ((3 : Int) ≤ (k : Int)) = false := by simp; omega
                  have HZ2 : Hid (sayM x n = ((x : Int), 0) :: (em ++ List.replicate k ((x : Int), 0))) := hid (by rw [HSAY.out, HZ.out.1, againM_few x k (by omega)])
                  have HT := times_any wr w1.heap.size u4 _ k (x : Int) HO.out hsz (by simp at hlen ⊢; omega)
                  go_wp2_with fail
                  refine HT.mono ?_
                  rintro e w6 ⟨v6, rfl, hr6, hk6⟩
                  have HO6 : Hid (StRow w1.heap.size w6 v6 (ss ++ sayM x n)) := hid (by rw [HZ2.out, ← List.cons_append, ← List.append_assoc]; exact hr6)
                  have HK6 : Hid (Same w1 w6) := hid (Same.then HK3.out hk6 (fun j hj e => by unfold Over at e; omega))
                  clear hr6 hk6 HT
                  have HP6 : Hid (packM ns = (ss ++ sayM x n) ++ packM (ns.drop m) ∧ (ss ++ sayM x n).length ≤ m) := hid ⟨by rw [HREST.out, List.append_assoc], by have h1 := sayM_len x n hn1; simp; omega⟩
                  go_wp2_with fail
                  go_roundg (gk0 - 1)
                  case measure => have := HG.out; omega
                  case rel => exact ⟨m, _, by have := HM.out; omega, by have := HM.out; omega, rfl, HP6, HO6, HK6⟩
        · have hmd : decide (m < L) = false := by simp; omega
          have HN : Hid (n = 1 + frontN ns[i] (ns.drop (i + 1))) := hid (done (fun h => by exfalso; have := HL.out; omega))
          have HREST : Hid (packM ns = ss ++ (sayM x n ++ packM (ns.drop m))) := hid (by rw [HP.out.1, packM_next ns i n hin HN.out, ← HX.out, HM.out])
          clear done HN HF hml
          go_wp2_with fail
          go_quiet (fail)
          by_cases hx0 : x = 0
          · have hxd : ((x : Int) == 0) = true := by simp; omega
            have HZ : Hid (sayM x n = [] ++ zerosM n ∧ ([] : List (Int × Int)).length + n ≤ n) := hid ⟨by unfold sayM; rw [if_pos hx0]; rfl, by simp⟩
            have HO3 : Hid (StRow w1.heap.size (wr.drewN nq) u4 (ss ++ [])) := hid (by simpa using RowC.kept HO.out (HK2.out.drewN nq) (fun _ _ f => f))
            have HK3 : Hid (Same w1 (wr.drewN nq)) := hid (Same.trans HK.out (HK2.out.drewN nq))
            have hn316 : n ≤ 316 := by omega
            clear hx0
            go_wp2_with fail
            clear hxd
            go_loopg [4, 6] n (fun q zo zn wx => ∃ (k : Nat) (em : List (Int × Int)), k ≤ q ∧ k ≤ n ∧ zn = .int .i64 (k : Nat) ∧ Hid (sayM x n = em ++ zerosM k ∧ em.length + k ≤ n) ∧ Hid (StRow w1.heap.size wx zo (ss ++ em)) ∧ Hid (Same w1 wx))
            case atStart => exact ⟨n, [], by omega, by omega, rfl, HZ, HO3, HK3⟩
            case round =>
              clear HZ HO3 HK3 HO HK2 cx
              obtain ⟨k, em, hqk, hkn, rfl, HZ, HO, HK3⟩ := hrel
              have hsz := HK3.out.size
              have hlen : (ss ++ em).length + 1 ≤ 1000 := by have h1 := HP.out.2; have h2 := HZ.out.2; simp; omega
              by_cases h11 : 11 ≤ k
              · have b11 : decide ((11 : Int) ≤ (k : Int)) = true := by simp; omega
                by_cases h138 : 138 < k
                · obtain ⟨k2, hk2⟩ : ∃ k2, k2 = k - 138 := ⟨_, rfl⟩
                  have hk2I : (k : Int) - 138 = (k2 : Int) := by omega
                  have b138 : decide ((138 : Int) < (k : Int)) = true := by simp; omega
                  have HZ2 : Hid (sayM x n = (em ++ [(18, 127)]) ++ zerosM k2 ∧ (em ++ [((18 : Int), (127 : Int))]).length + k2 ≤ n) := hid ⟨by rw [HZ.out.1, zerosM_big k h11, show min k 138 = 138 by omega, ← hk2]; simp, by have := HZ.out.2; simp; omega⟩
                  have hk2k : k2 < k := by omega
                  clear hk2
                  go_wp2_with (at_builtin; refine wpList_append_step _ w1.heap.size rfl (.tmp 56) (.tmp 60) rfl u4 _ rfl (World.ownsRow.alloc HO.out _) ⟨wr.heap.size, 0, none⟩ (18, 127) rfl (step_new _ _ _) (by omega) (by simp; omega) ?_; intro v5 w5 hr5 hg5)
                  have HO5 : Hid (StRow w1.heap.size w5 v5 (ss ++ (em ++ [(18, 127)]))) := hid (by rw [← List.append_assoc]; exact hr5)
                  have HK5 : Hid (Same w1 w5) := hid ((HK3.out.alloc _).grown hg5 (fun j e => .inr (HO.out.ge e)))
                  clear hr5 hg5
                  go_wp2_with fail
                  go_roundg (gk - 1)
                  case measure => omega
                  case rel => exact ⟨k2, _, by omega, by omega, rfl, HZ2, HO5, HK5⟩
                · obtain ⟨e2, he2⟩ : ∃ e2, e2 = k - 11 := ⟨_, rfl⟩
                  have he2I : (k : Int) - 11 = (e2 : Int) := by omega
                  have b138 : decide ((138 : Int) < (k : Int)) = false := by simp; omega
                  have hkk : (k : Int) - (k : Int) = 0 := by omega
                  have HZ2 : Hid (sayM x n = (em ++ [(18, (e2 : Int))]) ++ zerosM 0 ∧ (em ++ [((18 : Int), (e2 : Int))]).length + 0 ≤ n) := hid ⟨by rw [HZ.out.1, zerosM_big k h11, show min k 138 = k by omega, ← he2, Nat.sub_self]; simp, by have := HZ.out.2; simp; omega⟩
                  have hk0 : 0 < k := by omega
                  clear he2
                  go_wp2_with (at_builtin; refine wpList_append_step _ w1.heap.size rfl (.tmp 56) (.tmp 60) rfl u4 _ rfl (World.ownsRow.alloc HO.out _) ⟨wr.heap.size, 0, none⟩ (18, (e2 : Int)) rfl (step_new _ _ _) (by omega) (by simp; omega) ?_; intro v5 w5 hr5 hg5)
                  have HO5 : Hid (StRow w1.heap.size w5 v5 (ss ++ (em ++ [(18, (e2 : Int))]))) := hid (by rw [← List.append_assoc]; exact hr5)
                  have HK5 : Hid (Same w1 w5) := hid ((HK3.out.alloc _).grown hg5 (fun j e => .inr (HO.out.ge e)))
                  clear hr5 hg5
                  go_wp2_with fail
                  go_roundg (gk - 1)
                  case measure => omega
                  case rel => exact ⟨0, _, by omega, by omega, rfl, HZ2, HO5, HK5⟩
              · have b11 : decide ((11 : Int) ≤ (k : Int)) = false := by simp; omega
                by_cases h3 : 3 ≤ k
                · obtain ⟨e2, he2⟩ : ∃ e2, e2 = k - 3 := ⟨_, rfl⟩
                  have he2I : (k : Int) - 3 = (e2 : Int) := by omega
                  have b3 : decide ((3 : Int) ≤ (k : Int)) = true := by simp; omega
                  have HZ2 : Hid (sayM x n = em ++ [(17, (e2 : Int))]) := hid (by rw [HZ.out.1, zerosM_mid k (by omega) h3, ← he2])
                  have hml2 : ss.length + n ≤ m := by have := HP.out.2; have := HM.out; omega
                  clear he2
                  go_wp2_with (at_builtin; refine wpList_append_step _ w1.heap.size rfl (.tmp 67) (.tmp 71) rfl u4 _ rfl (World.ownsRow.alloc HO.out _) ⟨wr.heap.size, 0, none⟩ (17, (e2 : Int)) rfl (step_new _ _ _) (by omega) (by simp; omega) ?_; intro v5 w5 hr5 hg5; have HO5 : Hid (StRow w1.heap.size w5 v5 (ss ++ (em ++ [(17, (e2 : Int))]))) := hid (by rw [← List.append_assoc]; exact hr5); have HK5 : Hid (Same w1 w5) := hid ((HK3.out.alloc _).grown hg5 (fun j e => .inr (HO.out.ge e))); clear hr5 hg5)
                  have HT : Calls Tryd.prog 38 #[v5, .int .i64 0, .int .i64 0] w5 fun e w' => ∃ v', e = .returned v' ∧ StRow w1.heap.size w' v' (ss ++ (em ++ [(17, (e2 : Int))]) ++ List.replicate 0 (0, 0)) ∧ Kept (Over w1.heap.size) w5 w' := times_any w5 w1.heap.size v5 _ 0 0 HO5.out HK5.out.size (by simp at hlen ⊢; omega)
                  refine HT.mono ?_
                  rintro e w6 ⟨v6, rfl, hr6, hk6⟩
                  have HO6 : Hid (StRow w1.heap.size w6 v6 (ss ++ sayM x n)) := hid (by rw [HZ2.out]; simpa using hr6)
                  have HK6 : Hid (Same w1 w6) := hid (Same.then HK5.out hk6 (fun j hj e => by unfold Over at e; omega))
                  clear hr6 hk6 HT
                  have HP6 : Hid (packM ns = (ss ++ sayM x n) ++ packM (ns.drop m) ∧ (ss ++ sayM x n).length ≤ m) := hid ⟨by rw [HREST.out, List.append_assoc], by have h1 := sayM_len x n hn1; simp; omega⟩
                  go_wp2_with fail
                  go_roundg (gk0 - 1)
                  case measure => have := HG.out; omega
                  case rel => exact ⟨m, _, by have := HM.out; omega, by have := HM.out; omega, rfl, HP6, HO6, HK6⟩
                · have b3 : decide ((3 : Int) ≤ (k : Int)) = false := by simp; omega
                  have HZ2 : Hid (sayM x n = em ++ List.replicate k (0, 0)) := hid (by rw [HZ.out.1, zerosM_few k (by omega)])
                  have hml2 : ss.length + n ≤ m := by have := HP.out.2; have := HM.out; omega
                  have HT := times_any wr w1.heap.size u4 _ k 0 HO.out hsz (by simp at hlen ⊢; omega)
                  go_wp2_with fail
                  refine HT.mono ?_
                  rintro e w6 ⟨v6, rfl, hr6, hk6⟩
                  have HO6 : Hid (StRow w1.heap.size w6 v6 (ss ++ sayM x n)) := hid (by rw [HZ2.out, ← List.append_assoc]; exact hr6)
                  have HK6 : Hid (Same w1 w6) := hid (Same.then HK3.out hk6 (fun j hj e => by unfold Over at e; omega))
                  clear hr6 hk6 HT
                  have HP6 : Hid (packM ns = (ss ++ sayM x n) ++ packM (ns.drop m) ∧ (ss ++ sayM x n).length ≤ m) := hid ⟨by rw [HREST.out, List.append_assoc], by have h1 := sayM_len x n hn1; simp; omega⟩
                  go_wp2_with fail
                  go_roundg (gk0 - 1)
                  case measure => have := HG.out; omega
                  case rel => exact ⟨m, _, by have := HM.out; omega, by have := HM.out; omega, rfl, HP6, HO6, HK6⟩
          · have hxd : ((x : Int) == 0) = false := by simp; omega
            obtain ⟨n1, hn1e⟩ : ∃ n1, n1 = n - 1 := ⟨_, rfl⟩
            have hn1I : (n : Int) - 1 = (n1 : Int) := by omega
            have HSAY : Hid (sayM x n = ((x : Int), 0) :: againM x n1) := hid (by unfold sayM; rw [if_neg hx0, hn1e])
            have HN1 : Hid (n = n1 + 1) := hid (by omega)
            have HO3 : Hid (StRow w1.heap.size (wr.drewN nq) u4 ss) := hid (RowC.kept HO.out (HK2.out.drewN nq) (fun _ _ f => f))
            have HK3 : Hid (Same w1 (wr.drewN nq)) := hid (Same.trans HK.out (HK2.out.drewN nq))
            have hlen0 : ss.length + 1 ≤ 1000 := by have h1 := HP.out.2; omega
            have hsz3 : w1.heap.size ≤ wr.heap.size := HK3.out.size
            have hml2 : ss.length + n ≤ m := by have := HP.out.2; have := HM.out; omega
            clear hx0 hn1e
            go_wp2_with (at_builtin; refine wpList_append_step _ w1.heap.size rfl (.tmp 76) (.tmp 79) rfl u4 _ rfl (World.ownsRow.alloc HO3.out _) ⟨wr.heap.size, 0, none⟩ ((x : Int), 0) rfl (step_new _ _ _) (by omega) (by simp; omega) ?_; intro v4 w4 hr4 hg4; have HO4 : Hid (StRow w1.heap.size w4 v4 (ss ++ ((x : Int), 0) :: [])) := hr4; have HK4 : Hid (Same w1 w4) := hid ((HK3.out.alloc _).grown hg4 (fun j e => .inr (HO3.out.ge e))); clear hr4 hg4)
            clear hxd
            go_loopg [4, 6] n1 (fun q zo zn wx => ∃ (k : Nat) (em : List (Int × Int)), k ≤ q ∧ k ≤ n1 ∧ zn = .int .i64 (k : Nat) ∧ Hid (againM x n1 = em ++ againM x k ∧ em.length + k ≤ n1) ∧ Hid (StRow w1.heap.size wx zo (ss ++ ((x : Int), 0) :: em)) ∧ Hid (Same w1 wx))
            case atStart => exact ⟨n1, [], by omega, by omega, rfl, hid ⟨rfl, by simp⟩, HO4, HK4⟩
            case round =>
              clear HO3 HK3 HO4 HK4 HO HK2 cx
              obtain ⟨k, em, hqk, hkn, rfl, HZ, HO, HK3⟩ := hrel
              have hsz := HK3.out.size
              have hlen : (ss ++ ((x : Int), (0 : Int)) :: em).length + 1 ≤ 1000 := by have h1 := HP.out.2; have h2 := HZ.out.2; have := HN1.out; simp; omega
              by_cases h3 : 3 ≤ k
              · have b3 : decide ((3 : Int) ≤ (k : Int)) = true := by simp; omega
                by_cases h6 : 6 < k
                · obtain ⟨k2, hk2⟩ : ∃ k2, k2 = k - 6 := ⟨_, rfl⟩
                  have hk2I : (k : Int) - 6 = (k2 : Int) := by omega
                  have b6 : decide ((6 : Int) < (k : Int)) = true := by simp; omega
                  have HZ2 : Hid (againM x n1 = (em ++ [(16, 3)]) ++ againM x k2 ∧ (em ++ [((16 : Int), (3 : Int))]).length + k2 ≤ n1) := hid ⟨by rw [HZ.out.1, againM_big x k h3, show min k 6 = 6 by omega, ← hk2]; simp, by have := HZ.out.2; simp; omega⟩
                  have hk2k : k2 < k := by omega
                  clear hk2
                  go_wp2_with (at_builtin; refine wpList_append_step _ w1.heap.size rfl (.tmp 87) (.tmp 91) rfl u4 _ rfl (World.ownsRow.alloc HO.out _) ⟨wr.heap.size, 0, none⟩ (16, 3) rfl (step_new _ _ _) (by omega) (by simp; omega) ?_; intro v5 w5 hr5 hg5)
                  have HO5 : Hid (StRow w1.heap.size w5 v5 (ss ++ ((x : Int), 0) :: (em ++ [(16, 3)]))) := hid (by rw [← List.cons_append, ← List.append_assoc]; exact hr5)
                  have HK5 : Hid (Same w1 w5) := hid ((HK3.out.alloc _).grown hg5 (fun j e => .inr (HO.out.ge e)))
                  clear hr5 hg5
                  go_wp2_with fail
                  go_roundg (gk - 1)
                  case measure => omega
                  case rel => exact ⟨k2, _, by omega, by omega, rfl, HZ2, HO5, HK5⟩
                · obtain ⟨e2, he2⟩ : ∃ e2, e2 = k - 3 := ⟨_, rfl⟩
                  have he2I : (k : Int) - 3 = (e2 : Int) := by omega
                  have b6 : decide ((6 : Int) < (k : Int)) = false := by simp; omega
                  have hkk : (k : Int) - (k : Int) = 0 := by omega
                  have HZ2 : Hid (againM x n1 = (em ++ [(16, (e2 : Int))]) ++ againM x 0 ∧ (em ++ [((16 : Int), (e2 : Int))]).length + 0 ≤ n1) := hid ⟨by rw [HZ.out.1, againM_big x k h3, show min k 6 = k by omega, ← he2, Nat.sub_self]; simp, by have := HZ.out.2; simp; omega⟩
                  have hk0 : 0 < k := by omega
                  clear he2
                  go_wp2_with (at_builtin; refine wpList_append_step _ w1.heap.size rfl (.tmp 87) (.tmp 91) rfl u4 _ rfl (World.ownsRow.alloc HO.out _) ⟨wr.heap.size, 0, none⟩ (16, (e2 : Int)) rfl (step_new _ _ _) (by omega) (by simp; omega) ?_; intro v5 w5 hr5 hg5)
                  have HO5 : Hid (StRow w1.heap.size w5 v5 (ss ++ ((x : Int), 0) :: (em ++ [(16, (e2 : Int))]))) := hid (by rw [← List.cons_append, ← List.append_assoc]; exact hr5)
                  have HK5 : Hid (Same w1 w5) := hid ((HK3.out.alloc _).grown hg5 (fun j e => .inr (HO.out.ge e)))
                  clear hr5 hg5
                  go_wp2_with fail
                  go_roundg (gk - 1)
                  case measure => omega
                  case rel => exact ⟨0, _, by omega, by omega, rfl, HZ2, HO5, HK5⟩
              · have b3 : decide ((3 : Int) ≤ (k : Int)) = false := by simp; omega
                have HZ2 : Hid (sayM x n = ((x : Int), 0) :: (em ++ List.replicate k ((x : Int), 0))) := hid (by rw [HSAY.out, HZ.out.1, againM_few x k (by omega)])
                have HT := times_any wr w1.heap.size u4 _ k (x : Int) HO.out hsz (by simp at hlen ⊢; omega)
                go_wp2_with fail
                refine HT.mono ?_
                rintro e w6 ⟨v6, rfl, hr6, hk6⟩
                have HO6 : Hid (StRow w1.heap.size w6 v6 (ss ++ sayM x n)) := hid (by rw [HZ2.out, ← List.cons_append, ← List.append_assoc]; exact hr6)
                have HK6 : Hid (Same w1 w6) := hid (Same.then HK3.out hk6 (fun j hj e => by unfold Over at e; omega))
                clear hr6 hk6 HT
                have HP6 : Hid (packM ns = (ss ++ sayM x n) ++ packM (ns.drop m) ∧ (ss ++ sayM x n).length ≤ m) := hid ⟨by rw [HREST.out, List.append_assoc], by have h1 := sayM_len x n hn1; simp; omega⟩
                go_wp2_with fail
                go_roundg (gk0 - 1)
                case measure => have := HG.out; omega
                case rel => exact ⟨m, _, by have := HM.out; omega, by have := HM.out; omega, rfl, HP6, HO6, HK6⟩
    · have hid' : decide (i < L) = false := by simp; omega
      have HE : Hid (packM ns = ss) := hid (by rw [HP.out.1, List.drop_eq_nil_of_le (by have := HL.out; omega)]; simp [packM])
      clear hlt
      go_wp2_with fail
      go_ret2
      exact ⟨_, rfl, by rw [HE.out]; exact HO.out, HK.out⟩

end Go.Proofs.YtofhlnpbflkdlaaDoor

/-
  The reference's Pack, whatever the list; May.
-/
namespace Go.Proofs.YtofhlnpbflkdlaaDoor
open Go.RowKit

set_option maxHeartbeats 1000000 in
theorem pack_bad (w : World) (v : Value) (I : Nat → Prop) (zs : List Int) (hs : SrcE intV w I v zs) (hn : zs.length ≤ 10000000) (hb : 316 < zs.length ∨ lensOk zs = false) :
    Calls Tryd.prog 12 #[v] w fun e w' => e = .returned (.tuple #[.slice none 0 0, .int .i64 1]) ∧ Same w w' := by
  obtain ⟨ao, cap, rfl, hx1, hx2⟩ := id hs
  clear hx1 hx2
  have HLN := lengths_any w _ I zs hs hn
  clear hs
  by_cases hl : 316 < zs.length
  · have b1 : decide ((316 : Int) < (zs.length : Int)) = true := by simp; omega
    clear hb hl
    go_enter Tryd.func12, Tryd.ntmps12
    go_wp2_with fail
    go_ret2
    exact ⟨rfl, Kept.refl _ _⟩
  · have b1 : decide ((316 : Int) < (zs.length : Int)) = false := by simp; omega
    have hok : lensOk zs = false := by rcases hb with h | h; omega; exact h
    rw [hok] at HLN
    clear hb hl hok
    go_enter Tryd.func12, Tryd.ntmps12
    go_wp2_with fail
    refine HLN.mono ?_
    rintro e w1 ⟨rfl, hw1⟩
    subst hw1
    clear HLN
    go_wp2_with fail
    go_ret2
    exact ⟨rfl, Kept.refl _ _⟩

/-- An answer of Pack: an error, or a new row of steps. -/
def PackA (w w' : World) (e : Ending) : Except Nat (List (Int × Int)) → Prop
  | .error c => e = .returned (.tuple #[.slice none 0 0, .int .i64 (c : Nat)]) ∧ Same w w'
  | .ok ss => ∃ v', e = .returned (.tuple #[v', .int .i64 0]) ∧ StRow w.heap.size w' v' ss ∧ Same w w'

theorem packA_good {zs : List Int} (h1 : zs.length ≤ 316) (h2 : lensOk zs = true) : packA zs = .ok (packM (zs.map Int.toNat)) := by
  unfold packA
  rw [if_pos ⟨h1, (lensOk_iff zs).1 h2⟩]

theorem packA_bad {zs : List Int} (h : 316 < zs.length ∨ lensOk zs = false) : packA zs = .error 1 := by
  unfold packA
  rw [if_neg]
  rintro ⟨h1, h2⟩
  rcases h with h | h
  · omega
  · rw [(lensOk_iff zs).2 h2] at h; cases h

theorem pack_any (w : World) (v : Value) (I : Nat → Prop) (zs : List Int) (hs : SrcE intV w I v zs) (hn : zs.length ≤ 10000000) :
    Calls Tryd.prog 12 #[v] w fun e w' => PackA w w' e (packA zs) := by
  by_cases hb : 316 < zs.length ∨ lensOk zs = false
  · rw [packA_bad hb]
    exact pack_bad w v I zs hs hn hb
  · have h2 : lensOk zs = true := by
      cases h : lensOk zs with
      | true => rfl
      | false => exact absurd (.inr h) hb
    have h1 : zs.length ≤ 316 := Nat.le_of_not_lt (fun h => hb (.inl h))
    rw [packA_good h1 h2]
    exact pack_good w v I zs _ hs h1 h2 rfl

/-- May lists be written? -/
def mayM (a b : List Int) : Bool := decide (257 ≤ a.length) && decide (a.length ≤ 286) && decide (1 ≤ b.length) && decide (b.length ≤ 30) && lensOk a && lensOk b

set_option maxHeartbeats 1000000 in
theorem may_any (w : World) (va vb : Value) (I J : Nat → Prop) (xs ys : List Int) (ha : SrcE intV w I va xs) (hb : SrcE intV w J vb ys) (hx : xs.length ≤ 10000000) (hy : ys.length ≤ 10000000) :
    Calls Tryd.prog 21 #[va, vb] w fun e w' => e = .returned (.bool (mayM xs ys)) ∧ w' = w := by
  obtain ⟨ao, ca, rfl, hxa, hsa⟩ := id ha
  obtain ⟨bo, cb, rfl, hxb, hsb⟩ := id hb
  clear hxa hxb hsa hsb
  have HA := lengths_any w _ I xs ha hx
  have HB := lengths_any w _ J ys hb hy
  clear ha hb
  obtain ⟨m, hm⟩ : ∃ m, m = xs.length := ⟨_, rfl⟩
  obtain ⟨n, hn⟩ : ∃ n, n = ys.length := ⟨_, rfl⟩
  have HM : Hid (mayM xs ys = (decide (257 ≤ m) && decide (m ≤ 286) && decide (1 ≤ n) && decide (n ≤ 30) && lensOk xs && lensOk ys)) := hid (by rw [hm, hn]; rfl)
  rw [← hm] at HA hx ⊢
  rw [← hn] at HB hy ⊢
  clear hm hn
  generalize lensOk xs = p at *
  generalize lensOk ys = q at *
  go_enter Tryd.func21, Tryd.ntmps21
  by_cases h1 : 257 ≤ m
  · have d1 : decide ((257 : Int) ≤ (m : Int)) = true := by simp; omega
    by_cases h2 : m ≤ 286
    · have d2 : decide ((m : Int) ≤ 286) = true := by simp; omega
      by_cases h3 : 1 ≤ n
      · have d3 : decide ((1 : Int) ≤ (n : Int)) = true := by simp; omega
        by_cases h4 : n ≤ 30
        · have d4 : decide ((n : Int) ≤ 30) = true := by simp; omega
          have HE : Hid (mayM xs ys = (p && q)) := hid (by rw [HM.out]; simp [h1, h2, h3, h4])
          clear h1 h2 h3 h4
          go_wp2_with fail
          refine HA.mono ?_
          rintro e w1 ⟨rfl, hw1⟩
          subst hw1
          clear HA
          cases p with
          | false =>
            go_wp2_with fail
            go_ret
            exact ⟨by rw [HE.out]; rfl, rfl⟩
          | true =>
            go_wp2_with fail
            refine HB.mono ?_
            rintro e w2 ⟨rfl, hw2⟩
            subst hw2
            clear HB
            go_wp2_with fail
            go_ret
            exact ⟨by rw [HE.out]; rfl, rfl⟩
        · have d4 : decide ((n : Int) ≤ 30) = false := by simp; omega
          have HE : Hid (mayM xs ys = false) := hid (by rw [HM.out]; simp [h4])
          go_wp2_with fail
          go_ret
          exact ⟨by rw [HE.out]; rfl, rfl⟩
      · have d3 : decide ((1 : Int) ≤ (n : Int)) = false := by simp; omega
        have HE : Hid (mayM xs ys = false) := hid (by rw [HM.out]; simp [h3])
        go_wp2_with fail
        go_ret
        exact ⟨by rw [HE.out]; rfl, rfl⟩
    · have d2 : decide ((m : Int) ≤ 286) = false := by simp; omega
      have HE : Hid (mayM xs ys = false) := hid (by rw [HM.out]; simp [h2])
      go_wp2_with fail
      go_ret
      exact ⟨by rw [HE.out]; rfl, rfl⟩
  · have d1 : decide ((257 : Int) ≤ (m : Int)) = false := by simp; omega
    have HE : Hid (mayM xs ys = false) := hid (by rw [HM.out]; simp [h1])
    go_wp2_with fail
    go_ret
    exact ⟨by rw [HE.out]; rfl, rfl⟩

end Go.Proofs.YtofhlnpbflkdlaaDoor

/-
  The program's Pack.
-/
namespace Go.Proofs.YtofhlnpbflkdlaaDoor
open Go.RowKit

theorem sayM_ne (v n : Nat) (h : 1 ≤ n) : sayM v n ≠ [] := by
  unfold sayM
  split
  · by_cases h11 : 11 ≤ n
    · rw [zerosM_big n h11]; simp
    · by_cases h3 : 3 ≤ n
      · rw [zerosM_mid n (by omega) h3]; simp
      · rw [zerosM_few n (by omega)]
        cases n with
        | zero => omega
        | succ n => simp [List.replicate_succ]
  · simp

theorem SrcE.tail2 {w : World} {I : Nat → Prop} {b o cap : Nat} {l : List Nat} (h : SrcE natV w I (.slice (some ⟨b, o, none⟩) l.length cap) l) (k : Nat) (hk : k ≤ l.length) :
    SrcE natV w I (.slice (if cap = k then some ⟨b, o, none⟩ else some ⟨b, o + k, none⟩) (l.length - k) (cap - k)) (l.drop k) := by
  obtain ⟨ao, cap', e, hc, _⟩ := id h
  simp only [Value.slice.injEq] at e
  obtain ⟨_, _, rfl⟩ := e
  split
  · exact h.tail k o hk (fun h2 => by omega)
  · exact h.tail k (o + k) hk (fun _ => rfl)

theorem RowC.at {α : Type} {B t k : Nat} {enc : α → List Value} (ok : EncOk enc k) {w : World} {g n cap : Nat} {xs : List α} (h : RowC B t k enc w (.slice (some ⟨g, 0, none⟩) n cap) xs) : CellsAt w ⟨g, 0, none⟩ (xs.flatMap enc) := by
  have hl := h.len
  subst hl
  intro j u hu
  have hj : j < (xs.flatMap enc).length := (List.getElem?_eq_some_iff.1 hu).1
  rw [flat_length ok] at hj
  have e : (⟨g, 0, none⟩ : Addr).add j = ⟨g, j, none⟩ := by unfold Addr.add; split <;> simp_all
  rw [e, h.cellAt j hj, hu]

set_option maxRecDepth 100000 in
set_option maxHeartbeats 2000000 in
theorem lpack_good (w : World) (v : Value) (I : Nat → Prop) (zs : List Int) (ns : List Nat) (hs : SrcE intV w I v zs) (hl : zs.length ≤ 316) (hok : lensOk zs = true) (hns : ns = zs.map Int.toNat) :
    Calls Tryd.prog 11 #[v] w fun e w' => ∃ v', e = .returned (.tuple #[v', .int .i64 0]) ∧ StRow w.heap.size w' v' (packM ns) ∧ Same w w' := by
  have hb := (lensOk_iff zs).1 hok
  have eN : ns.map natV = zs.map intV := by
    rw [hns, List.map_map]
    refine List.map_congr_left (fun z hz => ?_)
    simp only [Function.comp, natV, intV]
    rw [Int.toNat_of_nonneg (hb z hz).1]
  obtain ⟨ao, cap, rfl, hx1, hx2⟩ := id hs
  clear hx1 hx2
  have HCT := lcontains_any w _ I zs hs (by omega)
  rw [hok] at HCT
  have HS : Hid (SrcE natV w I (.slice ao zs.length cap) ns) := hid (hs.recode eN)
  have hnl : zs.length = ns.length := by rw [hns]; simp
  obtain ⟨L, hL⟩ : ∃ L, L = zs.length := ⟨_, rfl⟩
  rw [← hL] at HCT HS hl ⊢
  have HL : Hid (L = ns.length) := hid (by omega)
  have b1 : decide ((316 : Int) < (L : Int)) = false := by simp; omega
  clear hs hb hok hns eN hnl hL
  go_enter Tryd.func11, Tryd.ntmps11
  go_wp2_with fail
  refine HCT.mono ?_
  rintro e w1 ⟨rfl, hw1⟩
  subst hw1
  clear HCT
  go_wp2_with fail
  clear b1
  go_loopg [0, 5, 6] L (fun q zl zo _ wr => ∃ (i d : Nat) (a2 : Option Addr) (c2 : Nat) (ss : List (Int × Int)), d ≤ q ∧ i + d = L ∧ zl = .slice a2 d c2 ∧ Hid (SrcE natV w1 I (.slice a2 d c2) (ns.drop i)) ∧ Hid (packM ns = ss ++ packM (ns.drop i) ∧ ss.length ≤ i) ∧ Hid (StRow w1.heap.size wr zo ss) ∧ Hid (Same w1 wr))
  case atStart => exact ⟨0, L, ao, cap, [], by omega, by omega, rfl, hid (by simpa using HS.out), hid ⟨by simp, by simp⟩, RowC.nil, Kept.refl _ _⟩
  case round =>
    clear HS
    obtain ⟨i, d, a2, c2, ss, hq, hi, rfl, HS, HP, HO, HK⟩ := hrel
    by_cases hlt : 0 < d
    · have hin : i < ns.length := by have := HL.out; omega
      have hdr : ns.drop i = ns[i] :: ns.drop (i + 1) := List.drop_eq_getElem_cons hin
      obtain ⟨y, hy⟩ : ∃ y, y = ns[i] := ⟨_, rfl⟩
      rw [← hy] at hdr
      obtain ⟨r, hr⟩ : ∃ r, r = ns.drop (i + 1) := ⟨_, rfl⟩
      rw [← hr] at hdr
      have hlen : (y :: r).length = d := by rw [← hdr, List.length_drop]; have := HL.out; omega
      have hS2 := HS.out
      rw [hdr] at hS2
      obtain ⟨b, o, cap', e, _, _, cx⟩ := hS2.get 0 (by simp)
      simp only [Value.slice.injEq] at e
      obtain ⟨rfl, hxe, rfl⟩ := e
      clear hxe
      have cx2 : wr.cell? ⟨b, o, none⟩ = some (.int .i64 (y : Nat)) := HK.out.cell cx (fun f => f)
      rw [← hlen] at hS2
      have HAL := alike_any wr b o c2 I y r (hS2.same HK.out) (by omega)
      have hf := frontN_le y r
      obtain ⟨n, hn⟩ : ∃ n, n = 1 + frontN y r := ⟨_, rfl⟩
      have hn1 : 1 ≤ n := by omega
      have hnl : n ≤ d := by simp at hlen; omega
      have HT2 : Hid (SrcE natV w1 I (.slice (if c2 = n then some ⟨b, o, none⟩ else some ⟨b, o + n, none⟩) (d - n) (c2 - n)) (ns.drop (i + n))) := hid (by
        have h := hS2.tail2 n (by omega)
        rw [hlen, ← hdr, List.drop_drop] at h
        exact h)
      have HP2 : Hid (packM ns = ss ++ (sayM y n ++ packM (ns.drop (i + n)))) := hid (by
        rw [HP.out.1]
        have h := packM_next ns i n hin (by rw [← hy, ← hr]; exact hn)
        rw [← hy] at h
        rw [h])
      have HSL : Hid ((sayM y n).length ≤ n ∧ sayM y n ≠ []) := hid ⟨sayM_len y n hn1, sayM_ne y n hn1⟩
      rw [← hn, hlen] at HAL
      clear hlen hdr hy hr hS2 cx hn hf
      go_wp2_with fail
      refine HAL.mono ?_
      rintro e w2 ⟨rfl, hk2⟩
      have HK2 : Hid (Same wr w2) := hk2
      have cx3 : w2.cell? ⟨b, o, none⟩ = some (.int .i64 (y : Nat)) := hk2.cell cx2 (fun f => f)
      have HPR := packRow_any w2 y n (by omega) hn1
      clear hk2 HAL cx2
      go_wp2_with fail
      refine HPR.mono ?_
      rintro e w3 ⟨v3, rfl, hr3, hk3⟩
      obtain ⟨ao3, cap3, hv3, hg3, _⟩ := hr3.shape
      obtain ⟨g3, rfl⟩ := hg3 HSL.out.2
      subst hv3
      obtain ⟨m3, hm3⟩ : ∃ m, m = (sayM y n).length := ⟨_, rfl⟩
      rw [← hm3] at hr3 ⊢
      have HR3 : Hid (StRow w2.heap.size w3 (.slice (some ⟨g3, 0, none⟩) m3 cap3) (sayM y n)) := hr3
      have HK3 : Hid (Same wr w3) := hid (Same.trans HK2.out hk3)
      have HC3 : Hid (CellsAt w3 ⟨g3, 0, none⟩ ((sayM y n).flatMap stC)) := hid (RowC.at stC_ok hr3)
      have HM3 : Hid ((sayM y n).length = m3) := hid hm3.symm
      have hlen4 : ss.length + (sayM y n).length ≤ 1000 := by have h1 := HP.out.2; have h2 := HSL.out.1; omega
      have hsz3 : w1.heap.size ≤ w3.heap.size := by have h1 := HK.out.size; have h2 := HK3.out.size; omega
      clear hr3 hk3 HPR hm3 hg3 cx3
      have hn0 : (0 : Int) ≤ (n : Int) := by omega
      go_wp2_with (at_builtin; refine wpList_append_c _ stC 2 stC_ok (by decide) w1.heap.size 25 31 (.agg #[.int .i64 0, .int .i64 0]) 16 Tryd.underlying25 Tryd.infoSt rfl (by decide) rfl (.tmp 20) (.tmp 25) rfl u5 ss rfl (RowC.kept HO.out HK3.out (fun _ _ f => f)) ⟨g3, 0, none⟩ m3 cap3 (sayM y n) rfl HM3.out HC3.out (by omega) hsz3 ?_; intro v5 w5 hr5 hg5; have HR5 : Hid (StRow w1.heap.size w5 v5 (ss ++ sayM y n)) := hr5; have HK5 : Hid (Same w1 w5) := hid ((Same.trans HK.out HK3.out).grown hg5 (fun j e => .inr (HO.out.ge e))); clear hr5 hg5)
      all_goals
        go_roundg (gk - 1)
        case measure => omega
        case rel => exact ⟨i + n, d - n, _, _, ss ++ sayM y n, by omega, by omega, rfl, hid (by first | simpa using HT2.out | simpa [*] using HT2.out), hid ⟨by rw [HP2.out, List.append_assoc], by have h1 := HP.out.2; have h2 := HSL.out.1; simp; omega⟩, HR5, HK5⟩
    · have hdd : d = 0 := by omega
      have HE : Hid (packM ns = ss) := hid (by rw [HP.out.1, List.drop_eq_nil_of_le (by have := HL.out; omega)]; simp [packM])
      subst hdd
      clear hlt
      go_wp2_with fail
      go_ret2
      exact ⟨_, rfl, by rw [HE.out]; exact HO.out, HK.out⟩

set_option maxHeartbeats 1000000 in
theorem lpack_bad (w : World) (v : Value) (I : Nat → Prop) (zs : List Int) (hs : SrcE intV w I v zs) (hn : zs.length ≤ 10000000) (hb : 316 < zs.length ∨ lensOk zs = false) :
    Calls Tryd.prog 11 #[v] w fun e w' => e = .returned (.tuple #[.slice none 0 0, .int .i64 1]) ∧ Same w w' := by
  obtain ⟨ao, cap, rfl, hx1, hx2⟩ := id hs
  clear hx1 hx2
  have HCT := lcontains_any w _ I zs hs hn
  clear hs
  by_cases hl : 316 < zs.length
  · have b1 : decide ((316 : Int) < (zs.length : Int)) = true := by simp; omega
    clear hb hl
    go_enter Tryd.func11, Tryd.ntmps11
    go_wp2_with fail
    go_ret2
    exact ⟨rfl, Kept.refl _ _⟩
  · have b1 : decide ((316 : Int) < (zs.length : Int)) = false := by simp; omega
    have hok : lensOk zs = false := by rcases hb with h | h; omega; exact h
    rw [hok] at HCT
    clear hb hl hok
    go_enter Tryd.func11, Tryd.ntmps11
    go_wp2_with fail
    refine HCT.mono ?_
    rintro e w1 ⟨rfl, hw1⟩
    subst hw1
    clear HCT
    go_wp2_with fail
    go_ret2
    exact ⟨rfl, Kept.refl _ _⟩

theorem lpack_any (w : World) (v : Value) (I : Nat → Prop) (zs : List Int) (hs : SrcE intV w I v zs) (hn : zs.length ≤ 10000000) :
    Calls Tryd.prog 11 #[v] w fun e w' => PackA w w' e (packA zs) := by
  by_cases hb : 316 < zs.length ∨ lensOk zs = false
  · rw [packA_bad hb]
    exact lpack_bad w v I zs hs hn hb
  · have h2 : lensOk zs = true := by
      cases h : lensOk zs with
      | true => rfl
      | false => exact absurd (.inr h) hb
    have h1 : zs.length ≤ 316 := Nat.le_of_not_lt (fun h => hb (.inl h))
    rw [packA_good h1 h2]
    exact lpack_good w v I zs _ hs h1 h2 rfl

end Go.Proofs.YtofhlnpbflkdlaaDoor

/-
  The program's readHead.
-/
namespace Go.Proofs.YtofhlnpbflkdlaaDoor
open Go.RowKit

theorem bodyF_ok {ns ls : List Nat} {N : Nat} : ∀ (f : Nat) (l m : List Nat) (c c' : Nat), bodyF ns ls N f l c = .ok (m, c') → (∀ x ∈ l, x ≤ 15) → l.length ≤ N → N - l.length ≤ f → m.length = N ∧ c ≤ c' := by
  intro f
  induction f with
  | zero =>
    intro l m c c' h h15 hl hf
    rw [bodyF_end (by omega)] at h
    simp only [Except.ok.injEq, Prod.mk.injEq] at h
    obtain ⟨rfl, rfl⟩ := h
    omega
  | succ f ih =>
    intro l m c c' h h15 hl hf
    by_cases hlt : l.length < N
    · cases hs : stepF ns ls c with
      | error e => rw [bodyF_err hlt hs] at h; cases h
      | ok r =>
        obtain ⟨⟨sy, x⟩, c2⟩ := r
        rw [bodyF_step hlt hs] at h
        cases hw : withM l ((sy : Int), (x : Int)) N with
        | none => rw [hw] at h; cases h
        | some m2 =>
          rw [hw] at h
          have hg := withM_grows hw h15
          have h2 := ih m2 m c2 c' h hg.2.2 hg.2.1 (by omega)
          have h3 := stepF_ge hs
          exact ⟨h2.1, by omega⟩
    · rw [bodyF_end (by omega)] at h
      simp only [Except.ok.injEq, Prod.mk.injEq] at h
      obtain ⟨rfl, rfl⟩ := h
      omega

theorem row_empty (w : World) (t : TypeId) (B : Nat) (hB : B ≤ w.heap.size) : RowE B t natV (w.alloc (.cells #[] t)) (.slice (some ⟨w.heap.size, 0, none⟩) 0 0) [] :=
  ⟨rfl, .inr ⟨w.heap.size, 0, #[], rfl, hB, Blk.new w #[] t, Nat.le_refl _, Nat.zero_le _, rfl, rfl⟩⟩

set_option maxRecDepth 100000 in
set_option maxHeartbeats 1000000 in
theorem lclone_any (w : World) (v : Value) (I : Nat → Prop) (ns : List Nat) (hs : SrcE natV w I v ns) (hn : ns.length ≤ 1000000) :
    Calls Tryd.prog 72 #[v] w fun e w' => ∃ v', e = .returned v' ∧ New w w' v' ns := by
  obtain ⟨ao, cap, rfl, hcap, hc⟩ := id hs
  have q22 : ∀ (w : World) (a : Option Addr) (n c n' c' : Nat), (binOp .eql 22 (.slice a n c) (.slice none n' c')).run Tryd.prog w = .ok (.bool a.isNone) w := fun w a n c n' c' => Lib.run_eql_slice_nil w _ _ a n c n' c' Tryd.underlying22
  cases ao with
  | none =>
    have e0 : ns = [] := Classical.byContradiction (fun h => by obtain ⟨_, _, e, _⟩ := hc h; cases e)
    subst e0
    clear hs hc
    go_enter Tryd.func72, Tryd.ntmps72
    go_wp2_with fail
    go_ret
    exact ⟨_, rfl, RowE.nil, Kept.refl _ _⟩
  | some ad =>
    have HS : Hid (SrcE natV w I (.slice (some ad) ns.length cap) ns) := hs
    have HR0 : Hid (NRow w.heap.size (w.alloc (.cells #[] 3)) (.slice (some ⟨w.heap.size, 0, none⟩) 0 0) []) := hid (row_empty w _ _ (Nat.le_refl _))
    have HK0 : Hid (Same w (w.alloc (.cells #[] 3))) := hid ((Kept.refl _ w).alloc _)
    obtain ⟨L, hL⟩ : ∃ L, L = ns.length := ⟨_, rfl⟩
    have HL : Hid (L = ns.length) := hL
    rw [← hL] at HS hn ⊢
    clear hs hc hL hcap
    go_enter Tryd.func72, Tryd.ntmps72
    go_wp2_with (at_builtin; refine wpList_append_ints _ w.heap.size rfl (.tmp 5) (.tmp 6) rfl _ [] rfl HR0.out _ (some ad) L cap ns rfl (HS.out.same HK0.out) (fun e => by cases e) (by have := HL.out; simp; omega) (by simp) ?_; intro v3 w3 hr3 hg3; have HR3 : Hid (NRow w.heap.size w3 v3 ns) := hid (by simpa using hr3); have HK3 : Hid (Same w w3) := hid (HK0.out.grown hg3 (fun j e => .inr (HR0.out.ge e))); clear hr3 hg3)
    go_ret
    exact ⟨_, rfl, HR3.out, HK3.out⟩

/-- An answer of readHead. -/
def RHeadA (w w' : World) (p : Nat) (s : Value) (bs : List Nat) (c : Nat) (e : Ending) : Except Nat ((List Nat × List Nat) × Nat) → Prop
  | .error er => e = .returned (.tuple #[.slice none 0 0, .slice none 0 0, .int .i64 (er : Nat)]) ∧ er ≠ 0 ∧ ∃ c', c ≤ c' ∧ c' ≤ 8 * bs.length ∧ St w' p s bs c'
  | .ok (x, n) => (∃ va vb, e = .returned (.tuple #[va, vb, .int .i64 0]) ∧ NRow w.heap.size w' va x.1 ∧ NRow w.heap.size w' vb x.2) ∧ c + n ≤ 8 * bs.length ∧ St w' p s bs (c + n)

set_option maxRecDepth 100000 in
set_option maxHeartbeats 4000000 in
theorem lhead_any (w : World) (p c : Nat) (s : Value) (bs : List Nat) (hs : St w p s bs c) (hc : c ≤ 8 * bs.length) (hlen : bs.length ≤ 100000000) (hT : Tab w) (hpg : p ≠ 0) :
    Calls Tryd.prog 52 #[.pointer (some ⟨p, 0, none⟩)] w fun e w' => RHeadA w w' p s bs c e (readF (ofBytes bs) c) ∧ Kept (· = p) w w' := by
  obtain ⟨W, hW⟩ : ∃ W, W = w.alloc (.cells #[.int .i64 5, .int .i64 5, .int .i64 4] 3) := ⟨_, rfl⟩
  have hk0 : Same w W := by rw [hW]; exact (Kept.refl _ w).alloc _
  have hpw : p < w.heap.size := hs.lt
  have hsrc : SrcE natV W (fun k => k = w.heap.size) (.slice (some ⟨w.heap.size, 0, none⟩) 3 3) [5, 5, 4] := by rw [hW]; exact src_nats w [5, 5, 4] 3 rfl
  have HTK := ltake_any W p c s bs _ _ [5, 5, 4] (hs.kept hk0 (fun _ _ f => f)) hc hlen hsrc (fun k e => by omega) (by decide) (by decide)
  have HK0 : Hid (Same w W) := hk0
  have HT0 : Hid (Tab W) := hid (hT.kept hk0 (fun f => f))
  have HP : Hid (∀ k, Fp p s k → k < w.heap.size) := hid (fun k h => hs.fp_lt h)
  obtain ⟨ls, hls⟩ : ∃ ls, ls = ofBytes bs := ⟨_, rfl⟩
  have hll : ls.length = 8 * bs.length := by rw [hls, ofBytes_length]
  have hbit : ∀ b ∈ ls, b < 2 := by rw [hls]; exact ofBytes_lt bs
  have hx1 := numAt_lt ls hbit c 5
  have hx2 := numAt_lt ls hbit (c + 5) 5
  have hx3 := numAt_lt ls hbit (c + 10) 4
  obtain ⟨x1, hx1e⟩ : ∃ x, x = numAt ls c 5 := ⟨_, rfl⟩
  obtain ⟨x2, hx2e⟩ : ∃ x, x = numAt ls (c + 5) 5 := ⟨_, rfl⟩
  obtain ⟨x3, hx3e⟩ : ∃ x, x = numAt ls (c + 10) 4 := ⟨_, rfl⟩
  rw [← hx1e] at hx1
  rw [← hx2e] at hx2
  rw [← hx3e] at hx3
  have HNUM : Hid (numsAt (ofBytes bs) c [5, 5, 4] = [x1, x2, x3]) := hid (by rw [hx1e, hx2e, hx3e, hls]; rfl)
  obtain ⟨li, hli⟩ : ∃ x, x = x1 + 257 := ⟨_, rfl⟩
  obtain ⟨di, hdi⟩ : ∃ x, x = x2 + 1 := ⟨_, rfl⟩
  obtain ⟨come, hcome⟩ : ∃ x, x = x3 + 4 := ⟨_, rfl⟩
  have HRF : Hid (readF ls c = if 8 * bs.length < c + 14 then .error 10 else if 286 < li ∨ 30 < di then .error 40 else if 8 * bs.length < c + 14 + 3 * come then .error 10
      else if chkN (codesF ls (c + 14) come) ≠ 0 then .error (chkN (codesF ls (c + 14) come))
      else match bodyF (codesF ls (c + 14) come) ls (li + di) (li + di) [] (c + 14 + 3 * come) with
        | .error e => .error e
        | .ok (l, c2) => .ok ((l.take li, l.drop li), c2 - c)) := hid (by rw [hli, hdi, hcome, hx1e, hx2e, hx3e, ← hll]; rfl)
  have hliI : (x1 : Int) + 257 = (li : Int) := by omega
  have hdiI : (x2 : Int) + 1 = (di : Int) := by omega
  have hcoI : (x3 : Int) + 4 = (come : Int) := by omega
  have hliw : IntKind.i64.wrap (li : Int) = (li : Int) := by rw [IntKind.wrap_i64]; omega
  have hdiw : IntKind.i64.wrap (di : Int) = (di : Int) := by rw [IntKind.wrap_i64]; omega
  have hcow : IntKind.i64.wrap (come : Int) = (come : Int) := by rw [IntKind.wrap_i64]; omega
  have hco19 : come ≤ 19 := by omega
  have hli1 : li ≤ 300 := by omega
  have hdi1 : di ≤ 40 := by omega
  have hdi0 : 1 ≤ di := by omega
  have HLS : Hid (ls = ofBytes bs) := hls
  rw [← hls]
  clear hs hT hk0 hsrc hls hll hbit hx1 hx2 hx3 hx1e hx2e hx3e hli hdi hcome
  go_enter Tryd.func52, Tryd.ntmps52
  go_wp2_with fail
  rw [← hW]
  clear hW
  refine HTK.mono ?_
  rintro e w2 ⟨hta, hk2⟩
  have HK2 : Hid (Kept (· = p) w w2) := hid (Kept.trans (HK0.out.mono (fun _ _ f => f.elim)) hk2 (fun _ _ h => h) (fun _ _ h => h))
  have HT2 : Hid (Tab w2) := hid (HT0.out.kept hk2 (fun e => hpg e.symm))
  have hszW := HK0.out.size
  have hsz2 := HK2.out.size
  clear hk2 HTK HT0
  rcases hta with ⟨hfit, ⟨v2, rfl, hr2⟩, hs2⟩ | ⟨hbig, rfl, c', hc1, hc2, hs2⟩
  · rw [HNUM.out] at hr2
    have hfit14 : c + 14 ≤ 8 * bs.length := by simpa using hfit
    have HS2 : Hid (St w2 p s bs (c + 14)) := hid (by simpa using hs2)
    obtain ⟨a2, cap2, hv2, hg2, _⟩ := hr2.shape
    obtain ⟨g2, rfl⟩ := hg2 (by simp)
    subst hv2
    have d1 : w2.cell? ⟨g2, 0, none⟩ = some (.int .i64 (x1 : Nat)) := hr2.cell 0 (by simp)
    have d2 : w2.cell? ⟨g2, 1, none⟩ = some (.int .i64 (x2 : Nat)) := hr2.cell 1 (by simp)
    have d3 : w2.cell? ⟨g2, 2, none⟩ = some (.int .i64 (x3 : Nat)) := hr2.cell 2 (by simp)
    have hg2w : g2 ≠ p := by have := hr2.ge (k := g2) rfl; omega
    clear hfit hs2 hr2 hg2
    by_cases hbad : 286 < li ∨ 30 < di
    · have HE : Hid (readF ls c = .error 40) := hid (by rw [HRF.out, if_neg (by omega), if_pos hbad])
      by_cases hl2 : 286 < li
      · have hld : decide ((286 : Int) < (li : Int)) = true := by simp; omega
        clear hbad hl2
        go_wp2_with fail
        go_quiet (fail)
        go_wp2_with fail
        refine bodyPost_ret (v := .tuple #[.slice none 0 0, .slice none 0 0, .int .i64 40]) (by simp [results, Tryd.results52, go_sem]) rfl ?_
        refine ⟨?_, HK2.out.drewN _⟩
        rw [HE.out]
        exact ⟨rfl, by decide, c + 14, by omega, hfit14, HS2.out.drewN _⟩
      · have hld : decide ((286 : Int) < (li : Int)) = false := by simp; omega
        have hdd : decide ((30 : Int) < (di : Int)) = true := by simp; omega
        clear hbad hl2
        go_wp2_with fail
        go_quiet (fail)
        go_wp2_with fail
        refine bodyPost_ret (v := .tuple #[.slice none 0 0, .slice none 0 0, .int .i64 40]) (by simp [results, Tryd.results52, go_sem]) rfl ?_
        refine ⟨?_, HK2.out.drewN _⟩
        rw [HE.out]
        exact ⟨rfl, by decide, c + 14, by omega, hfit14, HS2.out.drewN _⟩
    · have HRF2 : Hid (readF ls c = if 8 * bs.length < c + 14 + 3 * come then .error 10
          else if chkN (codesF ls (c + 14) come) ≠ 0 then .error (chkN (codesF ls (c + 14) come))
          else match bodyF (codesF ls (c + 14) come) ls (li + di) (li + di) [] (c + 14 + 3 * come) with
            | .error e => .error e
            | .ok (l, c2) => .ok ((l.take li, l.drop li), c2 - c)) := hid (by rw [HRF.out, if_neg (by omega), if_neg hbad])
      have hld : decide ((286 : Int) < (li : Int)) = false := by simp; omega
      have hdd : decide ((30 : Int) < (di : Int)) = false := by simp; omega
      have HCO := fun q => lcodes_any (w2.drewN q) p (c + 14) s bs come (HS2.out.drewN q) hfit14 hlen hco19 (HT2.out.kept ((Kept.refl (fun _ => False) w2).drewN q) (fun f => f)) hpg
      clear hbad HRF
      go_wp2_with fail
      go_quiet (fail)
      go_wp2_with fail
      refine (HCO _).mono ?_
      rintro e w4 ⟨hca, hk4⟩
      have hk4' : Kept (· = p) w2 w4 := ⟨hk4.os, hk4.tape, hk4.output, hk4.size, hk4.block⟩
      have HK4 : Hid (Kept (· = p) w w4) := hid (Kept.trans HK2.out hk4' (fun _ _ h => h) (fun _ _ h => h))
      have hsz4 := HK4.out.size
      clear HCO hk4 hk4' d1 d2 d3
      rcases hca with ⟨hbig, rfl, c', hc1, hc2, hs4⟩ | ⟨hfit, hs4, ⟨hch, rfl⟩ | ⟨hch, d, vc, vs, rfl, hdec, hdf⟩⟩
      · have HE : Hid (readF ls c = .error 10) := hid (by rw [HRF2.out, if_pos (by omega)])
        have HS4 : Hid (St w4 p s bs c') := hs4
        have hcc : c ≤ c' := by omega
        clear hbig hs4
        go_wp2_with fail
        refine bodyPost_ret (v := .tuple #[.slice none 0 0, .slice none 0 0, .int .i64 10]) (by simp [results, Tryd.results52, go_sem]) rfl ?_
        refine ⟨?_, HK4.out⟩
        rw [HE.out]
        exact ⟨rfl, by decide, c', hcc, hc2, HS4.out⟩
      · obtain ⟨er, her⟩ : ∃ er, er = chkN (codesF (ofBytes bs) (c + 14) come) := ⟨_, rfl⟩
        rw [← her] at hch ⊢
        have HE : Hid (readF ls c = .error er) := hid (by rw [HRF2.out, if_neg (by omega), HLS.out, ← her, if_pos hch])
        have HS4 : Hid (St w4 p s bs (c + 14 + 3 * come)) := hs4
        have hed : ((er : Int) != 0) = true := by simp; omega
        have HER : Hid (er ≠ 0) := hch
        clear hs4 hch her
        go_wp2_with fail
        refine bodyPost_ret (v := .tuple #[.slice none 0 0, .slice none 0 0, .int .i64 (er : Nat)]) (by simp [results, Tryd.results52, go_sem]) rfl ?_
        refine ⟨?_, HK4.out⟩
        rw [HE.out]
        exact ⟨rfl, HER.out, c + 14 + 3 * come, by omega, hfit, HS4.out⟩
      · obtain ⟨N, hN⟩ : ∃ N, N = li + di := ⟨_, rfl⟩
        have hNI : (li : Int) + (di : Int) = (N : Int) := by omega
        have hNw : IntKind.i64.wrap (N : Int) = (N : Int) := by rw [IntKind.wrap_i64]; omega
        have hN4 : N ≤ 340 := by omega
        have HRF3 : Hid (readF ls c = match bodyF (codesF (ofBytes bs) (c + 14) come) (ofBytes bs) N N [] (c + 14 + 3 * come) with
            | .error e => .error e
            | .ok (l, c2) => .ok ((l.take li, l.drop li), c2 - c)) := hid (by rw [HRF2.out, if_neg (by omega), HLS.out, if_neg (by rw [hch]; simp), ← hN])
        have hcl := codesF_length (ofBytes bs) (c + 14) come
        have hc7 := codesF_le (ofBytes bs) (ofBytes_lt bs) (c + 14) come
        have HBD := lsteps_any w4 d vc vs _ _ p (c + 14 + 3 * come) s bs N (chk_good _ hcl hc7 hch) hdec hs4 hfit hlen (fun k h hf => by have h1 := hdf k h; have h2 := HP.out k hf; have h3 : (w2.drewN nq).heap.size = w2.heap.size := rfl; omega) (by omega)
        have HNLI : Hid (li < N) := hid (by omega)
        clear hcl hc7 hch hdec hdf hs4 HRF2 hN
        cases hbf : bodyF (codesF (ofBytes bs) (c + 14) come) (ofBytes bs) N N [] (c + 14 + 3 * come) with
        | error er =>
          rw [hbf] at HBD
          have HE : Hid (readF ls c = .error er) := hid (by rw [HRF3.out, hbf])
          clear hbf HRF3
          go_wp2_with fail
          refine HBD.mono ?_
          rintro e w5 ⟨⟨rfl, her, c', hc1, hc2, hs5⟩, hk5⟩
          have HS5 : Hid (St w5 p s bs c') := hs5
          have HK5 : Hid (Kept (· = p) w w5) := hid (Kept.trans HK4.out hk5 (fun _ _ h => h) (fun _ _ h => h))
          have hed : ((er : Int) != 0) = true := by simp; omega
          have HER : Hid (er ≠ 0) := her
          have hcc : c ≤ c' := by omega
          clear hs5 hk5 her HBD
          go_wp2_with fail
          refine bodyPost_ret (v := .tuple #[.slice none 0 0, .slice none 0 0, .int .i64 (er : Nat)]) (by simp [results, Tryd.results52, go_sem]) rfl ?_
          refine ⟨?_, HK5.out⟩
          rw [HE.out]
          exact ⟨rfl, HER.out, c', hcc, hc2, HS5.out⟩
        | ok r =>
          obtain ⟨l, c2⟩ := r
          rw [hbf] at HBD
          have HE : Hid (readF ls c = .ok ((l.take li, l.drop li), c2 - c)) := hid (by rw [HRF3.out, hbf])
          obtain ⟨hlN, hcc2⟩ := bodyF_ok N [] l _ c2 hbf (by simp) (by simp) (by simp)
          have HLN : Hid (l.length = N) := hlN
          clear hbf HRF3
          go_wp2_with fail
          refine HBD.mono ?_
          rintro e w5 ⟨⟨⟨v5, rfl, hr5⟩, hc5, hs5⟩, hk5⟩
          have HS5 : Hid (St w5 p s bs c2) := hs5
          have HK5 : Hid (Kept (· = p) w w5) := hid (Kept.trans HK4.out hk5 (fun _ _ h => h) (fun _ _ h => h))
          have hsz5 := HK5.out.size
          have hlne : l ≠ [] := fun e => by rw [e] at hlN; simp at hlN; omega
          obtain ⟨a5, cap5, hv5, hg5, _⟩ := hr5.shape
          obtain ⟨g5, rfl⟩ := hg5 hlne
          subst hv5
          have hcap5 : l.length ≤ cap5 := by obtain ⟨_, _, e, _, _, h, _⟩ := hr5.shape; simp only [Value.slice.injEq] at e; obtain ⟨_, _, rfl⟩ := e; exact h
          have hsr : SrcE natV w5 _ (.slice (some ⟨g5, 0, none⟩) l.length cap5) l := SrcE.ofRow hr5
          have hliN : li < N := HNLI.out
          have hcne : ¬ cap5 = li := by omega
          have hA := hsr.part li (by omega)
          have hB := hsr.tail2 li (by omega)
          rw [hlN, Nat.zero_add, if_neg hcne] at hB
          rw [hlN] at hcap5 ⊢
          obtain ⟨M, hM⟩ : ∃ M, M = N - li := ⟨_, rfl⟩
          have hMI : (N : Int) - (li : Int) = (M : Int) := by omega
          have HCA : Hid (∀ W, Same w5 W → Calls Tryd.prog 72 #[.slice (some ⟨g5, 0, none⟩) li cap5] W fun e w' => ∃ v', e = .returned v' ∧ New W w' v' (l.take li)) := hid (fun W hk => lclone_any W _ _ _ (hA.same hk) (by simp; omega))
          have HCB : Hid (∀ W, Same w5 W → Calls Tryd.prog 72 #[.slice (some ⟨g5, li, none⟩) (N - li) (cap5 - li)] W fun e w' => ∃ v', e = .returned v' ∧ New W w' v' (l.drop li)) := hid (fun W hk => lclone_any W _ _ _ (hB.same hk) (by simp; omega))
          have i1 : (0 : Int) ≤ (li : Int) := by omega
          have i2 : (li : Int) ≤ (N : Int) := by omega
          have i3 : (li : Int) ≤ (cap5 : Int) := by omega
          clear hs5 hk5 HBD hr5 hg5 hA hB hsr hlN hM
          go_wp2_with fail
          go_region_held3 (fun _ => True) (first | trivial | go_keep)
            (first
              | (go_at_call 72; refine (HCB.out _ (Same.trans ((Kept.refl _ w5).drew) hnA.same)).mono ?_; rintro e w7 ⟨vB, rfl, hnB⟩)
              | (go_at_call 72; refine (HCA.out _ ((Kept.refl _ w5).drew)).mono ?_; rintro e w6 ⟨vA, rfl, hnA⟩))
          all_goals
            go_wp2_with fail
            refine bodyPost_ret (v := .tuple #[vA, vB, .int .i64 0]) (by simp [results, Tryd.results52, go_sem]) rfl ?_
            have h67 : Same w5 w7 := Same.trans (Same.trans ((Kept.refl _ w5).drew) hnA.same) hnB.same
            refine ⟨?_, Kept.trans HK5.out h67 (fun _ _ h => h) (fun _ _ f => f.elim)⟩
            rw [HE.out]
            have h6 := hnA.same.size
            have h5 : w5.drew.heap.size = w5.heap.size := rfl
            refine ⟨⟨vA, vB, rfl, RowE.base (hnA.row.same hnB.same) (by omega), RowE.base hnB.row (by omega)⟩, by omega, ?_⟩
            have e : c + (c2 - c) = c2 := by omega
            rw [e]
            exact HS5.out.kept h67 (fun _ _ f => f)
  · have HE : Hid (readF ls c = .error 10) := hid (by rw [HRF.out, if_pos (by simpa using hbig)])
    have HS2 : Hid (St w2 p s bs c') := hs2
    clear hbig hs2
    go_wp2_with fail
    refine bodyPost_ret (v := .tuple #[.slice none 0 0, .slice none 0 0, .int .i64 10]) (by simp [results, Tryd.results52, go_sem]) rfl ?_
    refine ⟨?_, HK2.out⟩
    rw [HE.out]
    exact ⟨rfl, by decide, c', hc1, hc2, HS2.out⟩

end Go.Proofs.YtofhlnpbflkdlaaDoor

/-
  The program's Read.
-/
namespace Go.Proofs.YtofhlnpbflkdlaaDoor
open Go.RowKit

/-- An answer of Read. -/
def RReadA (w w' : World) (p : Nat) (s : Value) (bs : List Nat) (c : Nat) (e : Ending) : Except Nat ((List Nat × List Nat) × Nat) → Prop
  | .error er => e = .returned (.tuple #[.slice none 0 0, .slice none 0 0, .int .i64 (er : Nat)]) ∧ er ≠ 0 ∧ St w' p s bs c
  | .ok (x, n) => (∃ va vb, e = .returned (.tuple #[va, vb, .int .i64 0]) ∧ NRow w.heap.size w' va x.1 ∧ NRow w.heap.size w' vb x.2) ∧ c + n ≤ 8 * bs.length ∧ St w' p s bs (c + n)

set_option maxHeartbeats 1000000 in
theorem lread_nil (w : World) :
    Calls Tryd.prog 27 #[.pointer none] w fun e w' => e = .returned (.tuple #[.slice none 0 0, .slice none 0 0, .int .i64 3]) ∧ w' = w := by
  go_enter Tryd.func27, Tryd.ntmps27
  go_wp2_with fail
  refine bodyPost_ret (v := .tuple #[.slice none 0 0, .slice none 0 0, .int .i64 3]) (by simp [results, Tryd.results27, go_sem]) rfl ?_
  exact ⟨rfl, rfl⟩

set_option maxRecDepth 100000 in
set_option maxHeartbeats 2000000 in
theorem lread_any (w : World) (p c : Nat) (s : Value) (bs : List Nat) (hs : St w p s bs c) (hc : c ≤ 8 * bs.length) (hlen : bs.length ≤ 100000000) (hT : Tab w) (hpg : p ≠ 0) :
    Calls Tryd.prog 27 #[.pointer (some ⟨p, 0, none⟩)] w fun e w' => RReadA w w' p s bs c e (readF (ofBytes bs) c) ∧ Kept (· = p) w w' := by
  have HG := gone_any p c s bs w hs
  have HH := lhead_any w p c s bs hs hc hlen hT hpg
  clear hs hT
  go_enter Tryd.func27, Tryd.ntmps27
  cases hrf : readF (ofBytes bs) c with
  | error er =>
    rw [hrf] at HH
    clear hrf
    go_wp2_with fail
    refine HG.mono ?_
    rintro e w1 ⟨rfl, hw1⟩
    subst hw1
    clear HG
    go_wp2_with fail
    refine HH.mono ?_
    rintro e w2 ⟨⟨rfl, her, c', hc1, hc2, hs2⟩, hk2⟩
    have hed : ((er : Int) != 0) = true := by simp; omega
    have HER : Hid (er ≠ 0) := her
    have HK2 : Hid (Kept (· = p) w1 w2) := hk2
    have HG2 := gone_any p c' s bs w2 hs2
    obtain ⟨m, hm⟩ : ∃ m, m = c' - c := ⟨_, rfl⟩
    have hmI : (c' : Int) - (c : Int) = (m : Int) := by omega
    have hmw : IntKind.i64.wrap (m : Int) = (m : Int) := by rw [IntKind.wrap_i64]; omega
    have HBK := back_good p c' m s bs w2 hs2 (by omega) (by omega)
    have hcm : c' - m = c := by omega
    rw [hcm] at HBK
    clear hs2 hk2 her HH hm hcm
    go_wp2_with fail
    refine HG2.mono ?_
    rintro e w3 ⟨rfl, hw3⟩
    subst hw3
    clear HG2
    go_wp2_with fail
    refine HBK.mono ?_
    rintro e w4 ⟨rfl, hs4, hk4⟩
    have HS4 : Hid (St w4 p s bs c) := hs4
    have HK4 : Hid (Kept (· = p) w1 w4) := hid (Kept.trans HK2.out hk4 (fun _ _ h => h) (fun _ _ h => h))
    clear hs4 hk4 HBK
    go_wp2_with fail
    refine bodyPost_ret (v := .tuple #[.slice none 0 0, .slice none 0 0, .int .i64 (er : Nat)]) (by simp [results, Tryd.results27, go_sem]) rfl ?_
    exact ⟨⟨rfl, HER.out, HS4.out⟩, HK4.out⟩
  | ok r =>
    obtain ⟨x, n⟩ := r
    rw [hrf] at HH
    clear hrf
    go_wp2_with fail
    refine HG.mono ?_
    rintro e w1 ⟨rfl, hw1⟩
    subst hw1
    clear HG
    go_wp2_with fail
    refine HH.mono ?_
    rintro e w2 ⟨⟨⟨va, vb, rfl, hra, hrb⟩, hc2, hs2⟩, hk2⟩
    have HRA : Hid (NRow w1.heap.size w2 va x.1) := hra
    have HRB : Hid (NRow w1.heap.size w2 vb x.2) := hrb
    have HS2 : Hid (St w2 p s bs (c + n)) := hs2
    have HK2 : Hid (Kept (· = p) w1 w2) := hk2
    clear hra hrb hs2 hk2 HH
    go_wp2_with fail
    refine bodyPost_ret (v := .tuple #[va, vb, .int .i64 0]) (by simp [results, Tryd.results27, go_sem]) rfl ?_
    exact ⟨⟨⟨va, vb, rfl, HRA.out, HRB.out⟩, hc2, HS2.out⟩, HK2.out⟩

end Go.Proofs.YtofhlnpbflkdlaaDoor

/-
  The program's Unpack.
-/
namespace Go.Proofs.YtofhlnpbflkdlaaDoor
open Go.RowKit

set_option maxRecDepth 100000 in
set_option maxHeartbeats 2000000 in
theorem lunpack_any (w : World) (v : Value) (I : Nat → Prop) (ss : List (Int × Int)) (nz : Int) (hs : StSrc w I v ss) (hlen : ss.length ≤ 10000000) :
    Calls Tryd.prog 15 #[v, .int .i64 nz] w fun e w' => UnpA w w' e (unpM ss nz) := by
  obtain ⟨ao, cap, rfl, hx1, hx2⟩ := id hs
  clear hx1 hx2
  have HS : Hid (StSrc w I (.slice ao ss.length cap) ss) := hs
  have HWI := within_any w nz 0 316
  clear hs
  by_cases hout : nz < 0 ∨ 316 < nz
  · have HE : Hid (unpM ss nz = .error 1) := hid (by unfold unpM; rw [if_pos hout])
    have hin : inB nz 0 316 = false := by
      unfold inB
      rcases hout with h | h
      · have : ¬ 0 ≤ nz := by omega
        simp [this]
      · have : ¬ nz ≤ 316 := by omega
        simp [this]
    rw [hin] at HWI
    clear hout hin
    go_enter Tryd.func15, Tryd.ntmps15
    go_wp2_with fail
    refine HWI.mono ?_
    rintro e w1 ⟨rfl, hw1⟩
    subst hw1
    clear HWI
    go_wp2_with fail
    go_ret2
    rw [HE.out]
    exact ⟨rfl, Kept.refl _ _⟩
  · obtain ⟨n, rfl⟩ : ∃ n : Nat, nz = (n : Int) := ⟨nz.toNat, by omega⟩
    have hn : n ≤ 316 := by omega
    have hin : inB (n : Int) 0 316 = true := by
      unfold inB
      have h1 : (0 : Int) ≤ (n : Int) := by omega
      have h2 : (n : Int) ≤ 316 := by omega
      simp [h1, h2]
    rw [hin] at HWI
    have HU : Hid (unpM ss (n : Int) = match runM n [] ss with | none => .error 41 | some l => if l.length < n then .error 41 else .ok l) := hid (by
      unfold unpM
      rw [if_neg (by omega)]
      simp only [Int.toNat_natCast]
      rfl)
    clear hout hin
    go_enter Tryd.func15, Tryd.ntmps15
    go_wp2_with fail
    refine HWI.mono ?_
    rintro e w1 ⟨rfl, hw1⟩
    subst hw1
    clear HWI
    go_wp2_with fail
    go_loopg [6, 8, 14] ss.length (fun q zl _ zi wr => ∃ (i : Nat) (l : List Nat), ss.length - i ≤ q ∧ i ≤ ss.length ∧ zi = .int .i64 (i : Nat) ∧ Hid (runM n [] (ss.take i) = some l ∧ l.length ≤ n ∧ ∀ x ∈ l, x ≤ 15) ∧ Hid (NRow w1.heap.size wr zl l) ∧ Hid (Same w1 wr))
    case atStart => exact ⟨0, [], by omega, by omega, rfl, hid ⟨by simp [runM], by simp, by simp⟩, RowE.nil, Kept.refl _ _⟩
    case round =>
      obtain ⟨i, l, hq, hi, rfl, HRUN, HV, HK⟩ := hrel
      by_cases hlt : i < ss.length
      · obtain ⟨b, o, e1, _, hcell⟩ : ∃ b o, ao = some ⟨b, o, none⟩ ∧ True ∧ ∀ t (_ : t < 2), wr.cell? ⟨b, o + (i * 2 + t), none⟩ = (stC ss[i])[t]? := by
          obtain ⟨ao', cap', e1, _, e2⟩ := HS.out.kept stC_ok HK.out (fun _ _ _ f => f)
          injection e1 with e3 _ _
          subst e3
          obtain ⟨b, o, e4, _, e5⟩ := e2 (by intro e; rw [e] at hlt; simp at hlt)
          exact ⟨b, o, e4, trivial, e5 i hlt⟩
        subst e1
        obtain ⟨x, y, hxy⟩ : ∃ x y, ss[i] = (x, y) := ⟨_, _, rfl⟩
        rw [hxy] at hcell
        have c1 : wr.cell? ⟨b, o + i * 2, none⟩ = some (.int .i64 x) := hcell 0 (by decide)
        have c2 : wr.cell? ⟨b, o + i * 2 + 1, none⟩ = some (.int .i64 y) := hcell 1 (by decide)
        have HSN : Hid (runM n [] (ss.take (i + 1)) = withM l (x, y) n) := hid (by
          rw [List.take_succ_eq_append_getElem hlt, runM_snoc, HRUN.out.1, hxy]
          rfl)
        have hll : l.length ≤ 1000000 := by have := HRUN.out.2.1; omega
        obtain ⟨a6, cap6, hv6, _⟩ := HV.out.shape
        subst hv6
        have HMS := fun W => mayStand_any W x y l.length n hll
        have HSAYS := fun (W : World) (hr : NRow w1.heap.size W (.slice a6 l.length cap6) l) (hB : w1.heap.size ≤ W.heap.size) (hm : mayB (x, y) l.length n) => say_any W w1.heap.size _ l x y n hr hB hll hm
        obtain ⟨L, hL⟩ : ∃ L, L = l.length := ⟨_, rfl⟩
        have HL : Hid (L = l.length) := hL
        rw [← hL] at HMS HSAYS HV hll ⊢
        clear hcell hxy hL
        by_cases hmay : mayB (x, y) L n
        · have HM : Hid (withM l (x, y) n = some (l ++ List.replicate (leastM x + y.toNat) (sayV x l))) := hid (withM_may (by rw [← HL.out]; exact hmay))
          have HMAY : Hid (mayB (x, y) L n) := hmay
          clear hmay
          obtain ⟨m, hm⟩ : ∃ m, m = l ++ List.replicate (leastM x + y.toNat) (sayV x l) := ⟨_, rfl⟩
          rw [← hm] at HM HSAYS
          have HMM : Hid (runM n [] (ss.take (i + 1)) = some m ∧ m.length ≤ n ∧ ∀ x ∈ m, x ≤ 15) := hid ⟨by rw [HSN.out, HM.out], (withM_grows HM.out HRUN.out.2.2).2.1, (withM_grows HM.out HRUN.out.2.2).2.2⟩
          clear hm
          go_wp2_with fail
          refine (HMS _).mono ?_
          rintro e w2 ⟨he, hk2⟩
          have he2 := he.yes HMAY.out
          subst he2
          have c3 : w2.cell? ⟨wr.heap.size, 0, none⟩ = some (.int .i64 x) := hk2.cell (by simp) (fun f => f)
          have c4 : w2.cell? ⟨wr.heap.size, 1, none⟩ = some (.int .i64 y) := hk2.cell (by simp) (fun f => f)
          have HK2 : Hid (Same wr w2) := hid (Same.trans ((Kept.refl _ wr).alloc _) hk2)
          have hsz2 : w1.heap.size ≤ w2.heap.size := by have h1 := HK.out.size; have h2 := HK2.out.size; omega
          have HSY := HSAYS w2 (HV.out.same HK2.out) hsz2 HMAY.out
          clear he hk2 HMS HSAYS
          go_wp2_with fail
          refine HSY.mono ?_
          rintro e w3 ⟨v3, rfl, hr3, hk3⟩
          have HV3 : Hid (NRow w1.heap.size w3 v3 m) := hr3
          have HK3 : Hid (Same w1 w3) := hid (Same.then (Same.trans HK.out HK2.out) hk3 (fun j hj e => by unfold Over at e; omega))
          clear hr3 hk3 HSY c3 c4
          go_wp2_with fail
          go_roundg (gk - 1)
          case measure => omega
          case rel => exact ⟨i + 1, m, by omega, by omega, by go_num, HMM, HV3, HK3⟩
        · have HM : Hid (withM l (x, y) n = none) := hid (withM_no (by rw [← HL.out]; exact hmay))
          have HMAY : Hid (¬ mayB (x, y) L n) := hmay
          have HE : Hid (unpM ss (n : Int) = .error 41) := hid (by
            have h := runM_none (n := n) (l := []) (ss.take (i + 1)) (ss.drop (i + 1)) (by rw [HSN.out, HM.out])
            rw [List.take_append_drop] at h
            rw [HU.out, h])
          clear hmay
          go_wp2_with fail
          refine (HMS _).mono ?_
          rintro e w2 ⟨he, hk2⟩
          have he2 := he.no HMAY.out
          subst he2
          have HK2 : Hid (Same w1 w2) := hid (Same.trans (HK.out.alloc _) hk2)
          clear he hk2 HMS HSAYS
          go_wp2_with fail
          go_ret2
          rw [HE.out]
          exact ⟨rfl, HK2.out⟩
      · have hrun : runM n [] ss = some l := by
          have h := HRUN.out.1
          rw [List.take_of_length_le (by omega)] at h
          exact h
        obtain ⟨ao2, cap2, hv2, _⟩ := HV.out.shape
        subst hv2
        obtain ⟨L, hL⟩ : ∃ L, L = l.length := ⟨_, rfl⟩
        rw [← hL] at HV ⊢
        by_cases hsh : L < n
        · have HE : Hid (unpM ss (n : Int) = .error 41) := hid (by rw [HU.out, hrun]; simp only; rw [if_pos (by omega)])
          clear hrun hL
          go_wp2_with fail
          go_ret2
          rw [HE.out]
          exact ⟨rfl, HK.out⟩
        · have HE : Hid (unpM ss (n : Int) = .ok l) := hid (by rw [HU.out, hrun]; simp only; rw [if_neg (by omega)])
          clear hrun hL
          go_wp2_with fail
          go_ret2
          rw [HE.out]
          exact ⟨_, rfl, HV.out, HK.out⟩

end Go.Proofs.YtofhlnpbflkdlaaDoor

/-
  The reference's Same and May.
-/
namespace Go.Proofs.YtofhlnpbflkdlaaDoor
open Go.RowKit

/-- One step of a source. -/
theorem StSrc.get {w : World} {I : Nat → Prop} {ao : Option Addr} {n cap : Nat} {ss : List (Int × Int)} (h : StSrc w I (.slice ao n cap) ss) (i : Nat) (hi : i < ss.length) : ∃ b o, ao = some ⟨b, o, none⟩ ∧ I b ∧ w.cell? ⟨b, o + i * 2, none⟩ = some (.int .i64 ss[i].1) ∧ w.cell? ⟨b, o + i * 2 + 1, none⟩ = some (.int .i64 ss[i].2) := by
  obtain ⟨ao', cap', e1, _, e2⟩ := h
  injection e1 with e3 _ _
  subst e3
  obtain ⟨b, o, e4, hI, e5⟩ := e2 (by intro e; rw [e] at hi; simp at hi)
  exact ⟨b, o, e4, hI, e5 i hi 0 (by decide), e5 i hi 1 (by decide)⟩

set_option maxRecDepth 100000 in
set_option maxHeartbeats 2000000 in
theorem same_any (va vb : Value) (I J : Nat → Prop) (xs ys : List (Int × Int)) (w : World) (ha : StSrc w I va xs) (hb : StSrc w J vb ys) (hx : xs.length ≤ 10000000) (hy : ys.length ≤ 10000000) :
    Calls Tryd.prog 13 #[va, vb] w fun e w' => e = .returned (.bool (decide (xs = ys))) ∧ Same w w' := by
  obtain ⟨ao, ca, rfl, hxa, hsa⟩ := id ha
  obtain ⟨bo, cb, rfl, hxb, hsb⟩ := id hb
  clear hxa hxb hsa hsb
  have HA : Hid (StSrc w I (.slice ao xs.length ca) xs) := ha
  have HB : Hid (StSrc w J (.slice bo ys.length cb) ys) := hb
  clear ha hb
  by_cases hl : xs.length = ys.length
  · have HL : Hid (xs.length = ys.length) := hl
    have hd : ((xs.length : Int) != (ys.length : Int)) = false := by simp [hl]
    clear hl
    go_enter Tryd.func13, Tryd.ntmps13
    go_wp2
    clear hd
    go_loopg [5] xs.length (fun k i wr => ∃ j : Nat, j ≤ xs.length ∧ xs.length - j ≤ k ∧ i = .int .i64 (j : Nat) ∧ Hid (Same w wr) ∧ Hid (xs.take j = ys.take j))
    case atStart => exact ⟨0, by omega, by omega, rfl, Kept.refl _ _, hid (by simp)⟩
    case round =>
      obtain ⟨j, hj, hjk, rfl, HK, HT⟩ := hrel
      by_cases hlt : j < xs.length
      · have hlt2 : j < ys.length := by have := HL.out; omega
        obtain ⟨a, oa, rfl, _, c1, c2⟩ := StSrc.get (HA.out.kept stC_ok HK.out (fun _ _ _ f => f)) j hlt
        obtain ⟨b, ob, rfl, _, d1, d2⟩ := StSrc.get (HB.out.kept stC_ok HK.out (fun _ _ _ f => f)) j hlt2
        obtain ⟨x1, x2, hx1⟩ : ∃ x1 x2, xs[j] = (x1, x2) := ⟨_, _, rfl⟩
        obtain ⟨y1, y2, hy1⟩ : ∃ y1 y2, ys[j] = (y1, y2) := ⟨_, _, rfl⟩
        rw [hx1] at c1 c2
        rw [hy1] at d1 d2
        have HX : Hid (xs[j] = (x1, x2)) := hx1
        have HY : Hid (ys[j] = (y1, y2)) := hy1
        clear hx1 hy1
        by_cases he : x1 = y1 ∧ x2 = y2
        · obtain ⟨rfl, rfl⟩ := he
          go_wp2
          go_quiet (fail)
          go_wp2
          go_roundg (gk - 1)
          case measure => omega
          case rel => exact ⟨j + 1, by omega, by omega, by go_num, hid (HK.out.drewN _), hid (by rw [List.take_succ_eq_append_getElem hlt, List.take_succ_eq_append_getElem hlt2, HT.out, HX.out, HY.out])⟩
        · have HE : Hid (¬ (x1 = y1 ∧ x2 = y2)) := he
          have hne : ¬ xs = ys := by
            intro e
            subst e
            have h := HX.out.symm.trans HY.out
            simp only [Prod.mk.injEq] at h
            exact he h
          have HNE : Hid (¬ xs = ys) := hne
          clear hne
          by_cases h1 : x1 = y1
          · have h2 : ¬ x2 = y2 := fun h => he ⟨h1, h⟩
            subst h1
            have e2 : (x2 == y2) = false := by simp [h2]
            have e3 : decide (x2 = y2) = false := by simp [h2]
            clear he
            go_wp2
            go_quiet (fail)
            go_wp2
            go_ret
            refine ⟨?_, HK.out.drewN _⟩
            simp [HNE.out]
          · have e2 : (x1 == y1) = false := by simp [h1]
            have e3 : decide (x1 = y1) = false := by simp [h1]
            clear he
            go_wp2
            go_quiet (fail)
            go_wp2
            go_ret
            refine ⟨?_, HK.out.drewN _⟩
            simp [HNE.out]
      · have hjl : j = xs.length := by omega
        subst hjl
        go_wp2
        go_ret
        refine ⟨?_, HK.out⟩
        have h1 := HT.out
        rw [List.take_of_length_le (Nat.le_refl _), List.take_of_length_le (by have := HL.out; omega)] at h1
        simp [h1]
  · have hd : ((xs.length : Int) != (ys.length : Int)) = true := by simp; omega
    have HNE : Hid (¬ xs = ys) := hid (fun e => hl (by rw [e]))
    clear hl
    go_enter Tryd.func13, Tryd.ntmps13
    go_wp2
    go_ret
    exact ⟨by simp [HNE.out], Kept.refl _ _⟩

end Go.Proofs.YtofhlnpbflkdlaaDoor

/-
  What layer 4's laws lend and get back; a reader, some of whose bits are gone.
-/
namespace Go.Proofs.YtofhlnpbflkdlaaDoor
open Go.RowKit

set_option maxHeartbeats 1000000 in
theorem kept_any (w : World) (g : Nat) (v : Value) (I : Nat → Prop) (zs : List Int) (hL : Lent w g zs) (hsrc : SrcE intV w I v zs) (hlen : zs.length ≤ 10000000) :
    Calls Tryd.prog 14 #[.slice (some ⟨g, 0, none⟩) zs.length (zs.length + 1), v] w fun e w' => e = .returned (.bool true) ∧ Same w w' := by
  obtain ⟨ao, cap, rfl, hx1, hx2⟩ := id hsrc
  clear hx1 hx2
  have HC := keepInts_any _ _ _ _ zs zs w hL.src hsrc hlen hlen
  have hd : decide (zs = zs) = true := by simp
  have c1 : w.cell? ⟨g, zs.length, none⟩ = some (.int .i64 (-77)) := by
    rw [hL.row.cell zs.length (by simp)]; simp [intV]
  clear hsrc hL
  go_enter Tryd.func14, Tryd.ntmps14
  go_wp2_with fail
  refine HC.mono ?_
  rintro e w2 ⟨rfl, hk⟩
  have HK : Hid (Same w w2) := hk
  clear hk HC
  go_wp2_with fail
  go_ret
  exact ⟨rfl, HK.out⟩

set_option maxHeartbeats 1000000 in
theorem goneR_any (w : World) (v : Value) (I : Nat → Prop) (bs : List Nat) (n : Nat) (hs : Src w I v bs) (hlen : bs.length ≤ 100000000) (hb : ∀ b ∈ bs, b < 256) (hn : n ≤ 8 * bs.length) :
    Calls Tryd.prog 26 #[v, .int .i64 (n : Nat)] w fun e w' => ∃ p s, e = .returned (.pointer (some ⟨p, 0, none⟩)) ∧ St w' p s bs n ∧ Same w w' ∧ (∀ k, Fp p s k → w.heap.size ≤ k) := by
  have HC := newReader_any v I bs w hs (by omega) hb
  clear hs
  go_enter Tryd.func26, Tryd.ntmps26
  go_wp2_with fail
  refine HC.mono ?_
  rintro e w1 ⟨p, s, rfl, hst, hk, hf⟩
  have HS : Hid (St w1 p s bs 0) := hst
  have HK : Hid (Same w w1) := hk
  have HF : Hid (∀ k, Fp p s k → w.heap.size ≤ k) := hf
  clear hst hk hf HC
  go_wp2_with fail
  go_loopg [6] n (fun q zi wr => ∃ (i : Nat), n - i ≤ q ∧ i ≤ n ∧ zi = .int .i64 (i : Nat) ∧ Hid (St wr p s bs i) ∧ Hid (Same w wr))
  case atStart => exact ⟨0, by omega, by omega, rfl, HS, HK⟩
  case round =>
    clear HS HK
    obtain ⟨i, hq, hi, rfl, HS, HK⟩ := hrel
    by_cases hlt : i < n
    · have HT := take_good p i 1 s bs wr HS.out (by omega) (by decide) (by omega)
      have HT2 : Calls Tryd.prog 31 #[.pointer (some ⟨p, 0, none⟩), .int .i64 1] wr fun e w' => (∃ x, e = .returned x) ∧ St w' p s bs (i + 1) ∧ Kept (· = p) wr w' := HT.mono (by rintro e w' ⟨rfl, h1, h2⟩; exact ⟨⟨_, rfl⟩, h1, h2⟩)
      clear HT
      go_wp2_with fail
      refine HT2.mono ?_
      rintro e w2 ⟨⟨x, rfl⟩, h1, h2⟩
      have HS2 : Hid (St w2 p s bs (i + 1)) := h1
      have HK2 : Hid (Same w w2) := hid (Same.then HK.out h2 (fun y hy e => by have := HF.out p (.inl rfl); omega))
      clear h1 h2 HT2
      go_wp2_with fail
      go_roundg (gk - 1)
      case measure => omega
      case rel => exact ⟨i + 1, by omega, by omega, by go_num, HS2, HK2⟩
    · have hin : i = n := by omega
      subst hin
      go_wp2_with fail
      go_ret
      exact ⟨p, s, rfl, HS.out, HK.out, HF.out⟩

end Go.Proofs.YtofhlnpbflkdlaaDoor

/-
  Merging packages: levels of weights, what is taken of each, and what the lengths then measure and cost.
-/
namespace Go.Proofs.YtofhlnpbflkdlaaDoor

abbrev Up (l : List Nat) : Prop := l.Pairwise (· ≤ ·)

/-- Symbols and packages by rising weight, symbols first where weights are alike. -/
def mg : List Nat → List Nat → List (Nat × Bool)
  | l, [] => l.map (fun a => (a, false))
  | l, p :: ps => (l.takeWhile (fun a => decide (a ≤ p))).map (fun a => (a, false)) ++ (p, true) :: mg (l.dropWhile (fun a => decide (a ≤ p))) ps

theorem fst_leaf (l : List Nat) : (l.map (fun a => (a, false))).map (·.1) = l := by
  induction l with
  | nil => rfl
  | cons a r ih => rw [List.map_cons, List.map_cons, ih]

theorem mg_nil (l : List Nat) : mg l [] = l.map (fun a => (a, false)) := by simp [mg]
theorem mg_leaf {a p : Nat} (l ps : List Nat) (h : a ≤ p) : mg (a :: l) (p :: ps) = (a, false) :: mg l (p :: ps) := by simp [mg, h]
theorem mg_pack {a p : Nat} (l ps : List Nat) (h : ¬ a ≤ p) : mg (a :: l) (p :: ps) = (p, true) :: mg (a :: l) ps := by simp [mg, h]
theorem mg_none (p : Nat) (ps : List Nat) : mg [] (p :: ps) = (p, true) :: mg [] ps := by simp [mg]

theorem mg_ind {motive : List Nat → List Nat → Prop} (h1 : ∀ l, motive l []) (h2 : ∀ a l p ps, a ≤ p → motive l (p :: ps) → motive (a :: l) (p :: ps))
    (h3 : ∀ a l p ps, ¬ a ≤ p → motive (a :: l) ps → motive (a :: l) (p :: ps)) (h4 : ∀ p ps, motive [] ps → motive [] (p :: ps)) (l ps : List Nat) : motive l ps := by
  induction ps generalizing l with
  | nil => exact h1 l
  | cons p ps ih =>
    induction l with
    | nil => exact h4 p ps (ih [])
    | cons a l ihl =>
      by_cases h : a ≤ p
      · exact h2 a l p ps h ihl
      · exact h3 a l p ps h (ih (a :: l))

theorem mg_leaves (l ps : List Nat) : ((mg l ps).filter (fun x => !x.2)).map (·.1) = l := by
  refine mg_ind (motive := fun l ps => ((mg l ps).filter (fun x => !x.2)).map (·.1) = l) ?_ ?_ ?_ ?_ l ps
  · intro l
    rw [mg_nil, List.filter_eq_self.2 (by simp)]
    exact fst_leaf l
  · intro a l p ps h ih; rw [mg_leaf _ _ h, List.filter_cons_of_pos (by simp), List.map_cons, ih]
  · intro a l p ps h ih; rw [mg_pack _ _ h, List.filter_cons_of_neg (by simp), ih]
  · intro p ps ih; rw [mg_none, List.filter_cons_of_neg (by simp), ih]

theorem mg_packs (l ps : List Nat) : ((mg l ps).filter (fun x => x.2)).map (·.1) = ps := by
  refine mg_ind (motive := fun l ps => ((mg l ps).filter (fun x => x.2)).map (·.1) = ps) ?_ ?_ ?_ ?_ l ps
  · intro l; rw [mg_nil, List.filter_eq_nil_iff.2 (by simp)]; rfl
  · intro a l p ps h ih; rw [mg_leaf _ _ h, List.filter_cons_of_neg (by simp), ih]
  · intro a l p ps h ih; rw [mg_pack _ _ h, List.filter_cons_of_pos (by simp), List.map_cons, ih]
  · intro p ps ih; rw [mg_none, List.filter_cons_of_pos (by simp), List.map_cons, ih]

theorem mg_perm (l ps : List Nat) : ((mg l ps).map (·.1)).Perm (l ++ ps) := by
  refine mg_ind (motive := fun l ps => ((mg l ps).map (·.1)).Perm (l ++ ps)) ?_ ?_ ?_ ?_ l ps
  · intro l; rw [mg_nil, fst_leaf, List.append_nil]
  · intro a l p ps h ih; rw [mg_leaf _ _ h]; exact ih.cons a
  · intro a l p ps h ih
    rw [mg_pack _ _ h, List.map_cons]
    exact (ih.cons p).trans (List.perm_middle (l₁ := a :: l)).symm
  · intro p ps ih; rw [mg_none]; exact ih.cons p

theorem mg_length (l ps : List Nat) : (mg l ps).length = l.length + ps.length := by
  have := (mg_perm l ps).length_eq
  simpa using this

theorem mg_up (l ps : List Nat) (hl : Up l) (hp : Up ps) : Up ((mg l ps).map (·.1)) := by
  revert hl hp
  refine mg_ind (motive := fun l ps => Up l → Up ps → Up ((mg l ps).map (·.1))) ?_ ?_ ?_ ?_ l ps
  · intro l hl _; rw [mg_nil, fst_leaf]; exact hl
  · intro a l p ps h ih hl hp
    have ha := List.pairwise_cons.1 hl
    have hb := List.pairwise_cons.1 hp
    rw [mg_leaf _ _ h, List.map_cons]
    refine List.pairwise_cons.2 ⟨fun x hx => ?_, ih ha.2 hp⟩
    rcases List.mem_append.1 ((mg_perm l (p :: ps)).mem_iff.1 hx) with h1 | h1
    · exact ha.1 x h1
    · rcases List.mem_cons.1 h1 with rfl | h1
      · exact h
      · exact Nat.le_trans h (hb.1 x h1)
  · intro a l p ps h ih hl hp
    have ha := List.pairwise_cons.1 hl
    have hb := List.pairwise_cons.1 hp
    rw [mg_pack _ _ h, List.map_cons]
    refine List.pairwise_cons.2 ⟨fun x hx => ?_, ih hl hb.2⟩
    rcases List.mem_append.1 ((mg_perm (a :: l) ps).mem_iff.1 hx) with h1 | h1
    · rcases List.mem_cons.1 h1 with rfl | h1
      · omega
      · have := ha.1 x h1; omega
    · exact hb.1 x h1
  · intro p ps ih hl hp
    have hb := List.pairwise_cons.1 hp
    rw [mg_none, List.map_cons]
    refine List.pairwise_cons.2 ⟨fun x hx => ?_, ih hl hb.2⟩
    rcases List.mem_append.1 ((mg_perm [] ps).mem_iff.1 hx) with h1 | h1
    · simp at h1
    · exact hb.1 x h1

/-- How many packages, and how many symbols, are among the first T. -/
def pk (X : List (Nat × Bool)) (T : Nat) : Nat := (X.take T).countP (fun x => x.2)
def lf (X : List (Nat × Bool)) (T : Nat) : Nat := (X.take T).countP (fun x => !x.2)

theorem pk_lf (X : List (Nat × Bool)) (T : Nat) (h : T ≤ X.length) : lf X T + pk X T = T := by
  have e : (X.take T).length = T := by simp; omega
  have := List.length_eq_countP_add_countP (fun x : Nat × Bool => x.2) (l := X.take T)
  have h2 : lf X T = (X.take T).countP (fun a => decide ¬(a.2 = true)) := by
    unfold lf
    congr 1
    funext x
    cases x.2 <;> rfl
  unfold pk at *
  omega

/-- A package that is taken comes behind all symbols that are no heavier. -/
theorem mg_before (l ps : List Nat) (hl : Up l) (k T : Nat) (hk : k < ps.length) (hT : k + 1 ≤ pk (mg l ps) T) : l.countP (fun a => decide (a ≤ ps[k])) ≤ lf (mg l ps) T := by
  revert hl k T
  refine mg_ind (motive := fun l ps => Up l → ∀ (k T : Nat) (hk : k < ps.length), k + 1 ≤ pk (mg l ps) T → l.countP (fun a => decide (a ≤ ps[k])) ≤ lf (mg l ps) T) ?_ ?_ ?_ ?_ l ps
  · intro l _ k T hk; simp at hk
  · intro a l p ps h ih hl k T hk hT
    rw [mg_leaf _ _ h] at hT ⊢
    cases T with
    | zero => simp [pk] at hT
    | succ T =>
      have h1 : k + 1 ≤ pk (mg l (p :: ps)) T := by simpa [pk] using hT
      have h2 := ih (List.pairwise_cons.1 hl).2 k T hk h1
      have h3 : lf ((a, false) :: mg l (p :: ps)) (T + 1) = lf (mg l (p :: ps)) T + 1 := by simp [lf]
      rw [h3]
      have := List.countP_cons (p := fun a => decide (a ≤ (p :: ps)[k])) (a := a) (l := l)
      rw [this]
      split <;> omega
  · intro a l p ps h ih hl k T hk hT
    rw [mg_pack _ _ h] at hT ⊢
    cases T with
    | zero => simp [pk] at hT
    | succ T =>
      have h3 : lf ((p, true) :: mg (a :: l) ps) (T + 1) = lf (mg (a :: l) ps) T := by simp [lf]
      rw [h3]
      cases k with
      | zero =>
        have : (a :: l).countP (fun x => decide (x ≤ (p :: ps)[0])) = 0 := by
          refine List.countP_eq_zero.2 (fun x hx hc => ?_)
          have hc : x ≤ p := by simpa using hc
          rcases List.mem_cons.1 hx with rfl | hx
          · exact h hc
          · have := (List.pairwise_cons.1 hl).1 x hx; omega
        rw [this]; omega
      | succ k =>
        have h1 : k + 1 ≤ pk (mg (a :: l) ps) T := by have h4 : k + 1 + 1 ≤ pk (mg (a :: l) ps) T + 1 := by simpa [pk] using hT
                                                      omega
        exact ih hl k T (by simpa using hk) h1
  · intro p ps ih hl k T hk hT
    simp

/-- The weights of pairs. -/
def pairW : List Nat → List Nat
  | a :: b :: r => (a + b) :: pairW r
  | _ => []

theorem pairW_length : ∀ l : List Nat, (pairW l).length = l.length / 2
  | [] => rfl
  | [_] => by simp [pairW]
  | a :: b :: r => by simp only [pairW, List.length_cons, pairW_length r]; omega

theorem pairW_get : ∀ (l : List Nat) (k : Nat) (h : k < (pairW l).length), (pairW l)[k] = l[2 * k]'(by have := pairW_length l; omega) + l[2 * k + 1]'(by have := pairW_length l; omega)
  | [], k, h => by simp [pairW] at h
  | [_], k, h => by simp [pairW] at h
  | a :: b :: r, 0, h => by simp [pairW]
  | a :: b :: r, k + 1, h => by
    have h2 : k < (pairW r).length := by simpa [pairW] using h
    have := pairW_get r k h2
    simp only [pairW, List.getElem_cons_succ, this, show 2 * (k + 1) = 2 * k + 1 + 1 by omega]

theorem pairW_sum : ∀ (l : List Nat) (p : Nat), 2 * p ≤ l.length → ((pairW l).take p).sum = (l.take (2 * p)).sum
  | l, 0, _ => by simp
  | [], p + 1, h => by simp at h
  | [_], p + 1, h => by simp at h; omega
  | a :: b :: r, p + 1, h => by
    have := pairW_sum r p (by simp at h; omega)
    rw [show 2 * (p + 1) = 2 * p + 1 + 1 by omega]
    simp only [pairW, List.take_succ_cons, List.sum_cons, this]
    omega

theorem pairW_up (l : List Nat) (h : Up l) : Up (pairW l) := by
  refine List.pairwise_iff_getElem.2 (fun i j hi hj hij => ?_)
  rw [pairW_get l i hi, pairW_get l j hj]
  have hl := pairW_length l
  have g := fun (x y : Nat) (hx : x < l.length) (hy : y < l.length) (hxy : x < y) => List.pairwise_iff_getElem.1 h x y hx hy hxy
  have h1 := g (2 * i) (2 * j) (by omega) (by omega) (by omega)
  have h2 := g (2 * i + 1) (2 * j + 1) (by omega) (by omega) (by omega)
  omega

/-- The levels, from the longest length on. -/
def lev (ws : List Nat) : Nat → List (Nat × Bool)
  | 0 => mg ws []
  | t + 1 => mg ws (pairW ((lev ws t).map (·.1)))

theorem lev_up (ws : List Nat) (h : Up ws) : ∀ t, Up ((lev ws t).map (·.1))
  | 0 => mg_up ws [] h List.Pairwise.nil
  | t + 1 => mg_up ws _ h (pairW_up _ (lev_up ws h t))

theorem lev_length_succ (ws : List Nat) (t : Nat) : (lev ws (t + 1)).length = ws.length + (lev ws t).length / 2 := by
  simp [lev, mg_length, pairW_length]

theorem lev_length_zero (ws : List Nat) : (lev ws 0).length = ws.length := by simp [lev, mg_nil]

/-- How many there are on a level. -/
theorem lev_length (ws : List Nat) (t : Nat) : 2 ^ t * (2 * ws.length) ≤ 2 ^ t * (lev ws t).length + ws.length + (2 ^ t - 1) ∧ (lev ws t).length ≤ 2 * ws.length := by
  induction t with
  | zero => rw [lev_length_zero]; simp; omega
  | succ t ih =>
    rw [lev_length_succ, Nat.pow_succ]
    have hp : 0 < 2 ^ t := Nat.two_pow_pos t
    generalize (lev ws t).length = L at *
    generalize ws.length = m at *
    generalize 2 ^ t = q at *
    have h1 : L ≤ 2 * (L / 2) + 1 := by omega
    have h2 : q * L ≤ q * (2 * (L / 2) + 1) := Nat.mul_le_mul_left _ h1
    have e1 : q * 2 * (2 * m) = 2 * (q * (2 * m)) := by rw [Nat.mul_assoc, ← Nat.mul_left_comm]
    have e2 : q * 2 * (m + L / 2) = q * (2 * m) + q * (2 * (L / 2)) := by rw [Nat.mul_assoc, ← Nat.mul_add]; congr 1; omega
    have e3 : q * (2 * (L / 2) + 1) = q * (2 * (L / 2)) + q := by rw [Nat.mul_add, Nat.mul_one]
    refine ⟨?_, by omega⟩
    omega

/-- At the top there are as many as are taken. -/
theorem lev_top (ws : List Nat) (t : Nat) (h : ws.length ≤ 2 ^ (t + 1)) : 2 * ws.length - 2 ≤ (lev ws t).length := by
  have h1 := (lev_length ws t).1
  have hp : 0 < 2 ^ t := Nat.two_pow_pos t
  rw [Nat.pow_succ] at h
  generalize (lev ws t).length = L at *
  generalize ws.length = m at *
  generalize 2 ^ t = q at *
  refine Classical.byContradiction (fun hc => ?_)
  have h2 : L + 3 ≤ 2 * m := by omega
  have h3 : q * (L + 3) ≤ q * (2 * m) := Nat.mul_le_mul_left _ h2
  rw [Nat.mul_add] at h3
  omega

theorem pk_le (ws : List Nat) (t T : Nat) : 2 * pk (lev ws (t + 1)) T ≤ (lev ws t).length := by
  have h1 : pk (lev ws (t + 1)) T ≤ (lev ws (t + 1)).countP (fun x => x.2) := by
    unfold pk
    exact List.Sublist.countP_le (List.take_sublist _ _)
  have h2 : (lev ws (t + 1)).countP (fun x => x.2) = (pairW ((lev ws t).map (·.1))).length := by
    rw [← mg_packs ws (pairW ((lev ws t).map (·.1))), List.length_map, List.countP_eq_length_filter]
    rfl
  rw [pairW_length, List.length_map] at h2
  omega

theorem pk_zero (ws : List Nat) (T : Nat) : pk (lev ws 0) T = 0 := by
  unfold pk
  refine List.countP_eq_zero.2 (fun x hx => ?_)
  have := List.mem_of_mem_take hx
  simp [lev, mg_nil] at this
  obtain ⟨a, _, rfl⟩ := this
  simp

/-- The symbols among the first T are the first ones. -/
theorem take_leaves (l ps : List Nat) (T : Nat) : (((mg l ps).take T).filter (fun x => !x.2)).map (·.1) = l.take (lf (mg l ps) T) := by
  have h := mg_leaves l ps
  have e : (mg l ps).filter (fun x => !x.2) = ((mg l ps).take T).filter (fun x => !x.2) ++ ((mg l ps).drop T).filter (fun x => !x.2) := by rw [← List.filter_append, List.take_append_drop]
  rw [e, List.map_append] at h
  generalize hA : (((mg l ps).take T).filter (fun x => !x.2)).map (·.1) = A at *
  have hl : lf (mg l ps) T = A.length := by rw [← hA, List.length_map, lf, List.countP_eq_length_filter]
  rw [hl, ← h, List.take_left']
  rfl

theorem take_packs (l ps : List Nat) (T : Nat) : (((mg l ps).take T).filter (fun x => x.2)).map (·.1) = ps.take (pk (mg l ps) T) := by
  have h := mg_packs l ps
  have e : (mg l ps).filter (fun x => x.2) = ((mg l ps).take T).filter (fun x => x.2) ++ ((mg l ps).drop T).filter (fun x => x.2) := by rw [← List.filter_append, List.take_append_drop]
  rw [e, List.map_append] at h
  generalize hA : (((mg l ps).take T).filter (fun x => x.2)).map (·.1) = A at *
  have hl : pk (mg l ps) T = A.length := by rw [← hA, List.length_map, pk, List.countP_eq_length_filter]
  rw [hl, ← h, List.take_left']
  rfl

theorem sum_split (X : List (Nat × Bool)) : (X.map (·.1)).sum = ((X.filter (fun x => !x.2)).map (·.1)).sum + ((X.filter (fun x => x.2)).map (·.1)).sum := by
  induction X with
  | nil => rfl
  | cons a r ih =>
    obtain ⟨a, b⟩ := a
    cases b <;> simp at ih ⊢ <;> omega

theorem lf_le (l ps : List Nat) (T : Nat) : lf (mg l ps) T ≤ l.length := by
  have h : lf (mg l ps) T ≤ (mg l ps).countP (fun x => !x.2) := by
    unfold lf
    exact List.Sublist.countP_le (List.take_sublist _ _)
  have h2 := congrArg List.length (mg_leaves l ps)
  rw [List.length_map, ← List.countP_eq_length_filter] at h2
  omega

theorem lev_lf_le (ws : List Nat) (t T : Nat) : lf (lev ws t) T ≤ ws.length := by
  cases t with
  | zero => exact lf_le ws [] T
  | succ t => exact lf_le ws _ T

/-- What is taken of a level weighs as much as its symbols and what is taken below. -/
theorem lev_sum (ws : List Nat) (t T : Nat) : (((lev ws (t + 1)).take T).map (·.1)).sum = (ws.take (lf (lev ws (t + 1)) T)).sum + (((lev ws t).take (2 * pk (lev ws (t + 1)) T)).map (·.1)).sum := by
  rw [sum_split]
  have h1 := take_leaves ws (pairW ((lev ws t).map (·.1))) T
  have h2 := take_packs ws (pairW ((lev ws t).map (·.1))) T
  have h3 := pairW_sum ((lev ws t).map (·.1)) (pk (lev ws (t + 1)) T) (by rw [List.length_map]; exact pk_le ws t T)
  rw [show lev ws (t + 1) = mg ws (pairW ((lev ws t).map (·.1))) from rfl] at *
  rw [h1, h2, h3, List.map_take]

theorem lev_sum_zero (ws : List Nat) (T : Nat) : (((lev ws 0).take T).map (·.1)).sum = (ws.take (lf (lev ws 0) T)).sum := by
  rw [sum_split]
  have h1 := take_leaves ws [] T
  have h2 := take_packs ws [] T
  rw [show lev ws 0 = mg ws [] from rfl, h1, h2]
  simp

/-- Fewer symbols are taken below. -/
theorem lf_down (ws : List Nat) (hu : Up ws) (t T : Nat) : lf (lev ws t) (2 * pk (lev ws (t + 1)) T) ≤ lf (lev ws (t + 1)) T := by
  generalize hp : pk (lev ws (t + 1)) T = p at *
  cases p with
  | zero => simp [lf]
  | succ p =>
    have hle := pk_le ws t T
    rw [hp] at hle
    have hpl : p < (pairW ((lev ws t).map (·.1))).length := by rw [pairW_length, List.length_map]; omega
    have h1 := mg_before ws (pairW ((lev ws t).map (·.1))) hu p T hpl (by rw [show mg ws (pairW ((lev ws t).map (·.1))) = lev ws (t + 1) from rfl, hp]; exact Nat.le_refl _)
    refine Nat.le_trans ?_ h1
    have hget := pairW_get ((lev ws t).map (·.1)) p hpl
    have hup := lev_up ws hu t
    have htl : ∃ ps, lev ws t = mg ws ps := by
      cases t with
      | zero => exact ⟨[], rfl⟩
      | succ t => exact ⟨_, rfl⟩
    obtain ⟨ps, hps⟩ := htl
    have hlv := take_leaves ws ps (2 * (p + 1))
    rw [← hps] at hlv
    have hall : ∀ a ∈ ws.take (lf (lev ws t) (2 * (p + 1))), decide (a ≤ (pairW ((lev ws t).map (·.1)))[p]) = true := by
      intro a ha
      rw [← hlv] at ha
      obtain ⟨x, hx, rfl⟩ := List.mem_map.1 ha
      have hx2 := (List.mem_filter.1 hx).1
      obtain ⟨j, hj, rfl⟩ := List.getElem_of_mem hx2
      simp only [List.length_take] at hj
      rw [List.getElem_take]
      have hlast : ((lev ws t)[j]'(by omega)).1 ≤ ((lev ws t).map (·.1))[2 * p + 1]'(by rw [List.length_map]; omega) := by
        by_cases e : j = 2 * p + 1
        · subst e; simp
        · have := List.pairwise_iff_getElem.1 hup j (2 * p + 1) (by rw [List.length_map]; omega) (by rw [List.length_map]; omega) (by omega)
          simpa using this
      simp only [decide_eq_true_eq]
      omega
    have h2 : (ws.take (lf (lev ws t) (2 * (p + 1)))).countP (fun a => decide (a ≤ (pairW ((lev ws t).map (·.1)))[p])) = lf (lev ws t) (2 * (p + 1)) := by
      rw [List.countP_eq_length.2 hall, List.length_take]
      have := lev_lf_le ws t (2 * (p + 1))
      omega
    rw [← h2]
    exact List.Sublist.countP_le (List.take_sublist _ _)

/-- What a symbol's length grows by, from a level on down. -/
def gain (ws : List Nat) : Nat → Nat → Nat → Nat
  | 0, T, i => if i < lf (lev ws 0) T then 1 else 0
  | t + 1, T, i => (if i < lf (lev ws (t + 1)) T then 1 else 0) + gain ws t (2 * pk (lev ws (t + 1)) T) i

/-- What a symbol's places measure. -/
def wid (ws : List Nat) : Nat → Nat → Nat → Nat
  | 0, T, i => if i < lf (lev ws 0) T then 1 else 0
  | t + 1, T, i => (if i < lf (lev ws (t + 1)) T then 2 ^ (t + 1) else 0) + wid ws t (2 * pk (lev ws (t + 1)) T) i

theorem gain_le (ws : List Nat) (t T i : Nat) : gain ws t T i ≤ t + 1 := by
  induction t generalizing T with
  | zero => unfold gain; split <;> omega
  | succ t ih =>
    have := ih (2 * pk (lev ws (t + 1)) T)
    unfold gain
    split <;> omega

theorem gain_mono (ws : List Nat) (t T i j : Nat) (h : i ≤ j) : gain ws t T j ≤ gain ws t T i := by
  induction t generalizing T with
  | zero => unfold gain; split <;> split <;> omega
  | succ t ih =>
    have := ih (2 * pk (lev ws (t + 1)) T)
    unfold gain
    split <;> split <;> omega

theorem gain_none (ws : List Nat) (hu : Up ws) (t T i : Nat) (h : lf (lev ws t) T ≤ i) : gain ws t T i = 0 ∧ wid ws t T i = 0 := by
  induction t generalizing T with
  | zero => unfold gain wid; rw [if_neg (by omega)]; exact ⟨rfl, rfl⟩
  | succ t ih =>
    have h2 := lf_down ws hu t T
    have := ih (2 * pk (lev ws (t + 1)) T) (by omega)
    unfold gain wid
    rw [if_neg (by omega), if_neg (by omega), this.1, this.2]
    exact ⟨rfl, rfl⟩

theorem wid_gain (ws : List Nat) (hu : Up ws) (t T i : Nat) : wid ws t T i + 2 ^ (t + 1 - gain ws t T i) = 2 ^ (t + 1) := by
  induction t generalizing T with
  | zero => unfold wid gain; split <;> simp
  | succ t ih =>
    by_cases h : i < lf (lev ws (t + 1)) T
    · have := ih (2 * pk (lev ws (t + 1)) T)
      have hg := gain_le ws t (2 * pk (lev ws (t + 1)) T) i
      unfold wid gain
      rw [if_pos h, if_pos h, show t + 1 + 1 - (1 + gain ws t (2 * pk (lev ws (t + 1)) T) i) = t + 1 - gain ws t (2 * pk (lev ws (t + 1)) T) i by omega, Nat.pow_succ 2 (t + 1)]
      omega
    · have := gain_none ws hu (t + 1) T i (by omega)
      rw [this.1, this.2]
      simp

/-- Sums over the first m. -/
def sumI (m : Nat) (f : Nat → Nat) : Nat := ((List.range m).map f).sum
theorem sumI_succ (m : Nat) (f : Nat → Nat) : sumI (m + 1) f = sumI m f + f m := by simp [sumI, List.range_succ]
theorem sumI_add (m : Nat) (f g : Nat → Nat) : sumI m (fun i => f i + g i) = sumI m f + sumI m g := by
  induction m with
  | zero => rfl
  | succ m ih => rw [sumI_succ, sumI_succ, sumI_succ, ih]; omega
theorem sumI_const (m c : Nat) : sumI m (fun _ => c) = m * c := by
  induction m with
  | zero => simp [sumI]
  | succ m ih => rw [sumI_succ, ih, Nat.add_mul, Nat.one_mul]
theorem sumI_congr (m : Nat) (f g : Nat → Nat) (h : ∀ i, i < m → f i = g i) : sumI m f = sumI m g := by
  unfold sumI
  congr 1
  exact List.map_congr_left (fun i hi => h i (by simpa using hi))
theorem sumI_first (m a c : Nat) (h : a ≤ m) : sumI m (fun i => if i < a then c else 0) = a * c := by
  induction m with
  | zero => have : a = 0 := by omega
            subst this; simp [sumI]
  | succ m ih =>
    rw [sumI_succ]
    by_cases e : a = m + 1
    · subst e
      rw [sumI_congr m _ (fun _ => c) (fun i hi => if_pos (by omega)), sumI_const, if_pos (by omega), Nat.add_mul, Nat.one_mul]
    · rw [ih (by omega), if_neg (by omega)]; omega
theorem sumI_take (ws : List Nat) (a : Nat) (h : a ≤ ws.length) : sumI ws.length (fun i => if i < a then ws.getD i 0 else 0) = (ws.take a).sum := by
  have key : ∀ m, m ≤ ws.length → sumI m (fun i => if i < a then ws.getD i 0 else 0) = (ws.take (min m a)).sum := by
    intro m
    induction m with
    | zero => intro _; simp [sumI]
    | succ m ih =>
      intro hm
      rw [sumI_succ, ih (by omega)]
      by_cases e : m < a
      · rw [if_pos e, show min (m + 1) a = min m a + 1 by omega, show min m a = m by omega, List.take_succ_eq_append_getElem (by omega), List.sum_append]
        simp [List.getD, show m < ws.length by omega]
      · rw [if_neg e, show min (m + 1) a = min m a by omega]; omega
  rw [key ws.length (Nat.le_refl _), show min ws.length a = a by omega]

theorem wid_sum (ws : List Nat) (t T : Nat) (hT : T ≤ (lev ws t).length) : sumI ws.length (wid ws t T) = T * 2 ^ t := by
  induction t generalizing T with
  | zero =>
    have h1 := pk_lf (lev ws 0) T hT
    rw [pk_zero] at h1
    have e : wid ws 0 T = fun i => if i < lf (lev ws 0) T then 1 else 0 := by funext i; rfl
    rw [e, sumI_first _ _ _ (lev_lf_le ws 0 T)]
    simp; omega
  | succ t ih =>
    have h1 := pk_lf (lev ws (t + 1)) T hT
    have h2 := ih (2 * pk (lev ws (t + 1)) T) (pk_le ws t T)
    have e : wid ws (t + 1) T = fun i => (if i < lf (lev ws (t + 1)) T then 2 ^ (t + 1) else 0) + wid ws t (2 * pk (lev ws (t + 1)) T) i := by funext i; rfl
    rw [e, sumI_add, sumI_first _ _ _ (lev_lf_le ws (t + 1) T), h2]
    have e2 : 2 * pk (lev ws (t + 1)) T * 2 ^ t = pk (lev ws (t + 1)) T * 2 ^ (t + 1) := by rw [Nat.pow_succ, Nat.mul_comm 2, Nat.mul_assoc, Nat.mul_comm 2]
    rw [e2, ← Nat.add_mul, h1]

/-- The lengths measure 1. -/
theorem gain_kraft (ws : List Nat) (hu : Up ws) (t : Nat) (h2 : 2 ≤ ws.length) (hm : ws.length ≤ 2 ^ (t + 1)) : sumI ws.length (fun i => 2 ^ (t + 1 - gain ws t (2 * ws.length - 2) i)) = 2 ^ (t + 1) := by
  have h1 := wid_sum ws t (2 * ws.length - 2) (lev_top ws t hm)
  have h3 : sumI ws.length (fun i => wid ws t (2 * ws.length - 2) i + 2 ^ (t + 1 - gain ws t (2 * ws.length - 2) i)) = ws.length * 2 ^ (t + 1) := by
    rw [sumI_congr _ _ (fun _ => 2 ^ (t + 1)) (fun i _ => wid_gain ws hu t _ i), sumI_const]
  rw [sumI_add] at h3
  have h4 : sumI ws.length (fun i => wid ws t (2 * ws.length - 2) i) = (2 * ws.length - 2) * 2 ^ t := h1
  rw [h4] at h3
  have e : (2 * ws.length - 2) * 2 ^ t = (ws.length - 1) * 2 ^ (t + 1) := by
    rw [show 2 * ws.length - 2 = (ws.length - 1) * 2 by omega, Nat.pow_succ, Nat.mul_assoc, Nat.mul_comm 2]
  rw [e] at h3
  have e2 : ws.length * 2 ^ (t + 1) = (ws.length - 1) * 2 ^ (t + 1) + 2 ^ (t + 1) := by
    conv => lhs; rw [show ws.length = (ws.length - 1) + 1 by omega, Nat.add_mul, Nat.one_mul]
  omega

theorem sumI_ge (m : Nat) (f : Nat → Nat) (i : Nat) (h : i < m) : f i ≤ sumI m f := by
  induction m with
  | zero => omega
  | succ m ih =>
    rw [sumI_succ]
    by_cases e : i = m
    · subst e; omega
    · have := ih (by omega); omega

theorem sumI_two (m : Nat) (f : Nat → Nat) (i j : Nat) (hij : i < j) (h : j < m) : f i + f j ≤ sumI m f := by
  induction m with
  | zero => omega
  | succ m ih =>
    rw [sumI_succ]
    by_cases e : j = m
    · subst e; have := sumI_ge j f i hij; omega
    · have := ih (by omega); omega

/-- Each has a length from 1 on. -/
theorem gain_pos (ws : List Nat) (hu : Up ws) (t : Nat) (h2 : 2 ≤ ws.length) (hm : ws.length ≤ 2 ^ (t + 1)) (i : Nat) (hi : i < ws.length) : 1 ≤ gain ws t (2 * ws.length - 2) i := by
  refine Classical.byContradiction (fun hc => ?_)
  have h0 : gain ws t (2 * ws.length - 2) i = 0 := by omega
  have hk := gain_kraft ws hu t h2 hm
  have hpos := fun j => Nat.two_pow_pos (t + 1 - gain ws t (2 * ws.length - 2) j)
  by_cases e : i = 0
  · have := sumI_two ws.length (fun i => 2 ^ (t + 1 - gain ws t (2 * ws.length - 2) i)) 0 1 (by omega) (by omega)
    have h3 := hpos 1
    subst e
    simp only [h0, Nat.sub_zero] at this
    omega
  · have := sumI_two ws.length (fun i => 2 ^ (t + 1 - gain ws t (2 * ws.length - 2) i)) 0 i (by omega) hi
    have h3 := hpos 0
    simp only [h0, Nat.sub_zero] at this
    omega

/-- The lengths cost what is taken at the top. -/
theorem gain_cost (ws : List Nat) (t T : Nat) : sumI ws.length (fun i => ws.getD i 0 * gain ws t T i) = (((lev ws t).take T).map (·.1)).sum := by
  induction t generalizing T with
  | zero =>
    rw [lev_sum_zero, ← sumI_take ws _ (lev_lf_le ws 0 T)]
    refine sumI_congr _ _ _ (fun i _ => ?_)
    unfold gain
    split <;> simp
  | succ t ih =>
    rw [lev_sum, ← sumI_take ws _ (lev_lf_le ws (t + 1) T), ← ih, ← sumI_add]
    refine sumI_congr _ _ _ (fun i _ => ?_)
    conv => lhs; unfold gain
    rw [Nat.mul_add]
    split <;> simp

end Go.Proofs.YtofhlnpbflkdlaaDoor

/-
  Rows of items (a weight; a package or a symbol).
-/
namespace Go.Proofs.YtofhlnpbflkdlaaDoor
open Go.RowKit

def itC (x : Nat × Bool) : List Value := [.int .i64 (x.1 : Int), .bool x.2]
def cellsOfI (its : List (Nat × Bool)) : List Value := its.flatMap itC

theorem cellsOfI_length (its : List (Nat × Bool)) : (cellsOfI its).length = its.length * 2 := by
  induction its with
  | nil => rfl
  | cons a r ih => simp [cellsOfI, itC] at *; omega

theorem cellsOfI_get (its : List (Nat × Bool)) (j : Nat) (h : j < its.length) : (cellsOfI its)[j * 2]? = some (.int .i64 (its[j].1 : Int)) ∧ (cellsOfI its)[j * 2 + 1]? = some (.bool its[j].2) := by
  induction its generalizing j with
  | nil => simp at h
  | cons a r ih =>
    cases j with
    | zero => simp [cellsOfI, itC]
    | succ j =>
      have := ih j (by simpa using h)
      have e : cellsOfI (a :: r) = .int .i64 (a.1 : Int) :: .bool a.2 :: cellsOfI r := rfl
      rw [e, show (j + 1) * 2 = j * 2 + 1 + 1 by omega]
      simpa using this

theorem cellsOfI_one (its : List (Nat × Bool)) : ∀ u ∈ cellsOfI its, u.oneCell' = true := by
  intro u hu
  simp only [cellsOfI, List.mem_flatMap, itC, List.mem_cons, List.not_mem_nil, or_false] at hu
  obtain ⟨x, _, rfl | rfl⟩ := hu <;> rfl

abbrev TRow (B : Nat) (w : World) (v : Value) (its : List (Nat × Bool)) : Prop := w.ownsRow B 130 2 v its.length (cellsOfI its)

theorem TRow.kept {F : Nat → Prop} {B : Nat} {w w' : World} {v : Value} {its : List (Nat × Bool)} (h : TRow B w v its) (hk : Kept F w w') (hn : ∀ k, v.ownBlock = some k → ¬ F k) : TRow B w' v its := by
  refine ⟨h.1, ?_⟩
  rcases h.2 with hn' | ⟨g, cap, cur, rfl, hb, hgg, rest⟩
  · exact .inl hn'
  · refine .inr ⟨g, cap, cur, rfl, hb, ?_, rest⟩
    rw [hk.block g (Array.getElem?_eq_some_iff.1 hgg).1 (hn g rfl)]
    exact hgg

theorem TRow.nil {B : Nat} {w : World} : TRow B w (.slice none 0 0) [] := World.ownsRow_nil w B _ 2
theorem TRow.lt {B : Nat} {w : World} {v : Value} {its : List (Nat × Bool)} (h : TRow B w v its) {k : Nat} (hk : v.ownBlock = some k) : k < w.heap.size := (World.ownsRow.lt h k hk).2
theorem TRow.ge {B : Nat} {w : World} {v : Value} {its : List (Nat × Bool)} (h : TRow B w v its) {k : Nat} (hk : v.ownBlock = some k) : B ≤ k := (World.ownsRow.lt h k hk).1

theorem TRow.shape {B : Nat} {w : World} {v : Value} {its : List (Nat × Bool)} (h : TRow B w v its) : ∃ ao cap, v = .slice ao its.length cap ∧ its.length ≤ cap ∧ (its ≠ [] → ∃ g, ao = some ⟨g, 0, none⟩ ∧ g < w.heap.size ∧ ∀ j (_ : j < its.length), w.cell? ⟨g, j * 2, none⟩ = some (.int .i64 (its[j].1 : Int)) ∧ w.cell? ⟨g, j * 2 + 1, none⟩ = some (.bool its[j].2)) := by
  rcases id h.2 with ⟨rfl, hn⟩ | ⟨g, cap, cur, rfl, _, _, h1, h2, _⟩
  · exact ⟨none, 0, by rw [hn], by omega, fun hb => absurd (List.eq_nil_of_length_eq_zero hn) hb⟩
  · refine ⟨_, cap, rfl, h1, fun _ => ⟨g, rfl, h.lt rfl, fun j hj => ?_⟩⟩
    have hc := cellsOfI_get its j hj
    exact ⟨by rw [World.ownsRow.cellAt h (j * 2) (by omega)]; exact hc.1, by rw [World.ownsRow.cellAt h (j * 2 + 1) (by omega)]; exact hc.2⟩

theorem Tryd.infoT : (Tryd.prog.info? 130).map (fun i => (i.zero, i.size, i.bytes)) = some (some (.agg #[.int .i64 0, .bool false]), 2, 16) := by kernel_rfl

theorem item_new (w : World) (x : Nat) (b : Bool) : CellsAt (w.alloc (.cells #[.int .i64 (x : Int), .bool b] 130)) ⟨w.heap.size, 0, none⟩ (itC (x, b)) := by
  intro j u hu
  match j, hu with
  | 0, hu => simp [itC] at hu; subst hu; simp [addAt]
  | 1, hu => simp [itC] at hu; subst hu; simp [addAt]
  | j + 2, hu => simp [itC] at hu

theorem wpList_append_item {ops : Array Oper} {rest : List Oper} {o : Oper} {a : Act} {Q : Exit → Act → World → Prop} (w : World) (B : Nat) (hgd : o.guard = none) (s x : Operand)
    (ho : o.op = .call { callee := .builtin .append, args := #[s, x], argTypes := #[128, 128] })
    (v : Value) (its : List (Nat × Bool)) (hs : a.eval s = v) (hrow : TRow B w v its) (ad : Addr) (y : Nat × Bool) (hx : a.eval x = .slice (some ad) 1 1) (hcs : CellsAt w ad (itC y)) (hlen : its.length + 1 ≤ 1000000000) (hB : B ≤ w.heap.size)
    (h : ∀ v' w', TRow B w' v' (its ++ [y]) → w.grownBy w' v.ownBlock → wpList Tryd.prog ops Q rest (a.put o.dst v') w') : wpList Tryd.prog ops Q (o :: rest) a w := by
  obtain ⟨i0, hi, hz0, hz1, hz2⟩ := info_parts Tryd.infoT
  refine wpList_append_own w hgd s x 128 ho B 130 i0 _ 2 16 Tryd.underlying128 hi hz0 hz1 hz2 rfl (by decide) v its.length (cellsOfI its) hs hrow ad 1 1 (itC y) hx rfl hcs (by intro u hu; simp [itC] at hu; rcases hu with rfl | rfl <;> rfl) (by simp only [maxLen]; omega) (by omega) hB ?_
  intro v' w' h1 h2 _
  refine h v' w' ?_ h2
  have e : cellsOfI (its ++ [y]) = cellsOfI its ++ itC y := by simp [cellsOfI]
  unfold TRow
  rw [List.length_append, e]
  exact h1

theorem step_append_item {ops : Array Oper} {o : Oper} {a : Act} {w : World} {K : Act → World → Prop} {Q : Exit → Act → World → Prop} {E : Prop} (B : Nat) (hgd : o.guard = none) (s x : Operand)
    (ho : o.op = .call { callee := .builtin .append, args := #[s, x], argTypes := #[128, 128] })
    (v : Value) (its : List (Nat × Bool)) (hs : a.eval s = v) (hrow : TRow B w v its) (ad : Addr) (y : Nat × Bool) (hx : a.eval x = .slice (some ad) 1 1) (hcs : CellsAt w ad (itC y)) (hlen : its.length + 1 ≤ 1000000000) (hB : B ≤ w.heap.size)
    (h : ∀ v' w', TRow B w' v' (its ++ [y]) → w.grownBy w' v.ownBlock → K (a.put o.dst v') w') : if Region.wanted o (yielded ops a.tmps) = true then Oper.wp Tryd.prog o a w K Q else E := by
  have hw : Region.wanted o (yielded ops a.tmps) = true := by simp [Region.wanted, hgd]
  rw [if_pos hw]
  obtain ⟨i0, hi, hz0, hz1, hz2⟩ := info_parts Tryd.infoT
  refine wp_append_own w s x 128 ho B 130 i0 _ 2 16 Tryd.underlying128 hi hz0 hz1 hz2 rfl (by decide) v its.length (cellsOfI its) hs hrow ad 1 1 (itC y) hx rfl hcs (by intro u hu; simp [itC] at hu; rcases hu with rfl | rfl <;> rfl) (by simp only [maxLen]; omega) (by omega) hB ?_
  intro v' w' h1 h2 _
  refine h v' w' ?_ h2
  have e : cellsOfI (its ++ [y]) = cellsOfI its ++ itC y := by simp [cellsOfI]
  unfold TRow
  rw [List.length_append, e]
  exact h1

end Go.Proofs.YtofhlnpbflkdlaaDoor

/-
  The closure that makes a level out of the one below.
-/
namespace Go.Proofs.YtofhlnpbflkdlaaDoor
open Go.RowKit

theorem slice_eq {a a' : Option Addr} {n n' c c' : Nat} (h1 : a = a') (h2 : n = n') (h3 : c = c') : Value.slice a n c = .slice a' n' c' := by rw [h1, h2, h3]

/-- The weights by rising order. -/
def wsOf (ns : List Nat) : List Nat := (ris ns).map (key ns)

theorem wsOf_length (ns : List Nat) : (wsOf ns).length = (ris ns).length := by simp [wsOf]
theorem wsOf_up (ns : List Nat) : Up (wsOf ns) := List.pairwise_map.2 ((ris_sorted ns).imp (fun {a b} h => by unfold Lt at h; omega))
theorem wsOf_get (ns : List Nat) (r : Nat) (h : r < (ris ns).length) : (wsOf ns)[r]'(by rw [wsOf_length]; exact h) = key ns (ris ns)[r] := by simp [wsOf]

theorem wsOf_drop (ns : List Nat) (r : Nat) (h : r < (ris ns).length) : (wsOf ns).drop r = key ns (ris ns)[r] :: (wsOf ns).drop (r + 1) := by
  rw [List.drop_eq_getElem_cons (by rw [wsOf_length]; exact h), wsOf_get ns r h]

/-- What the closure stands on: the boxes of the used symbols and of the counts. -/
structure Box2 (w : World) (bu bc : Nat) (vu vc : Value) (I : Nat → Prop) (ns : List Nat) : Prop where
  cu : w.cell? ⟨bu, 0, none⟩ = some vu
  cc : w.cell? ⟨bc, 0, none⟩ = some vc
  su : SrcE natV w I vu (ris ns)
  sc : SrcE natV w I vc ns

theorem Box2.same {w w' : World} {bu bc : Nat} {vu vc : Value} {I : Nat → Prop} {ns : List Nat} (h : Box2 w bu bc vu vc I ns) (hk : Same w w') : Box2 w' bu bc vu vc I ns :=
  ⟨hk.cell h.cu (fun h => h), hk.cell h.cc (fun h => h), h.su.same hk, h.sc.same hk⟩

set_option maxRecDepth 100000 in
set_option maxHeartbeats 4000000 in
theorem merge_any (w : World) (B0 bu bc : Nat) (vu vc : Value) (I : Nat → Prop) (ns : List Nat) (its : List (Nat × Bool)) (v : Value) (hb : Box2 w bu bc vu vc I ns) (hne : ris ns ≠ []) (hns : ns.length ≤ 288) (hrow : TRow B0 w v its) (hits : its.length ≤ 1000)
    (hW : ∀ x ∈ its, x.1 ≤ 40000000000000000) (hk : ∀ n ∈ ns, n ≤ 1000000000000) :
    Calls Tryd.prog 90 #[v, .pointer (some ⟨bu, 0, none⟩), .pointer (some ⟨bc, 0, none⟩)] w fun e w' => ∃ v', e = .returned v' ∧ TRow w.heap.size w' v' (mg (wsOf ns) (pairW (its.map (·.1)))) ∧ Same w w' := by
  obtain ⟨ps, hps⟩ : ∃ ps, ps = pairW (its.map (·.1)) := ⟨_, rfl⟩
  rw [← hps]
  have hpl : ps.length = its.length / 2 := by rw [hps, pairW_length, List.length_map]
  have hmlen : (ris ns).length ≤ 288 := Nat.le_trans (ris_length ns) hns
  have hm0 : 0 < (ris ns).length := List.length_pos_iff.2 hne
  obtain ⟨b, o, cap, hvu, _, _, _⟩ := hb.su.get 0 hm0
  subst hvu
  have hcap : (ris ns).length ≤ cap := by
    obtain ⟨_, _, e, h, _⟩ := hb.su
    simp only [Value.slice.injEq] at e
    omega
  obtain ⟨c0, oc, capc, hvc, _, _, _⟩ := hb.sc.get 0 (by have := ris_length ns; omega)
  subst hvc
  obtain ⟨ai, capi, rfl, hcapi, hcell⟩ := hrow.shape
  have cu := hb.cu
  have HB : Hid (Box2 w bu bc (.slice (some ⟨b, o, none⟩) (ris ns).length cap) (.slice (some ⟨c0, oc, none⟩) ns.length capc) I ns) := hb
  have HPS : Hid (ps = pairW (its.map (·.1)) ∧ ps.length = its.length / 2) := ⟨hps, hpl⟩
  have HCELL : Hid (its ≠ [] → ∃ g, ai = some ⟨g, 0, none⟩ ∧ g < w.heap.size ∧ ∀ j (_ : j < its.length), w.cell? ⟨g, j * 2, none⟩ = some (.int .i64 (its[j].1 : Int)) ∧ w.cell? ⟨g, j * 2 + 1, none⟩ = some (.bool its[j].2)) := hcell
  have HWW : Hid (∀ x ∈ its, x.1 ≤ 40000000000000000) := hW
  have HKK : Hid (∀ n ∈ ns, n ≤ 1000000000000) := hk
  obtain ⟨m, hm⟩ : ∃ m, m = (ris ns).length := ⟨_, rfl⟩
  have HMM : Hid (m = (ris ns).length) := hm
  rw [← hm] at hmlen hm0 hcap HB cu
  obtain ⟨tot, htot⟩ : ∃ tot, tot = mg (wsOf ns) ps := ⟨_, rfl⟩
  have HTOT : Hid (tot = mg (wsOf ns) ps ∧ tot.length ≤ 800) := ⟨htot, by rw [htot, mg_length, wsOf_length, hpl, ← hm]; omega⟩
  rw [← htot]
  clear hps hpl hb hrow hW hk hcell hne htot
  obtain ⟨il, hil⟩ : ∃ il, il = its.length := ⟨_, rfl⟩
  have HIL : Hid (il = its.length) := hil
  rw [← hil] at hits hcapi ⊢
  clear hil hm
  go_enter Tryd.func90, Tryd.ntmps90
  go_wp2_with fail
  go_loopg [5, 6, 7] il (fun q z5 z6 z7 wr => ∃ (i j r px : Nat) (out : List (Nat × Bool)), il - i ≤ q ∧ i ≤ 1002 ∧ r ≤ m ∧ Hid (r < m → px = o + r) ∧ z6 = .slice (some ⟨b, px, none⟩) (m - r) (cap - r) ∧ z7 = .int .i64 (i : Nat) ∧
      Hid (out ++ mg ((wsOf ns).drop r) (ps.drop j) = tot ∧ 2 * j ≤ il ∧ i = 1 + 2 * j) ∧ Hid (TRow w.heap.size wr z5 out) ∧ Hid (Same w wr))
  case atStart => exact ⟨1, 0, 0, o, [], by omega, by omega, by omega, hid (fun _ => rfl), rfl, rfl, hid ⟨by rw [HTOT.out.1]; simp, by omega, by omega⟩, TRow.nil, Kept.refl _ _⟩
  case round =>
    obtain ⟨i, j, r, px, out, hq, hi, hr, HPX, rfl, rfl, HF, HR, HK⟩ := hrel
    obtain ⟨gk0, hgk⟩ : ∃ x, x = gk := ⟨_, rfl⟩
    rw [← hgk] at hq
    have HG : Hid (gk0 = gk) := hgk
    clear hgk
    by_cases hlt : i < il
    · have hjl : 2 * j + 1 < its.length := by have := HIL.out; have := HF.out.2.2; omega
      obtain ⟨gi, hai, hgi, hcl⟩ := HCELL.out (by intro e; rw [e] at hjl; simp at hjl)
      subst hai
      obtain ⟨x1, hx1⟩ : ∃ x, x = its[2 * j].1 := ⟨_, rfl⟩
      obtain ⟨x2, hx2⟩ : ∃ x, x = its[2 * j + 1].1 := ⟨_, rfl⟩
      obtain ⟨h, hh⟩ : ∃ h, h = 2 * j := ⟨_, rfl⟩
      have hi2 : i = h + 1 := by have := HF.out.2.2; omega
      have c1 : wr.cell? ⟨gi, h * 2, none⟩ = some (.int .i64 (x1 : Int)) := by rw [hx1, hh]; exact HK.out.cell (hcl (2 * j) (by omega)).1 (fun h => h)
      have c2 : wr.cell? ⟨gi, i * 2, none⟩ = some (.int .i64 (x2 : Int)) := by rw [hx2, hi2, hh]; exact HK.out.cell (hcl (2 * j + 1) (by omega)).1 (fun h => h)
      have hx1l : x1 ≤ 40000000000000000 := by rw [hx1]; exact HWW.out _ (List.getElem_mem _)
      have hx2l : x2 ≤ 40000000000000000 := by rw [hx2]; exact HWW.out _ (List.getElem_mem _)
      obtain ⟨P, hP⟩ : ∃ P, P = x1 + x2 := ⟨_, rfl⟩
      have HP : Hid (ps.drop j = P :: ps.drop (j + 1)) := hid (by
        have hjp : j < ps.length := by have := HPS.out.2; omega
        rw [List.drop_eq_getElem_cons hjp, hP]
        congr 1
        have h1 := HPS.out.1
        subst h1
        rw [pairW_get _ _ hjp]
        simp [hx1, hx2])
      have hPI : ((x1 : Int) + (x2 : Int)) = (P : Int) := by omega
      have hPl : P ≤ 80000000000000000 := by omega
      have hsub : ((i : Int) - 1) = (h : Int) := by omega
      have hhl : h < il := by omega
      clear hx1 hx2 hcl hP hi2 hh
      go_wp2_with fail
      go_quiet (fail)
      have HR2 : Hid (TRow w.heap.size (wr.drewN nq) u5 out) := HR
      have HK2 : Hid (Same w (wr.drewN nq)) := hid (HK.out.drewN nq)
      clear HR HK c1 c2
      generalize wr.drewN nq = wq at HR2 HK2
      go_wp2_with fail
      go_loopg [5, 6] (m - r) (fun q z5 z6 wx => ∃ (r px : Nat) (out : List (Nat × Bool)), m - r ≤ q ∧ r ≤ m ∧ Hid (r < m → px = o + r) ∧ z6 = .slice (some ⟨b, px, none⟩) (m - r) (cap - r) ∧
        Hid (out ++ mg ((wsOf ns).drop r) (P :: ps.drop (j + 1)) = tot) ∧ Hid (TRow w.heap.size wx z5 out) ∧ Hid (Same w wx))
      case atStart => exact ⟨r, px, out, by omega, by omega, HPX, rfl, hid (by rw [← HP.out]; exact HF.out.1), HR2, HK2⟩
      case round =>
        clear HR2 HK2
        have HF0 : Hid (2 * j ≤ il ∧ i = 1 + 2 * j) := HF.out.2
        clear HF hr HPX
        obtain ⟨r, px, out, hq2, hr, HPX, rfl, HF, HR, HK⟩ := hrel
        have hout : out.length ≤ 800 := by have h1 := HF.out; have h2 := HTOT.out.2; rw [← h1] at h2; simp at h2; omega
        have hsz := HK.out.size
        by_cases hrm : r < m
        · have hpx := HPX.out hrm
          subst hpx
          have hrl : r < (ris ns).length := by have := HMM.out; omega
          have hbx := HB.out.same HK.out
          obtain ⟨b2, o2, cap2, e2, _, _, c3⟩ := hbx.su.get r hrl
          simp only [Value.slice.injEq, Option.some.injEq, Addr.mk.injEq, and_true] at e2
          obtain ⟨⟨rfl, rfl⟩, hxe, rfl⟩ := e2
          clear hxe
          obtain ⟨s, hs⟩ : ∃ s, s = (ris ns)[r] := ⟨_, rfl⟩
          have hsr : s < ns.length ∧ key ns s ≠ 0 := mem_ris.1 (by rw [hs]; exact List.getElem_mem _)
          rw [← hs] at c3
          obtain ⟨b3, o3, cap3, e3, _, _, c4⟩ := hbx.sc.get s hsr.1
          simp only [Value.slice.injEq, Option.some.injEq, Addr.mk.injEq, and_true] at e3
          obtain ⟨⟨rfl, rfl⟩, hxe, rfl⟩ := e3
          clear hxe
          rw [← key_get hsr.1] at c4
          obtain ⟨y, hy⟩ : ∃ y, y = key ns s := ⟨_, rfl⟩
          rw [← hy] at c4
          unfold natV at c3 c4
          have cb := hbx.cc
          have hyl : y ≤ 1000000000000 := by rw [hy, key_get hsr.1]; exact HKK.out _ (List.getElem_mem _)
          have hd : (wsOf ns).drop r = y :: (wsOf ns).drop (r + 1) := by rw [wsOf_drop ns r hrl, ← hs, hy]
          have hsn := hsr.1
          have hmr : 0 < m - r := by omega
          clear hs hsr hy hbx
          by_cases hle : y ≤ P
          · have HF2 : Hid (out ++ [(y, false)] ++ mg ((wsOf ns).drop (r + 1)) (P :: ps.drop (j + 1)) = tot) := hid (by
              have h1 := HF.out
              rw [hd, mg_leaf _ _ hle] at h1
              simpa using h1)
            clear hd
            have hle' : decide (y ≤ P) = true := by simp [hle]
            go_wp2_with fail
            go_quiet (fail)
            have HR2 : Hid (TRow w.heap.size (wr.drewN nq) u5 out) := HR
            have HK2 : Hid (Same w (wr.drewN nq)) := hid (HK.out.drewN nq)
            have c3' : (wr.drewN nq).cell? ⟨b, o + r, none⟩ = some (.int .i64 (s : Int)) := c3
            have c4' : (wr.drewN nq).cell? ⟨c0, oc + s, none⟩ = some (.int .i64 (y : Int)) := c4
            have cb' : (wr.drewN nq).cell? ⟨bc, 0, none⟩ = some (.slice (some ⟨c0, oc, none⟩) ns.length capc) := cb
            have hsz' : w.heap.size ≤ (wr.drewN nq).heap.size := hsz
            clear HR HK c3 c4 cb hsz
            generalize wr.drewN nq = wq at HR2 HK2 c3' c4' cb' hsz'
            go_wp2_with fail
            go_region_law (refine step_append_item w.heap.size rfl (.tmp 43) (.tmp 51) rfl u5 out (by simp [Act.eval]) (World.ownsRow.alloc HR2.out _) ⟨wq.heap.size, 0, none⟩ (y, false) (by simp [Act.eval]) (item_new _ _ _) (by omega) (by simp; omega) ?_; intro v' w1 hrow hgr)
            all_goals
              have HR3 : Hid (TRow w.heap.size w1 v' (out ++ [(y, false)])) := hrow
              have HK3 : Hid (Same w w1) := hid (Kept.grown ((HK2.out.alloc _).drew) hgr (fun k e => .inr (HR2.out.ge e)))
              clear hrow hgr HR2 HK2 c3' c4' cb'
              go_wp2_with fail
              all_goals
                go_roundg (gk - 1)
                case measure => omega
                case rel =>
                  refine ⟨r + 1, _, out ++ [(y, false)], by omega, by omega, ?_, slice_eq rfl (by omega) (by omega), HF2, HR3, HK3⟩
                  exact hid (fun _ => by omega)
          · have HF2 : Hid (out ++ [(P, true)] ++ mg ((wsOf ns).drop r) (ps.drop (j + 1)) = tot) := hid (by
              have h1 := HF.out
              rw [hd, mg_pack _ _ hle, ← hd] at h1
              simpa using h1)
            clear hd
            have hle' : decide (y ≤ P) = false := by simp; omega
            go_wp2_with fail
            go_quiet (fail)
            have HR2 : Hid (TRow w.heap.size (wr.drewN nq) u5 out) := HR
            have HK2 : Hid (Same w (wr.drewN nq)) := hid (HK.out.drewN nq)
            have hsz' : w.heap.size ≤ (wr.drewN nq).heap.size := hsz
            clear HR HK c3 c4 cb hsz
            generalize wr.drewN nq = wq at HR2 HK2 hsz'
            go_wp2_with (at_builtin; refine wpList_append_item _ w.heap.size rfl (.tmp 55) (.tmp 58) rfl u5 out rfl (World.ownsRow.alloc HR2.out _) ⟨wq.heap.size, 0, none⟩ (P, true) rfl (item_new _ _ _) (by omega) (by simp; omega) ?_; intro v' w1 hrow hgr)
            have HR3 : Hid (TRow w.heap.size w1 v' (out ++ [(P, true)])) := hrow
            have HK3 : Hid (Same w w1) := hid (Kept.grown (HK2.out.alloc _) hgr (fun k e => .inr (HR2.out.ge e)))
            clear hrow hgr HR2 HK2
            go_wp2_with fail
            go_roundg (gk0 - 1)
            case measure => have := HG.out; omega
            case rel => exact ⟨i + 2, j + 1, r, o + r, out ++ [(P, true)], by omega, by omega, by omega, hid (fun _ => rfl), rfl, by go_num, hid ⟨HF2.out, by have := HF0.out; omega, by have := HF0.out; omega⟩, HR3, HK3⟩
        · have hrm2 : r = m := by omega
          have hd : (wsOf ns).drop r = [] := List.drop_eq_nil_of_le (by rw [wsOf_length]; have := HMM.out; omega)
          have HF2 : Hid (out ++ [(P, true)] ++ mg ((wsOf ns).drop r) (ps.drop (j + 1)) = tot) := hid (by
            have h1 := HF.out
            rw [hd, mg_none] at h1
            rw [hd]
            simpa using h1)
          have hmr : m - r = 0 := by omega
          clear hd hrm2
          go_wp2_with fail
          go_quiet (fail)
          have HR2 : Hid (TRow w.heap.size (wr.drewN nq) u5 out) := HR
          have HK2 : Hid (Same w (wr.drewN nq)) := hid (HK.out.drewN nq)
          have hsz' : w.heap.size ≤ (wr.drewN nq).heap.size := hsz
          clear HR HK hsz
          generalize wr.drewN nq = wq at HR2 HK2 hsz'
          go_wp2_with (at_builtin; refine wpList_append_item _ w.heap.size rfl (.tmp 55) (.tmp 58) rfl u5 out rfl (World.ownsRow.alloc HR2.out _) ⟨wq.heap.size, 0, none⟩ (P, true) rfl (item_new _ _ _) (by omega) (by simp; omega) ?_; intro v' w1 hrow hgr)
          have HR3 : Hid (TRow w.heap.size w1 v' (out ++ [(P, true)])) := hrow
          have HK3 : Hid (Same w w1) := hid (Kept.grown (HK2.out.alloc _) hgr (fun k e => .inr (HR2.out.ge e)))
          clear hrow hgr HR2 HK2
          go_wp2_with fail
          go_roundg (gk0 - 1)
          case measure => have := HG.out; omega
          case rel => exact ⟨i + 2, j + 1, r, _, out ++ [(P, true)], by omega, by omega, by omega, HPX, by rw [hmr], by go_num, hid ⟨HF2.out, by have := HF0.out; omega, by have := HF0.out; omega⟩, HR3, HK3⟩
    · have hdn : ps.drop j = [] := List.drop_eq_nil_of_le (by have := HPS.out.2; have := HIL.out; have := HF.out; omega)
      have HF1 : Hid (out ++ mg ((wsOf ns).drop r) [] = tot) := hid (by have h := HF.out.1; rw [hdn] at h; exact h)
      clear hdn HF
      go_wp2_with fail
      go_loopg [5, 62] (m - r) (fun q z5 zk wx => ∃ (k : Nat) (out : List (Nat × Bool)), m - r - k ≤ q ∧ k ≤ m - r ∧ zk = .int .i64 (k : Nat) ∧ Hid (out ++ mg ((wsOf ns).drop (r + k)) [] = tot) ∧ Hid (TRow w.heap.size wx z5 out) ∧ Hid (Same w wx))
      case atStart => exact ⟨0, out, by omega, by omega, rfl, HF1, HR, HK⟩
      case round =>
        clear HF1 HR HK
        obtain ⟨k, out, hq2, hk, rfl, HF, HR, HK⟩ := hrel
        have hout : out.length ≤ 800 := by have h1 := HF.out; have h2 := HTOT.out.2; rw [← h1] at h2; simp at h2; omega
        have hsz := HK.out.size
        by_cases hrm : k < m - r
        · have hpx := HPX.out (by omega)
          subst hpx
          have hrl : r + k < (ris ns).length := by have := HMM.out; omega
          have hbx := HB.out.same HK.out
          obtain ⟨b2, o2, cap2, e2, _, _, c3⟩ := hbx.su.get (r + k) hrl
          simp only [Value.slice.injEq, Option.some.injEq, Addr.mk.injEq, and_true] at e2
          obtain ⟨⟨rfl, rfl⟩, hxe, rfl⟩ := e2
          clear hxe
          obtain ⟨s, hs⟩ : ∃ s, s = (ris ns)[r + k] := ⟨_, rfl⟩
          have hsr : s < ns.length ∧ key ns s ≠ 0 := mem_ris.1 (by rw [hs]; exact List.getElem_mem _)
          rw [← hs] at c3
          obtain ⟨b3, o3, cap3, e3, _, _, c4⟩ := hbx.sc.get s hsr.1
          simp only [Value.slice.injEq, Option.some.injEq, Addr.mk.injEq, and_true] at e3
          obtain ⟨⟨rfl, rfl⟩, hxe, rfl⟩ := e3
          clear hxe
          rw [← key_get hsr.1] at c4
          obtain ⟨y, hy⟩ : ∃ y, y = key ns s := ⟨_, rfl⟩
          rw [← hy] at c4
          unfold natV at c3 c4
          rw [← Nat.add_assoc] at c3
          have cb := hbx.cc
          have hyl : y ≤ 1000000000000 := by rw [hy, key_get hsr.1]; exact HKK.out _ (List.getElem_mem _)
          have HF2 : Hid (out ++ [(y, false)] ++ mg ((wsOf ns).drop (r + (k + 1))) [] = tot) := hid (by
            have h1 := HF.out
            rw [wsOf_drop ns (r + k) hrl, ← hs, ← hy, mg_nil, List.map_cons, ← mg_nil] at h1
            rw [← Nat.add_assoc]
            simpa using h1)
          have hsn := hsr.1
          clear hs hsr hy hbx
          go_wp2_with (at_builtin; refine wpList_append_item _ w.heap.size rfl (.tmp 66) (.tmp 72) rfl u5 out rfl (World.ownsRow.alloc HR.out _) ⟨wr.heap.size, 0, none⟩ (y, false) rfl (item_new _ _ _) (by omega) (by simp; omega) ?_; intro v' w1 hrow hgr)
          have HR3 : Hid (TRow w.heap.size w1 v' (out ++ [(y, false)])) := hrow
          have HK3 : Hid (Same w w1) := hid (Kept.grown (HK.out.alloc _) hgr (fun k e => .inr (HR.out.ge e)))
          clear hrow hgr HR HK
          go_wp2_with fail
          go_roundg (gk - 1)
          case measure => omega
          case rel => exact ⟨k + 1, out ++ [(y, false)], by omega, by omega, by go_num, HF2, HR3, HK3⟩
        · have hk2 : k = m - r := by omega
          subst hk2
          have he : out = tot := by
            have h1 := HF.out
            rw [List.drop_eq_nil_of_le (by rw [wsOf_length]; have := HMM.out; omega), mg_nil] at h1
            simpa using h1
          have HE : Hid (out = tot) := he
          clear he
          go_wp2_with fail
          go_ret
          exact ⟨_, rfl, by rw [← HE.out]; exact HR.out, HK.out⟩

end Go.Proofs.YtofhlnpbflkdlaaDoor

/-
  levels: a row of levels.
-/
namespace Go.Proofs.YtofhlnpbflkdlaaDoor
open Go.RowKit

theorem Tryd.infoL : (Tryd.prog.info? 128).map (fun i => (i.zero, i.size, i.bytes)) = some (some (slV (none, 0, 0)), 1, 24) := by kernel_rfl

abbrev LRow (B : Nat) := RowE B 128 slV

theorem lev_weight (ws : List Nat) (M : Nat) (h : ∀ x ∈ ws, x ≤ M) (t : Nat) : ∀ x ∈ lev ws t, x.1 ≤ 2 ^ t * M := by
  induction t with
  | zero =>
    intro x hx
    simp [lev, mg_nil] at hx
    obtain ⟨a, ha, rfl⟩ := hx
    simpa using h a ha
  | succ t ih =>
    intro x hx
    have hx1 : x.1 ∈ (mg ws (pairW ((lev ws t).map (·.1)))).map (·.1) := List.mem_map.2 ⟨x, hx, rfl⟩
    have h1 : 1 * M ≤ 2 ^ (t + 1) * M := Nat.mul_le_mul_right _ (Nat.two_pow_pos _)
    rcases List.mem_append.1 ((mg_perm _ _).mem_iff.1 hx1) with h2 | h2
    · have := h _ h2; omega
    · obtain ⟨k, hk, e⟩ := List.getElem_of_mem h2
      have hl := pairW_length ((lev ws t).map (·.1))
      rw [List.length_map] at hl
      rw [pairW_get _ _ hk] at e
      have a1 := ih _ (List.getElem_mem (show 2 * k < (lev ws t).length by omega))
      have a2 := ih _ (List.getElem_mem (show 2 * k + 1 < (lev ws t).length by omega))
      simp only [List.getElem_map] at e
      have e2 : 2 ^ (t + 1) * M = 2 ^ t * M + 2 ^ t * M := by rw [Nat.pow_succ, Nat.mul_assoc, Nat.mul_comm 2 M, ← Nat.mul_assoc]; omega
      omega

theorem lev_ok (ns : List Nat) (hk : ∀ n ∈ ns, n ≤ 1000000000000) (t : Nat) (ht : t ≤ 15) : ∀ x ∈ lev (wsOf ns) t, x.1 ≤ 40000000000000000 := by
  intro x hx
  have h1 := lev_weight (wsOf ns) 1000000000000 (by
    intro y hy
    obtain ⟨s, hs, rfl⟩ := List.mem_map.1 hy
    have := (mem_ris.1 hs).1
    rw [key_get this]; exact hk _ (List.getElem_mem _)) t x hx
  have h2 : 2 ^ t ≤ 2 ^ 15 := Nat.pow_le_pow_right (by omega) ht
  have h3 : (2 : Nat) ^ 15 = 32768 := by decide
  have h4 : 2 ^ t * 1000000000000 ≤ 32768 * 1000000000000 := Nat.mul_le_mul_right _ (by omega)
  omega

/-- The levels that lie in a row of slices. -/
def Levs (B : Nat) (w : World) (ns : List Nat) (vs : List (Option Addr × Nat × Nat)) : Prop := ∀ t (h : t < vs.length), TRow B w (slV vs[t]) (lev (wsOf ns) t)

theorem Levs.kept {F : Nat → Prop} {B : Nat} {w w' : World} {ns : List Nat} {vs : List (Option Addr × Nat × Nat)} (h : Levs B w ns vs) (hk : Kept F w w') (hF : ∀ k, B ≤ k → k < w.heap.size → ¬ F k) : Levs B w' ns vs :=
  fun t ht => (h t ht).kept hk (fun k e => hF k ((h t ht).ge e) ((h t ht).lt e))

/-- Rows of unlike types lie apart. -/
theorem TRow.apart {B B' : Nat} {w : World} {v v' : Value} {its : List (Nat × Bool)} {vs : List (Option Addr × Nat × Nat)} (h : TRow B w v its) (h' : LRow B' w v' vs) {j g : Nat} (hj : v.ownBlock = some j) (hg : v'.ownBlock = some g) : j ≠ g := by
  rintro rfl
  rcases h.2 with ⟨rfl, _⟩ | ⟨g1, c1, cur1, rfl, _, e1, _⟩
  · simp [Value.ownBlock] at hj
  · rcases h'.2 with ⟨rfl, _⟩ | ⟨g2, c2, cur2, rfl, _, e2, _⟩
    · simp [Value.ownBlock] at hg
    · simp [Value.ownBlock] at hj hg
      subst hj hg
      rw [e1] at e2
      simp at e2

set_option maxHeartbeats 2000000 in
theorem levels_any (w : World) (vu vc : Value) (I : Nat → Prop) (ns : List Nat) (most : Nat) (hu : SrcE natV w I vu (ris ns)) (hc : SrcE natV w I vc ns) (hne : ris ns ≠ []) (hns : ns.length ≤ 288) (hk : ∀ n ∈ ns, n ≤ 1000000000000) (hm1 : 1 ≤ most) (hm : most ≤ 15) :
    Calls Tryd.prog 77 #[vc, vu, .int .i64 (most : Nat)] w fun e w' => (∃ g cap vs, e = .returned (.slice (some ⟨g, 0, none⟩) most cap) ∧ LRow w.heap.size w' (.slice (some ⟨g, 0, none⟩) most cap) vs ∧ Levs w.heap.size w' ns vs ∧ most ≤ cap) ∧ Same w w' := by
  obtain ⟨au, capu, hvu, hx1, hx2⟩ := id hu
  obtain ⟨ac, capc, hvc, hx3, hx4⟩ := id hc
  clear hx1 hx2 hx3 hx4
  obtain ⟨nu, hnu⟩ : ∃ nu, nu = (ris ns).length := ⟨_, rfl⟩
  obtain ⟨nc, hnc⟩ : ∃ nc, nc = ns.length := ⟨_, rfl⟩
  rw [← hnu] at hvu
  rw [← hnc] at hvc
  subst hvu hvc
  clear hnu hnc
  generalize hVU : Value.slice au nu capu = vu at *
  generalize hVC : Value.slice ac nc capc = vc at *
  have hk0 : Same w ((w.alloc (.cells #[vc] 22)).alloc (.cells #[vu] 22)) := ((Kept.refl _ w).alloc _).alloc _
  have hz : (w.alloc (.cells #[vc] 22)).heap.size = w.heap.size + 1 := by simp
  obtain ⟨w1, hw1⟩ : ∃ w1, w1 = (w.alloc (.cells #[vc] 22)).alloc (.cells #[vu] 22) := ⟨_, rfl⟩
  have hz1 : w.heap.size + 2 ≤ w1.heap.size := by rw [hw1]; simp
  have HB : Hid (Box2 w1 (w.heap.size + 1) w.heap.size vu vc I ns) := hid (by
    rw [hw1]
    refine ⟨?_, ?_, hu.same hk0, hc.same hk0⟩
    · rw [← hz]; simp
    · simp)
  have HK0 : Hid (Same w w1) := hid (by rw [hw1]; exact hk0)
  have HM := fun wx (h : Same w1 wx) => fun (its : List (Nat × Bool)) (v : Value) => fun (hr : TRow 0 wx v its) (h1 : its.length ≤ 1000) (h2 : ∀ x ∈ its, x.1 ≤ 40000000000000000) => merge_any wx 0 _ _ vu vc I ns its v (HB.out.same h) hne hns hr h1 h2 hk
  have HMM : Hid (∀ wx, Same w1 wx → ∀ (its : List (Nat × Bool)) (v : Value), TRow 0 wx v its → its.length ≤ 1000 → (∀ x ∈ its, x.1 ≤ 40000000000000000) → Calls Tryd.prog 90 #[v, .pointer (some ⟨w.heap.size + 1, 0, none⟩), .pointer (some ⟨w.heap.size, 0, none⟩)] wx fun e w' => ∃ v', e = .returned v' ∧ TRow wx.heap.size w' v' (mg (wsOf ns) (pairW (its.map (·.1)))) ∧ Same wx w') := HM
  have HLEN : Hid (∀ t, (lev (wsOf ns) t).length ≤ 1000) := hid (fun t => by
    have h1 := (lev_length (wsOf ns) t).2
    have h2 := ris_length ns
    rw [wsOf_length] at h1
    omega)
  have HOK : Hid (∀ t, t ≤ 15 → ∀ x ∈ lev (wsOf ns) t, x.1 ≤ 40000000000000000) := hid (fun t ht => lev_ok ns hk t ht)
  clear hk0 HM hu hc hk hz
  have HC0 := HMM.out w1 (Kept.refl _ _) [] (.slice none 0 0) TRow.nil (by simp) (by simp)
  subst hVU hVC
  go_enter Tryd.func77, Tryd.ntmps77
  go_wp2_with fail
  rw [← hw1]
  clear hw1
  refine HC0.mono ?_
  rintro e w2 ⟨v2, rfl, hr2, hk2⟩
  obtain ⟨a2, c2, hv2, _, _⟩ := hr2.shape
  subst hv2
  have HR2 : Hid (TRow w.heap.size w2 (.slice a2 (mg (wsOf ns) (pairW (List.map (fun x : Nat × Bool => x.1) []))).length c2) (lev (wsOf ns) 0)) := hid (by
    refine ⟨hr2.1, ?_⟩
    rcases hr2.2 with h | ⟨g, cap, cur, e, hb, rest⟩
    · exact .inl h
    · exact .inr ⟨g, cap, cur, e, by omega, rest⟩)
  have HK2 : Hid (Same w1 w2) := hk2
  have hsz2 := hk2.size
  clear hr2 hk2 HC0
  generalize (mg (wsOf ns) (pairW (List.map (fun x : Nat × Bool => x.1) []))).length = n2 at HR2 ⊢
  go_wp2_with fail
  go_loopg [8] most (fun q z wr => ∃ (k cap g : Nat) (vs : List (Option Addr × Nat × Nat)), most - k ≤ q ∧ 1 ≤ k ∧ k ≤ most ∧ k ≤ cap ∧ z = .slice (some ⟨g, 0, none⟩) k cap ∧ Hid (LRow w1.heap.size wr (.slice (some ⟨g, 0, none⟩) k cap) vs) ∧ Hid (Levs w.heap.size wr ns vs) ∧ Hid (Same w1 wr))
  case atStart =>
    have hk3 : Same w2 (w2.alloc (.cells #[.slice a2 n2 c2] 128)) := (Kept.refl _ w2).alloc _
    have hrow : LRow w1.heap.size (w2.alloc (.cells #[.slice a2 n2 c2] 128)) (.slice (some ⟨w2.heap.size, 0, none⟩) 1 1) [(a2, n2, c2)] :=
      ⟨rfl, .inr ⟨w2.heap.size, 1, #[.slice a2 n2 c2], rfl, hsz2, heap_alloc_new w2 _, Nat.le_refl _, by simp only [maxLen]; omega, rfl, rfl⟩⟩
    refine ⟨1, 1, w2.heap.size, [(a2, n2, c2)], by omega, by omega, by omega, by omega, rfl, hrow, ?_, Same.trans HK2.out hk3⟩
    refine hid (fun t ht => ?_)
    have : t = 0 := by simpa using ht
    subst this
    exact TRow.kept HR2.out hk3 (fun _ _ h => h)
  case round =>
    obtain ⟨k, cap, g, vs, hq, hk1, hkm, hkc, rfl, HR, HL, HK⟩ := hrel
    clear HR2 HK2
    have hvl : vs.length = k := HR.out.len
    by_cases hlt : k < most
    · have hlast : k - 1 < vs.length := by omega
      obtain ⟨la, ln, lc, hl⟩ : ∃ la ln lc, vs[k - 1] = (la, ln, lc) := ⟨_, _, _, rfl⟩
      have cl : wr.cell? ⟨g, k - 1, none⟩ = some (.slice la ln lc) := by rw [HR.out.cell (k - 1) hlast, hl]; rfl
      have htr : TRow 0 wr (.slice la ln lc) (lev (wsOf ns) (k - 1)) := by
        have h := HL.out (k - 1) hlast
        rw [hl] at h
        refine ⟨h.1, ?_⟩
        rcases h.2 with h | ⟨g, cap, cur, e, hb, rest⟩
        · exact .inl h
        · exact .inr ⟨g, cap, cur, e, Nat.zero_le _, rest⟩
      have HC := HMM.out wr HK.out _ _ htr (HLEN.out _) (HOK.out _ (by omega))
      have hsub : ((k : Int) - 1) = ((k - 1 : Nat) : Int) := by omega
      have hvle : vs.length ≤ 15 := by omega
      have HVL : Hid (vs.length = k) := hvl
      clear htr hl hlast hvl
      go_wp2_with fail
      refine HC.mono ?_
      rintro e w3 ⟨v3, rfl, hr3, hk3⟩
      obtain ⟨a3, c3, hv3, _, _⟩ := hr3.shape
      subst hv3
      have e3 : mg (wsOf ns) (pairW ((lev (wsOf ns) (k - 1)).map (·.1))) = lev (wsOf ns) k := by
        conv => rhs; rw [show k = (k - 1) + 1 by omega]
        rfl
      rw [e3] at hr3 ⊢
      have hs3 := hk3.size
      have hs1 := HK.out.size
      have HR3 : Hid (TRow wr.heap.size w3 (.slice a3 (lev (wsOf ns) k).length c3) (lev (wsOf ns) k)) := hr3
      have HK3 : Hid (Same wr w3) := hk3
      have HRo : Hid (LRow w1.heap.size w3 (.slice (some ⟨g, 0, none⟩) k cap) vs) := hid (HR.out.same hk3)
      have HLo : Hid (Levs w.heap.size w3 ns vs) := hid (HL.out.kept hk3 (fun _ _ _ h => h))
      have hgl : g < wr.heap.size := HR.out.lt rfl
      clear hr3 hk3 e3 HC HR HL cl
      generalize (lev (wsOf ns) k).length = n3 at *
      go_wp2_with (at_builtin; refine wpList_append_e _ slV slV_one w1.heap.size 112 128 (slV (none, 0, 0)) 24 Tryd.underlying112 Tryd.infoL rfl (by decide) rfl (.tmp 17) (.tmp 26) rfl (.slice (some ⟨g, 0, none⟩) k cap) vs rfl (World.ownsRow.alloc HRo.out _) ⟨w3.heap.size, 0, none⟩ 1 1 [(a3, n3, c3)] rfl rfl (cellsAt_new _ _ _) (by simp; omega) (by simp; omega) ?_; intro v' w4 hrow hgr)
      obtain ⟨g4, cap4, hv4, hg4, hg4l, hc4⟩ := RowE.some hrow (by simp)
      rw [show (vs ++ [(a3, n3, c3)]).length = k + 1 by simp [HVL.out]] at hv4 hc4
      subst hv4
      have hkg : Kept (· = g) w3 w4 := Kept.grown ((Kept.refl _ w3).alloc _) hgr (fun j e => by simp [Value.ownBlock] at e; exact .inl e.symm)
      have hgb : w1.heap.size ≤ g := HRo.out.ge rfl
      have HR5 : Hid (LRow w1.heap.size w4 (.slice (some ⟨g4, 0, none⟩) (k + 1) cap4) (vs ++ [(a3, n3, c3)])) := hrow
      have HK5 : Hid (Same w1 w4) := hid (Same.then (Same.trans HK.out HK3.out) hkg (fun x hx e => by omega))
      have HL5 : Hid (Levs w.heap.size w4 ns (vs ++ [(a3, n3, c3)])) := hid (by
        intro t ht
        by_cases h : t < vs.length
        · rw [List.getElem_append_left h]
          exact TRow.kept (HLo.out t h) hkg (fun j hj e => TRow.apart (HLo.out t h) HRo.out hj (g := g) rfl e)
        · have htk : t = k := by rw [List.length_append] at ht; simp at ht; have := HVL.out; omega
          rw [List.getElem_append_right (by omega)]
          subst htk
          simp only [HVL.out, Nat.sub_self, List.getElem_cons_zero]
          have h3 := TRow.kept HR3.out hkg (fun j hj e => TRow.apart HR3.out HRo.out hj (g := g) rfl e)
          refine ⟨h3.1, ?_⟩
          rcases h3.2 with h | ⟨g, cap, cur, e, hb, rest⟩
          · exact .inl h
          · exact .inr ⟨g, cap, cur, e, by omega, rest⟩)
      clear hrow hgr hkg HRo HLo HR3
      go_wp2_with fail
      go_roundg (gk - 1)
      case measure => omega
      case rel => exact ⟨k + 1, cap4, g4, vs ++ [(a3, n3, c3)], by omega, by omega, by omega, hc4, rfl, HR5, HL5, HK5⟩
    · have hk2 : k = most := by omega
      subst hk2
      go_wp2_with fail
      go_ret
      exact ⟨⟨g, cap, vs, rfl, RowE.base HR.out (by omega), HL.out, hkc⟩, Same.trans HK0.out HK.out⟩

end Go.Proofs.YtofhlnpbflkdlaaDoor

/-
  A range over a function whose rounds come in a known order; slices.Backward over a row of levels.
-/
namespace Go.Proofs.YtofhlnpbflkdlaaDoor
open Go.RowKit Go.Shelf

attribute [local go_sem] Oper.semAt_some

/-- How a round ends: as it should, with the counter one further. -/
def roundEnds (B : Nat) (Kp : World → World → Prop) (I : Nat → World → Prop) (k : Nat) (W : World) (e : Exit) (_ : Act) (W' : World) : Prop :=
  e = .normal ∧ KeepsFrom B W W' ∧ Kp W W' ∧ I (k + 1) W'

/-- N rounds, each with values that are known ahead; none is left early. -/
theorem range_each {F : Fence} {n : Nat} {P : Program} {g : Operand} {ps : Array Tmp} {assign body : Code} {Q : Exit → Act → World → Prop} {a : Act} {w : World} (hro : F.round = none) (h1 : 1 ≤ n) {gf : Nat} {lb : Array Value}
    (hg : a.eval g = .func (.func gf) #[] lb) (hFg : F.fn gf) (eg : ∀ args w, (callFunc gf args).run P w = .ok (.enter gf args) w) (N : Nat) (vals : Nat → Array Value) (hps : ∀ k, (vals k).size = ps.size) (Kp : World → World → Prop)
    (hKt : ∀ {A B C : World}, Kp A B → Kp B C → Kp A C) (hKb : ∀ (W : World) (l : Nat) (o : Obj), w.heap.size ≤ l → Kp W (W.putObj l o)) (I : Nat → World → Prop) (hI : OwnFrom w.heap.size I) (h0 : I 0 w) (a₁ : Nat → Act)
    (hseq : ∀ (l : Nat) (J : Nat → World → Prop) (W : World), Below w.heap.size w W → (∀ k W1, k < N → J k W1 → YieldAt F (n - 1 - 1) P l (vals k) W1 fun e W' => e = .returned (.bool true) ∧ J (k + 1) W' ∧ Kp W1 W') → J 0 W →
      CallsIn F (n - 1) P gf (#[.func (.yield l) #[] #[]] ++ lb) W fun e W' => (∃ v, e = .returned v) ∧ J N W')
    (hassign : ∀ (l k : Nat) (W : World) (K : Act → World → Prop), k < N → K (a₁ k) W → assign.wpIn (F.inRound l) (n - 1 - 1) P (Exit.then K (fun _ _ _ => False)) { tmps := (ps.zip (vals k)).foldl (fun t (p, v) => t.setIfInBounds p v) a.tmps, defers := [] } W)
    (hbody : ∀ (l k : Nat) (W : World), k < N → I k W → body.wpIn (F.inRound l) (n - 1 - 1) P (roundEnds w.heap.size Kp I k W) (a₁ k) W)
    (hdone : ∀ (D : Nat) (W : World), w.heap.size ≤ D → I N W → W.heap[D]? = some (.deferred (some [])) → Q .normal { a with defers := { target := .collected D, args := #[] } :: a.defers } W) :
    (Code.rangeFunc g ps assign body).wpIn F n P Q a w := by
  refine wpIn_rangeFunc (fun fn hfn => ?_)
  rw [hro]
  -- the two objects that the statement lays: the deferred calls at D, the record at D + 1
  let R : LoopState → Loop := fun st => { state := st, pending := none, fn := fn, tmps := a.tmps, params := ps, assign := assign, body := body, defers := w.heap.size }
  let w1 : World := (w.alloc (.deferred (some []))).alloc (.loop (R .ready))
  let Book : World → Prop := fun W => W.heap[w.heap.size + 1]? = some (.loop (R .ready)) ∧ W.heap[w.heap.size]? = some (.deferred (some []))
  have hbook : Book w1 := by
    constructor
    · have := World.alloc_heap_new (w.alloc (.deferred (some []))) (.loop (R .ready))
      rw [World.size_alloc] at this
      exact this
    · exact (Below.heap_alloc (w.alloc (.deferred (some []))) _ _ (by simp)).trans (World.alloc_heap_new w _)
  have hbel : Below w.heap.size w w1 := ((Below.refl _ w).alloc (Nat.le_refl _) _).alloc (by simp) _
  refine ⟨w.heap.size + 1, [{ target := .collected w.heap.size, args := #[] }], w1, { target := .fn (.func gf) lb, args := #[.func (.yield (w.heap.size + 1)) #[] #[]] }, w1, gf, #[.func (.yield (w.heap.size + 1)) #[] #[]] ++ lb, w1,
    run_enterLoop_outer fn a.tmps ps assign body, ?_, ?_, ?_, fun _ => h1, ?_⟩
  · simp only [resolve, hg]; simp [go_sem]
  · intro f' hf'
    simp [Target.leads] at hf'
    subst hf'
    exact hFg
  · simp [invoke, go_sem, eg]
  refine (hseq (w.heap.size + 1) (fun k W => I k W ∧ Book W) w1 hbel ?_ ⟨hI.alloc _ (hI.alloc _ h0), hbook⟩).mono ?_
  · rintro k W hk ⟨hi, hl, hd⟩
    have hlt : w.heap.size + 1 < W.heap.size := (Array.getElem?_eq_some_iff.1 hl).1
    refine ⟨fn, _, assign, body, run_yield (P := P) (args := vals k) hl (hps k), roundIn_of_wpIn hfn (hassign _ k W _ hk ⟨_, run_beginRound hl rfl, ?_⟩)⟩
    have hl2 : (W.putObj (w.heap.size + 1) (.loop (R .busy))).heap[w.heap.size + 1]? = some (.loop (R .busy)) := World.putObj_heap_same hlt
    have hd2 : (W.putObj (w.heap.size + 1) (.loop (R .busy))).heap[w.heap.size]? = some (.deferred (some [])) := (World.putObj_heap_other (by omega)).trans hd
    refine wpIn_mono (hbody _ k _ hk (hI.putObj (.loop (R .busy)) hi (by omega) hl rfl)) ?_
    rintro e a3 w3 ⟨rfl, hkf, hkp, hi3⟩
    have hl3 := hkf.same _ _ (by omega) hl2 rfl
    have hd3 := hkf.same _ _ (Nat.le_refl _) hd2 rfl
    have hlt3 : w.heap.size + 1 < w3.heap.size := (Array.getElem?_eq_some_iff.1 hl3).1
    refine ⟨_, _, run_endRound (P := P) none hl3, rfl, ⟨hI.putObj _ hi3 (by omega) hl3 rfl, World.putObj_heap_same hlt3, (World.putObj_heap_other (by omega)).trans hd3⟩, ?_⟩
    exact hKt (hKt (hKb W _ _ (by omega)) hkp) (hKb w3 _ _ (by omega))
  · rintro e w2 ⟨⟨v, rfl⟩, hi, hl, hd⟩
    refine ⟨none, _, run_endLoop (P := P) hl (by simp [R]), ?_⟩
    exact hdone _ _ (Nat.le_refl _) (hI.putObj _ hi (by omega) hl rfl) ((World.putObj_heap_other (by omega)).trans hd)

/-- What the rounds keep: the box of the row of levels, and the row. -/
def Keep2 (b1 b2 : Nat) (W W' : World) : Prop := W'.heap[b1]? = W.heap[b1]? ∧ W'.heap[b2]? = W.heap[b2]?

theorem Keep2.trans {b1 b2 : Nat} {A B C : World} (h : Keep2 b1 b2 A B) (k : Keep2 b1 b2 B C) : Keep2 b1 b2 A C := ⟨k.1.trans h.1, k.2.trans h.2⟩

/-- The values of round k. -/
def levVals (vs : List (Option Addr × Nat × Nat)) (k : Nat) : Array Value := #[.int .i64 ((vs.length - 1 - k : Nat) : Int), slV (vs.getD (vs.length - 1 - k) (none, 0, 0))]

set_option maxRecDepth 100000 in
set_option maxHeartbeats 2000000 in
theorem lback1_in (F : Fence) (n : Nat) (h7 : F.fn 96) (hro : F.round = none) (hn : 1 ≤ n) (l Bs g cap : Nat) (vs : List (Option Addr × Nat × Nat)) (hlen : vs.length ≤ 1000) (J : Nat → World → Prop)
    (hY : ∀ k W1, k < vs.length → J k W1 → YieldAt F (n - 1) Tryd.prog l (levVals vs k) W1 fun e W' => e = .returned (.bool true) ∧ J (k + 1) W' ∧ Keep2 Bs g W1 W')
    (W : World) (hBs : W.cell? ⟨Bs, 0, none⟩ = some (.slice (some ⟨g, 0, none⟩) vs.length cap)) (hc : ∀ j (_ : j < vs.length), W.cell? ⟨g, j, none⟩ = some (slV vs[j])) (h0 : J 0 W) :
    CallsIn F n Tryd.prog 96 #[.func (.yield l) #[] #[], .pointer (some ⟨Bs, 0, none⟩)] W fun e W' => (∃ v, e = .returned v) ∧ J vs.length W' := by
  refine callsIn_of_wp Tryd.func96 rfl h7 ?_ hro
  simp only [Tryd.ntmps96, List.size_toArray, List.length_cons, List.length_nil, Nat.reduceAdd, Nat.reduceSub, Array.replicate_succ, Array.replicate_zero, List.push_toArray, List.append_toArray, List.nil_append, List.cons_append]
  gi_wp2
  gi_loopw [3] (fun i wr => ∃ k : Nat, k ≤ vs.length ∧ i = .int .i64 ((vs.length : Int) - 1 - k) ∧ J k wr ∧ Keep2 Bs g W wr)
    (fun i _ => (intOf i + 1).toNat)
  case atStart => exact ⟨0, Nat.zero_le _, by simp, h0, rfl, rfl⟩
  case round =>
    obtain ⟨k, hk, rfl, hJs, hnx⟩ := hrel
    have hbs := (World.cell?_of_block (a := ⟨Bs, 0, none⟩) hnx.1).trans hBs
    by_cases hlt : k < vs.length
    · obtain ⟨m, hm⟩ : ∃ m, m = vs.length - 1 - k := ⟨_, rfl⟩
      have hm2 : (vs.length : Int) - 1 - k = (m : Nat) := by omega
      have hml : m < vs.length := by omega
      obtain ⟨fn, tmps, assign, body, hy, hR⟩ := hY k wr hlt hJs
      obtain ⟨xa, xn, xc, hx⟩ : ∃ xa xn xc, vs[m] = (xa, xn, xc) := ⟨_, _, _, rfl⟩
      have hcx : wr.cell? ⟨g, m, none⟩ = some (.slice xa xn xc) := by
        have := (World.cell?_of_block (a := ⟨g, m, none⟩) hnx.2).trans (hc m hml)
        rw [hx] at this
        exact this
      have hval : levVals vs k = #[.int .i64 (m : Int), .slice xa xn xc] := by
        unfold levVals
        rw [← hm]
        simp [List.getD, hml, hx, slV]
      rw [hval] at hy
      rw [hm2]
      have HM : Hid (m = vs.length - 1 - k) := hm
      clear hm hm2 hval hx
      gi_wp2
      refine hR.mono ?_
      rintro e W3 ⟨rfl, hJ3, hk3⟩
      gi_wp2
      go_roundw
      case rel => exact ⟨k + 1, by omega, by have := HM.out; simp; omega, hJ3, hnx.trans hk3⟩
      case measure => simp [intOf]
    · obtain rfl : k = vs.length := by omega
      gi_wp2
      go_end0
      exact ⟨⟨_, rfl⟩, hJs⟩

set_option maxHeartbeats 1000000 in
theorem lbackward_in (F : Fence) (n : Nat) (h5 : F.fn 89) (hro : F.round = none) (a : Option Addr) (len cap : Nat) (w : World) :
    CallsIn F n Tryd.prog 89 #[.slice a len cap] w fun e w' => e = .returned (.func (.func 96) #[] #[.pointer (some ⟨w.heap.size, 0, none⟩)]) ∧ w' = w.alloc (.cells #[.slice a len cap] 112) := by
  refine callsIn_of_wp Tryd.func89 rfl h5 ?_ hro
  simp only [Tryd.ntmps89, List.size_toArray, List.length_cons, List.length_nil, Nat.reduceAdd, Nat.reduceSub, Array.replicate_succ, Array.replicate_zero, List.push_toArray, List.append_toArray, List.nil_append, List.cons_append]
  gi_wp2
  go_ret
  exact ⟨rfl, rfl⟩

end Go.Proofs.YtofhlnpbflkdlaaDoor

/-
  lengthen: a bit for each level where a symbol is taken.
-/
namespace Go.Proofs.YtofhlnpbflkdlaaDoor
open Go.RowKit Go.Shelf

attribute [local go_sem] Oper.semAt_some

/-- A list of numbers, one for each symbol, told by the places of the used ones. -/
def outP (ns : List Nat) (p : Nat → Nat) : List Nat := (List.range ns.length).map (fun s => if key ns s = 0 then 0 else p ((ris ns).idxOf s))

theorem outP_length (ns : List Nat) (p : Nat → Nat) : (outP ns p).length = ns.length := by simp [outP]

theorem idx_ris (ns : List Nat) (j : Nat) (h : j < (ris ns).length) : (ris ns).idxOf (ris ns)[j] = j := (ris_nodup ns).idxOf_getElem j h

theorem outP_get (ns : List Nat) (p : Nat → Nat) (j : Nat) (h : j < (ris ns).length) (hl : (ris ns)[j] < (outP ns p).length) : (outP ns p)[(ris ns)[j]] = p j := by
  have h0 := (mem_ris.1 (List.getElem_mem h)).2
  simp only [outP, List.getElem_map, List.getElem_range]
  rw [if_neg h0, idx_ris ns j h]

theorem outP_set (ns : List Nat) (p : Nat → Nat) (j v : Nat) (h : j < (ris ns).length) : (outP ns p).set (ris ns)[j] v = outP ns (fun i => if i = j then v else p i) := by
  unfold outP
  refine List.ext_getElem (by simp) (fun s h1 h2 => ?_)
  simp only [List.getElem_set, List.getElem_map, List.getElem_range]
  have h0 := (mem_ris.1 (List.getElem_mem h)).2
  by_cases e : (ris ns)[j] = s
  · subst e
    rw [if_pos rfl, if_neg h0, idx_ris ns j h, if_pos rfl]
  · rw [if_neg e]
    by_cases hk : key ns s = 0
    · rw [if_pos hk, if_pos hk]
    · rw [if_neg hk, if_neg hk]
      have hm : s ∈ ris ns := mem_ris.2 ⟨by simpa using h2, hk⟩
      rw [if_neg]
      intro hi
      apply e
      have hlt : (ris ns).idxOf s < (ris ns).length := List.idxOf_lt_length_of_mem hm
      have := List.getElem_idxOf hlt
      simp only [hi] at this
      exact this

theorem outP_congr (ns : List Nat) (p q : Nat → Nat) (h : ∀ i, i < (ris ns).length → p i = q i) : outP ns p = outP ns q := by
  unfold outP
  refine List.map_congr_left (fun s hs => ?_)
  by_cases hk : key ns s = 0
  · rw [if_pos hk, if_pos hk]
  · rw [if_neg hk, if_neg hk]
    have hm : s ∈ ris ns := mem_ris.2 ⟨by simpa using hs, hk⟩
    exact h _ (List.idxOf_lt_length_of_mem hm)

theorem outP_zero (ns : List Nat) : outP ns (fun _ => 0) = List.replicate ns.length 0 := by
  unfold outP
  simp [List.map_const']

/-- Rows of ints lie apart from rows of items and of levels. -/
theorem NRow.apartT {B B' : Nat} {w : World} {v v' : Value} {its : List (Nat × Bool)} {xs : List Nat} (h : TRow B w v its) (h' : NRow B' w v' xs) {j g : Nat} (hj : v.ownBlock = some j) (hg : v'.ownBlock = some g) : j ≠ g := by
  rintro rfl
  rcases h.2 with ⟨rfl, _⟩ | ⟨g1, c1, cur1, rfl, _, e1, _⟩
  · simp [Value.ownBlock] at hj
  · rcases h'.2 with ⟨rfl, _⟩ | ⟨g2, c2, cur2, rfl, _, e2, _⟩
    · simp [Value.ownBlock] at hg
    · simp [Value.ownBlock] at hj hg
      subst hj hg
      rw [e1] at e2
      simp at e2

theorem NRow.apartL {B B' : Nat} {w : World} {v v' : Value} {vs : List (Option Addr × Nat × Nat)} {xs : List Nat} (h : LRow B w v vs) (h' : NRow B' w v' xs) {j g : Nat} (hj : v.ownBlock = some j) (hg : v'.ownBlock = some g) : j ≠ g := by
  rintro rfl
  rcases h.2 with ⟨rfl, _⟩ | ⟨g1, c1, cur1, rfl, _, e1, _⟩
  · simp [Value.ownBlock] at hj
  · rcases h'.2 with ⟨rfl, _⟩ | ⟨g2, c2, cur2, rfl, _, e2, _⟩
    · simp [Value.ownBlock] at hg
    · simp [Value.ownBlock] at hj hg
      subst hj hg
      rw [e1] at e2
      simp at e2

/-- What holds ahead of round k. -/
structure LI (ns : List Nat) (most : Nat) (w3 : World) (go bt n cn : Nat) (k : Nat) (W : World) (T : Nat) (p : Nat → Nat) : Prop where
  ct : W.cell? ⟨bt, 0, none⟩ = some (.int .i64 (T : Nat))
  ft : W.frozen? ⟨bt, 0, none⟩ = false
  row : NRow 0 W (.slice (some ⟨go, 0, none⟩) n cn) (outP ns p)
  kept : Kept (fun j => j = go ∨ j = bt) w3 W
  hT : T ≤ 600
  hp : ∀ i, p i ≤ k
  more : k < most → T ≤ (lev (wsOf ns) (most - 1 - k)).length ∧ ∀ i, p i + gain (wsOf ns) (most - 1 - k) T i = gain (wsOf ns) (most - 1) (2 * (wsOf ns).length - 2) i
  done : k = most → ∀ i, p i = gain (wsOf ns) (most - 1) (2 * (wsOf ns).length - 2) i

theorem LI.own (ns : List Nat) (most : Nat) (w3 : World) (go bt n cn : Nat) : OwnFrom w3.heap.size (fun k W => ∃ T p, LI ns most w3 go bt n cn k W T p) := by
  rintro k W W' row ⟨T, p, h⟩ hg hr
  have hcells : ∀ b v, W.cell? ⟨b, 0, none⟩ = some v → some b ≠ row := by
    intro b v hc e
    obtain ⟨_, o, ho, hoc⟩ := hr b e.symm
    simp only [World.cell?, ho] at hc
    cases o <;> simp_all [Obj.isCells]
  have hgo : some go ≠ row := by
    intro e
    obtain ⟨_, o, ho, hoc⟩ := hr go e.symm
    rcases h.row.2 with ⟨e1, _⟩ | ⟨g2, c2, cur2, e1, _, e2, _⟩
    · simp at e1
    · simp only [Value.slice.injEq, Option.some.injEq, Addr.mk.injEq, and_true] at e1
      obtain ⟨rfl, _⟩ := e1
      rw [ho] at e2
      simp at e2
      subst e2
      simp [Obj.isCells] at hoc
  have hbt := hcells bt _ h.ct
  have hbl : bt < W.heap.size := World.block_lt_of_cell? W _ h.ct
  refine ⟨T, p, ?_, ?_, World.ownsRow.kept h.row hg (.inr hgo), h.kept.grown hg (fun j e => .inr (hr j e).1), h.hT, h.hp, h.more, h.done⟩
  · exact hg.cell h.ct hbt
  · exact (World.frozen?_of_block (hg.block bt hbl hbt)).trans h.ft

end Go.Proofs.YtofhlnpbflkdlaaDoor
