/-
  The reference's Pack.
-/
import Derived.Test.YtofhlnpbflkdlaaDoorLnPackM
import Derived.Test.YtofhlnpbflkdlaaDoorLnRef
namespace Go.Proofs.YtofhlnpbflkdlaaDoor
open Go.RowKit

theorem packM_next (ns : List Nat) (i n : Nat) (hi : i < ns.length) (hn : n = 1 + frontN ns[i] (ns.drop (i + 1))) : packM (ns.drop i) = sayM ns[i] n ++ packM (ns.drop (i + n)) := by
  rw [List.drop_eq_getElem_cons hi, packM_cons, List.drop_drop, hn]
  congr 3
  omega

set_option maxRecDepth 100000 in
set_option maxHeartbeats 4000000 in
theorem pack_good (w : World) (v : Value) (I : Nat → Prop) (zs : List Int) (ns : List Nat) (hs : SrcE intV w I v zs) (hl : zs.length ≤ 316) (hok : lensOk zs = true) (hns : ns = zs.map Int.toNat) :
    Calls Tryd.prog 12 #[v] w fun e w' => ∃ v', e = .returned (.tuple #[v', .int .i64 0]) ∧ StRow w.heap.size w' v' (packM ns) ∧ Same w w' := by
  have hb := (lensOk_iff zs).1 hok
  have eN : ns.map natV = zs.map intV := by
    rw [hns, List.map_map]
    refine List.map_congr_left (fun z hz => ?_)
    simp only [Function.comp, natV, intV]
    rw [Int.toNat_of_nonneg (hb z hz).1]
  obtain ⟨ao, cap, rfl, hx1, hx2⟩ := id hs
  clear hx1 hx2
  have HLN := lengths_any w _ I zs hs (by omega)
  rw [hok] at HLN
  have HS : Hid (SrcE natV w I (.slice ao zs.length cap) ns) := hid (hs.recode eN)
  have hnl : zs.length = ns.length := by rw [hns]; simp
  obtain ⟨L, hL⟩ : ∃ L, L = zs.length := ⟨_, rfl⟩
  rw [← hL] at HLN HS hl ⊢
  have HL : Hid (L = ns.length) := hid (by omega)
  have H15 : Hid (∀ x ∈ ns, x ≤ 15) := hid (by
    intro x hx
    rw [hns] at hx
    obtain ⟨z, hz, rfl⟩ := List.mem_map.1 hx
    have := hb z hz
    omega)
  have b1 : decide ((316 : Int) < (L : Int)) = false := by simp; omega
  clear hs hb hok hns eN hnl hL
  go_enter Tryd.func12, Tryd.ntmps12
  go_wp2_with fail
  refine HLN.mono ?_
  rintro e w1 ⟨rfl, hw1⟩
  subst hw1
  clear HLN
  go_wp2_with fail
  clear b1
  go_loopg [4, 5] L (fun q zo zi wr => ∃ (i : Nat) (ss : List (Int × Int)), L - i ≤ q ∧ i ≤ L ∧ zi = .int .i64 (i : Nat) ∧ Hid (packM ns = ss ++ packM (ns.drop i) ∧ ss.length ≤ i) ∧ Hid (StRow w1.heap.size wr zo ss) ∧ Hid (Same w1 wr))
  case atStart => exact ⟨0, [], by omega, by omega, rfl, hid ⟨by simp, by simp⟩, RowC.nil, Kept.refl _ _⟩
  case round =>
    obtain ⟨i, ss, hq, hi, rfl, HP, HO, HK⟩ := hrel
    obtain ⟨gk0, hgk⟩ : ∃ x, x = gk := ⟨_, rfl⟩
    rw [← hgk] at hq
    have HG : Hid (gk0 = gk) := hgk
    clear hgk
    by_cases hlt : i < L
    · have hin : i < ns.length := by have := HL.out; omega
      obtain ⟨b, o, cap', e, _, _, cx⟩ := (HS.out.same HK.out).get i hin
      simp only [Value.slice.injEq] at e
      obtain ⟨rfl, hxe, rfl⟩ := e
      clear hxe
      obtain ⟨x, hx⟩ : ∃ x, x = ns[i] := ⟨_, rfl⟩
      rw [← hx] at cx
      unfold natV at cx
      have hx15 : x ≤ 15 := by rw [hx]; exact H15.out _ (List.getElem_mem _)
      have HX : Hid (x = ns[i]) := hx
      have HCX : Hid (wr.cell? ⟨b, o + i, none⟩ = some (.int .i64 (x : Nat))) := cx
      obtain ⟨w2, hw2⟩ : ∃ w2, w2 = wr := ⟨_, rfl⟩
      subst hw2
      clear hx cx
      go_wp2_with fail
      go_loopg [6] L (fun q zn wr => ∃ (n : Nat), L - (i + n) ≤ q ∧ 1 ≤ n ∧ i + n ≤ L ∧ zn = .int .i64 (n : Nat) ∧ Hid (∀ j (_ : j < ns.length), i < j → j < i + n → ns[j] = x) ∧ Hid (Same w2 wr))
      case atStart => exact ⟨1, by omega, by omega, by omega, rfl, hid (fun j _ h1 h2 => by omega), Kept.refl _ _⟩
      case round =>
        obtain ⟨n, hq2, hn1, hnL, rfl, HF, HK2⟩ := hrel
        have cx : wr.cell? ⟨b, o + i, none⟩ = some (.int .i64 (x : Nat)) := HK2.out.cell HCX.out (fun h => h)
        obtain ⟨m, hm⟩ : ∃ m, m = i + n := ⟨_, rfl⟩
        have hmI : (i : Int) + (n : Int) = (m : Int) := by omega
        have hwm : IntKind.i64.wrap (m : Int) = (m : Int) := by rw [IntKind.wrap_i64]; omega
        have HM : Hid (m = i + n) := hm
        -- the front is found: the rest, whatever ended it
        have done : (∀ h : m < ns.length, ns[m] ≠ x) → n = 1 + frontN ns[i] (ns.drop (i + 1)) := by
          intro hne
          have h := frontN_is ns[i] (ns.drop (i + 1)) (n - 1) (fun j hj hjn => by
            rw [List.getElem_drop, ← HX.out]
            exact HF.out (i + 1 + j) (by simp at hj; omega) (by omega) (by omega)) (by simp; have := HL.out; omega) (fun h => by
            rw [List.getElem_drop, ← HX.out]
            have h2 := hne (by simp at h; have := HL.out; omega)
            have e : i + 1 + (n - 1) = m := by omega
            intro h3
            exact h2 (by rw [← h3]; congr 1; omega))
          omega
        clear hm
        by_cases hml : m < L
        · have hmn : m < ns.length := by have := HL.out; omega
          obtain ⟨b', o', cap2, e, _, _, cy⟩ := (HS.out.same (Same.trans HK.out HK2.out)).get m hmn
          simp only [Value.slice.injEq, Option.some.injEq, Addr.mk.injEq, and_true] at e
          obtain ⟨⟨rfl, rfl⟩, hxe, rfl⟩ := e
          clear hxe
          obtain ⟨y, hy⟩ : ∃ y, y = ns[m] := ⟨_, rfl⟩
          rw [← hy] at cy
          unfold natV at cy
          by_cases hyx : y = x
          · have hd : ((y : Int) == (x : Int)) = true := by simp [hyx]
            have HF2 : Hid (∀ j (_ : j < ns.length), i < j → j < i + (n + 1) → ns[j] = x) := hid (fun j hj h1 h2 => by
              by_cases e : j = m
              · subst e; rw [← hy]; exact hyx
              · exact HF.out j hj h1 (by have := HM.out; omega))
            have hm2 : i + (n + 1) ≤ L ∧ L - (i + (n + 1)) + 1 ≤ L - (i + n) := by clear done; have := HM.out; omega
            clear hy hyx done
            go_wp2_with fail
            go_quiet (fail)
            go_wp2_with fail
            go_roundg (gk - 1)
            case measure => omega
            case rel => exact ⟨n + 1, by omega, by omega, hm2.1, by go_num, HF2, hid (HK2.out.drewN _)⟩
          · have hd : ((y : Int) == (x : Int)) = false := by simp; omega
            have HN : Hid (n = 1 + frontN ns[i] (ns.drop (i + 1))) := hid (done (fun _ => by rw [← hy]; exact hyx))
            have HREST : Hid (packM ns = ss ++ (sayM x n ++ packM (ns.drop m))) := hid (by rw [HP.out.1, packM_next ns i n hin HN.out, ← HX.out, HM.out])
            clear hy hyx done HN HF
            go_wp2_with fail
            go_quiet (fail)
            by_cases hx0 : x = 0
            · have hxd : ((x : Int) == 0) = true := by simp; omega
              have HZ : Hid (sayM x n = [] ++ zerosM n ∧ ([] : List (Int × Int)).length + n ≤ n) := hid ⟨by unfold sayM; rw [if_pos hx0]; rfl, by simp⟩
              have HO3 : Hid (StRow w1.heap.size (wr.drewN nq) u4 (ss ++ [])) := hid (by simpa using RowC.kept HO.out (HK2.out.drewN nq) (fun _ _ f => f))
              have HK3 : Hid (Same w1 (wr.drewN nq)) := hid (Same.trans HK.out (HK2.out.drewN nq))
              have hn316 : n ≤ 316 := by omega
              clear hx0
              go_wp2_with fail
              clear hxd
              go_loopg [4, 6] n (fun q zo zn wx => ∃ (k : Nat) (em : List (Int × Int)), k ≤ q ∧ k ≤ n ∧ zn = .int .i64 (k : Nat) ∧ Hid (sayM x n = em ++ zerosM k ∧ em.length + k ≤ n) ∧ Hid (StRow w1.heap.size wx zo (ss ++ em)) ∧ Hid (Same w1 wx))
              case atStart => exact ⟨n, [], by omega, by omega, rfl, HZ, HO3, HK3⟩
              case round =>
                clear HZ HO3 HK3 HO HK2 cx
                obtain ⟨k, em, hqk, hkn, rfl, HZ, HO, HK3⟩ := hrel
                have hsz := HK3.out.size
                have hlen : (ss ++ em).length + 1 ≤ 1000 := by have h1 := HP.out.2; have h2 := HZ.out.2; simp; omega
                by_cases h11 : 11 ≤ k
                · have b11 : decide ((11 : Int) ≤ (k : Int)) = true := by simp; omega
                  by_cases h138 : 138 < k
                  · obtain ⟨k2, hk2⟩ : ∃ k2, k2 = k - 138 := ⟨_, rfl⟩
                    have hk2I : (k : Int) - 138 = (k2 : Int) := by omega
                    have b138 : decide ((138 : Int) < (k : Int)) = true := by simp; omega
                    have HZ2 : Hid (sayM x n = (em ++ [(18, 127)]) ++ zerosM k2 ∧ (em ++ [((18 : Int), (127 : Int))]).length + k2 ≤ n) := hid ⟨by rw [HZ.out.1, zerosM_big k h11, show min k 138 = 138 by omega, ← hk2]; simp, by have := HZ.out.2; simp; omega⟩
                    have hk2k : k2 < k := by omega
                    clear hk2
                    go_wp2_with (at_builtin; refine wpList_append_step _ w1.heap.size rfl (.tmp 56) (.tmp 60) rfl u4 _ rfl (World.ownsRow.alloc HO.out _) ⟨wr.heap.size, 0, none⟩ (18, 127) rfl (step_new _ _ _) (by omega) (by simp; omega) ?_; intro v5 w5 hr5 hg5)
                    have HO5 : Hid (StRow w1.heap.size w5 v5 (ss ++ (em ++ [(18, 127)]))) := hid (by rw [← List.append_assoc]; exact hr5)
                    have HK5 : Hid (Same w1 w5) := hid ((HK3.out.alloc _).grown hg5 (fun j e => .inr (HO.out.ge e)))
                    clear hr5 hg5
                    go_wp2_with fail
                    go_roundg (gk - 1)
                    case measure => omega
                    case rel => exact ⟨k2, _, by omega, by omega, rfl, HZ2, HO5, HK5⟩
                  · obtain ⟨e2, he2⟩ : ∃ e2, e2 = k - 11 := ⟨_, rfl⟩
                    have he2I : (k : Int) - 11 = (e2 : Int) := by omega
                    have b138 : decide ((138 : Int) < (k : Int)) = false := by simp; omega
                    have hkk : (k : Int) - (k : Int) = 0 := by omega
                    have HZ2 : Hid (sayM x n = (em ++ [(18, (e2 : Int))]) ++ zerosM 0 ∧ (em ++ [((18 : Int), (e2 : Int))]).length + 0 ≤ n) := hid ⟨by rw [HZ.out.1, zerosM_big k h11, show min k 138 = k by omega, ← he2, Nat.sub_self]; simp, by have := HZ.out.2; simp; omega⟩
                    have hk0 : 0 < k := by omega
                    clear he2
                    go_wp2_with (at_builtin; refine wpList_append_step _ w1.heap.size rfl (.tmp 56) (.tmp 60) rfl u4 _ rfl (World.ownsRow.alloc HO.out _) ⟨wr.heap.size, 0, none⟩ (18, (e2 : Int)) rfl (step_new _ _ _) (by omega) (by simp; omega) ?_; intro v5 w5 hr5 hg5)
                    have HO5 : Hid (StRow w1.heap.size w5 v5 (ss ++ (em ++ [(18, (e2 : Int))]))) := hid (by rw [← List.append_assoc]; exact hr5)
                    have HK5 : Hid (Same w1 w5) := hid ((HK3.out.alloc _).grown hg5 (fun j e => .inr (HO.out.ge e)))
                    clear hr5 hg5
                    go_wp2_with fail
                    go_roundg (gk - 1)
                    case measure => omega
                    case rel => exact ⟨0, _, by omega, by omega, rfl, HZ2, HO5, HK5⟩
                · have b11 : decide ((11 : Int) ≤ (k : Int)) = false := by simp; omega
                  by_cases h3 : 3 ≤ k
                  · obtain ⟨e2, he2⟩ : ∃ e2, e2 = k - 3 := ⟨_, rfl⟩
                    have he2I : (k : Int) - 3 = (e2 : Int) := by omega
                    have b3 : decide ((3 : Int) ≤ (k : Int)) = true := by simp; omega
                    have HZ2 : Hid (sayM x n = em ++ [(17, (e2 : Int))]) := hid (by rw [HZ.out.1, zerosM_mid k (by omega) h3, ← he2])
                    have hml2 : ss.length + n ≤ m := by have := HP.out.2; have := HM.out; omega
                    clear he2
                    go_wp2_with (at_builtin; refine wpList_append_step _ w1.heap.size rfl (.tmp 67) (.tmp 71) rfl u4 _ rfl (World.ownsRow.alloc HO.out _) ⟨wr.heap.size, 0, none⟩ (17, (e2 : Int)) rfl (step_new _ _ _) (by omega) (by simp; omega) ?_; intro v5 w5 hr5 hg5; have HO5 : Hid (StRow w1.heap.size w5 v5 (ss ++ (em ++ [(17, (e2 : Int))]))) := hid (by rw [← List.append_assoc]; exact hr5); have HK5 : Hid (Same w1 w5) := hid ((HK3.out.alloc _).grown hg5 (fun j e => .inr (HO.out.ge e))); clear hr5 hg5)
                    have HT : Calls Tryd.prog 38 #[v5, .int .i64 0, .int .i64 0] w5 fun e w' => ∃ v', e = .returned v' ∧ StRow w1.heap.size w' v' (ss ++ (em ++ [(17, (e2 : Int))]) ++ List.replicate 0 (0, 0)) ∧ Kept (Over w1.heap.size) w5 w' := times_any w5 w1.heap.size v5 _ 0 0 HO5.out HK5.out.size (by simp at hlen ⊢; omega)
                    refine HT.mono ?_
                    rintro e w6 ⟨v6, rfl, hr6, hk6⟩
                    have HO6 : Hid (StRow w1.heap.size w6 v6 (ss ++ sayM x n)) := hid (by rw [HZ2.out]; simpa using hr6)
                    have HK6 : Hid (Same w1 w6) := hid (Same.then HK5.out hk6 (fun j hj e => by unfold Over at e; omega))
                    clear hr6 hk6 HT
                    have HP6 : Hid (packM ns = (ss ++ sayM x n) ++ packM (ns.drop m) ∧ (ss ++ sayM x n).length ≤ m) := hid ⟨by rw [HREST.out, List.append_assoc], by have h1 := sayM_len x n hn1; simp; omega⟩
                    go_wp2_with fail
                    go_roundg (gk0 - 1)
                    case measure => have := HG.out; omega
                    case rel => exact ⟨m, _, by have := HM.out; omega, by have := HM.out; omega, rfl, HP6, HO6, HK6⟩
                  · have b3 : decide ((3 : Int) ≤ (k : Int)) = false := by simp; omega
                    have HZ2 : Hid (sayM x n = em ++ List.replicate k (0, 0)) := hid (by rw [HZ.out.1, zerosM_few k (by omega)])
                    have hml2 : ss.length + n ≤ m := by have := HP.out.2; have := HM.out; omega
                    have HT := times_any wr w1.heap.size u4 _ k 0 HO.out hsz (by simp at hlen ⊢; omega)
                    go_wp2_with fail
                    refine HT.mono ?_
                    rintro e w6 ⟨v6, rfl, hr6, hk6⟩
                    have HO6 : Hid (StRow w1.heap.size w6 v6 (ss ++ sayM x n)) := hid (by rw [HZ2.out, ← List.append_assoc]; exact hr6)
                    have HK6 : Hid (Same w1 w6) := hid (Same.then HK3.out hk6 (fun j hj e => by unfold Over at e; omega))
                    clear hr6 hk6 HT
                    have HP6 : Hid (packM ns = (ss ++ sayM x n) ++ packM (ns.drop m) ∧ (ss ++ sayM x n).length ≤ m) := hid ⟨by rw [HREST.out, List.append_assoc], by have h1 := sayM_len x n hn1; simp; omega⟩
                    go_wp2_with fail
                    go_roundg (gk0 - 1)
                    case measure => have := HG.out; omega
                    case rel => exact ⟨m, _, by have := HM.out; omega, by have := HM.out; omega, rfl, HP6, HO6, HK6⟩
            · have hxd : ((x : Int) == 0) = false := by simp; omega
              obtain ⟨n1, hn1e⟩ : ∃ n1, n1 = n - 1 := ⟨_, rfl⟩
              have hn1I : (n : Int) - 1 = (n1 : Int) := by omega
              have HSAY : Hid (sayM x n = ((x : Int), 0) :: againM x n1) := hid (by unfold sayM; rw [if_neg hx0, hn1e])
              have HN1 : Hid (n = n1 + 1) := hid (by omega)
              have HO3 : Hid (StRow w1.heap.size (wr.drewN nq) u4 ss) := hid (RowC.kept HO.out (HK2.out.drewN nq) (fun _ _ f => f))
              have HK3 : Hid (Same w1 (wr.drewN nq)) := hid (Same.trans HK.out (HK2.out.drewN nq))
              have hlen0 : ss.length + 1 ≤ 1000 := by have h1 := HP.out.2; omega
              have hsz3 : w1.heap.size ≤ wr.heap.size := HK3.out.size
              have hml2 : ss.length + n ≤ m := by have := HP.out.2; have := HM.out; omega
              clear hx0 hn1e
              go_wp2_with (at_builtin; refine wpList_append_step _ w1.heap.size rfl (.tmp 76) (.tmp 79) rfl u4 _ rfl (World.ownsRow.alloc HO3.out _) ⟨wr.heap.size, 0, none⟩ ((x : Int), 0) rfl (step_new _ _ _) (by omega) (by simp; omega) ?_; intro v4 w4 hr4 hg4; have HO4 : Hid (StRow w1.heap.size w4 v4 (ss ++ ((x : Int), 0) :: [])) := hr4; have HK4 : Hid (Same w1 w4) := hid ((HK3.out.alloc _).grown hg4 (fun j e => .inr (HO3.out.ge e))); clear hr4 hg4)
              clear hxd
              go_loopg [4, 6] n1 (fun q zo zn wx => ∃ (k : Nat) (em : List (Int × Int)), k ≤ q ∧ k ≤ n1 ∧ zn = .int .i64 (k : Nat) ∧ Hid (againM x n1 = em ++ againM x k ∧ em.length + k ≤ n1) ∧ Hid (StRow w1.heap.size wx zo (ss ++ ((x : Int), 0) :: em)) ∧ Hid (Same w1 wx))
              case atStart => exact ⟨n1, [], by omega, by omega, rfl, hid ⟨rfl, by simp⟩, HO4, HK4⟩
              case round =>
                clear HO3 HK3 HO4 HK4 HO HK2 cx
                obtain ⟨k, em, hqk, hkn, rfl, HZ, HO, HK3⟩ := hrel
                have hsz := HK3.out.size
                have hlen : (ss ++ ((x : Int), (0 : Int)) :: em).length + 1 ≤ 1000 := by have h1 := HP.out.2; have h2 := HZ.out.2; have := HN1.out; simp; omega
                by_cases h3 : 3 ≤ k
                · have b3 : decide ((3 : Int) ≤ (k : Int)) = true := by simp; omega
                  by_cases h6 : 6 < k
                  · obtain ⟨k2, hk2⟩ : ∃ k2, k2 = k - 6 := ⟨_, rfl⟩
                    have hk2I : (k : Int) - 6 = (k2 : Int) := by omega
                    have b6 : decide ((6 : Int) < (k : Int)) = true := by simp; omega
                    have HZ2 : Hid (againM x n1 = (em ++ [(16, 3)]) ++ againM x k2 ∧ (em ++ [((16 : Int), (3 : Int))]).length + k2 ≤ n1) := hid ⟨by rw [HZ.out.1, againM_big x k h3, show min k 6 = 6 by omega, ← hk2]; simp, by have := HZ.out.2; simp; omega⟩
                    have hk2k : k2 < k := by omega
                    clear hk2
                    go_wp2_with (at_builtin; refine wpList_append_step _ w1.heap.size rfl (.tmp 87) (.tmp 91) rfl u4 _ rfl (World.ownsRow.alloc HO.out _) ⟨wr.heap.size, 0, none⟩ (16, 3) rfl (step_new _ _ _) (by omega) (by simp; omega) ?_; intro v5 w5 hr5 hg5)
                    have HO5 : Hid (StRow w1.heap.size w5 v5 (ss ++ ((x : Int), 0) :: (em ++ [(16, 3)]))) := hid (by rw [← List.cons_append, ← List.append_assoc]; exact hr5)
                    have HK5 : Hid (Same w1 w5) := hid ((HK3.out.alloc _).grown hg5 (fun j e => .inr (HO.out.ge e)))
                    clear hr5 hg5
                    go_wp2_with fail
                    go_roundg (gk - 1)
                    case measure => omega
                    case rel => exact ⟨k2, _, by omega, by omega, rfl, HZ2, HO5, HK5⟩
                  · obtain ⟨e2, he2⟩ : ∃ e2, e2 = k - 3 := ⟨_, rfl⟩
                    have he2I : (k : Int) - 3 = (e2 : Int) := by omega
                    have b6 : decide ((6 : Int) < (k : Int)) = false := by simp; omega
                    have hkk : (k : Int) - (k : Int) = 0 := by omega
                    have HZ2 : Hid (againM x n1 = (em ++ [(16, (e2 : Int))]) ++ againM x 0 ∧ (em ++ [((16 : Int), (e2 : Int))]).length + 0 ≤ n1) := hid ⟨by rw [HZ.out.1, againM_big x k h3, show min k 6 = k by omega, ← he2, Nat.sub_self]; simp, by have := HZ.out.2; simp; omega⟩
                    have hk0 : 0 < k := by omega
                    clear he2
                    go_wp2_with (at_builtin; refine wpList_append_step _ w1.heap.size rfl (.tmp 87) (.tmp 91) rfl u4 _ rfl (World.ownsRow.alloc HO.out _) ⟨wr.heap.size, 0, none⟩ (16, (e2 : Int)) rfl (step_new _ _ _) (by omega) (by simp; omega) ?_; intro v5 w5 hr5 hg5)
                    have HO5 : Hid (StRow w1.heap.size w5 v5 (ss ++ ((x : Int), 0) :: (em ++ [(16, (e2 : Int))]))) := hid (by rw [← List.cons_append, ← List.append_assoc]; exact hr5)
                    have HK5 : Hid (Same w1 w5) := hid ((HK3.out.alloc _).grown hg5 (fun j e => .inr (HO.out.ge e)))
                    clear hr5 hg5
                    go_wp2_with fail
                    go_roundg (gk - 1)
                    case measure => omega
                    case rel => exact ⟨0, _, by omega, by omega, rfl, HZ2, HO5, HK5⟩
                · have b3 : decide ((3 : Int) ≤ (k : Int)) = false := by simp; omega
                  have HZ2 : Hid (sayM x n = ((x : Int), 0) :: (em ++ List.replicate k ((x : Int), 0))) := hid (by rw [HSAY.out, HZ.out.1, againM_few x k (by omega)])
                  have HT := times_any wr w1.heap.size u4 _ k (x : Int) HO.out hsz (by simp at hlen ⊢; omega)
                  go_wp2_with fail
                  refine HT.mono ?_
                  rintro e w6 ⟨v6, rfl, hr6, hk6⟩
                  have HO6 : Hid (StRow w1.heap.size w6 v6 (ss ++ sayM x n)) := hid (by rw [HZ2.out, ← List.cons_append, ← List.append_assoc]; exact hr6)
                  have HK6 : Hid (Same w1 w6) := hid (Same.then HK3.out hk6 (fun j hj e => by unfold Over at e; omega))
                  clear hr6 hk6 HT
                  have HP6 : Hid (packM ns = (ss ++ sayM x n) ++ packM (ns.drop m) ∧ (ss ++ sayM x n).length ≤ m) := hid ⟨by rw [HREST.out, List.append_assoc], by have h1 := sayM_len x n hn1; simp; omega⟩
                  go_wp2_with fail
                  go_roundg (gk0 - 1)
                  case measure => have := HG.out; omega
                  case rel => exact ⟨m, _, by have := HM.out; omega, by have := HM.out; omega, rfl, HP6, HO6, HK6⟩
        · have hmd : decide (m < L) = false := by simp; omega
          have HN : Hid (n = 1 + frontN ns[i] (ns.drop (i + 1))) := hid (done (fun h => by exfalso; have := HL.out; omega))
          have HREST : Hid (packM ns = ss ++ (sayM x n ++ packM (ns.drop m))) := hid (by rw [HP.out.1, packM_next ns i n hin HN.out, ← HX.out, HM.out])
          clear done HN HF hml
          go_wp2_with fail
          go_quiet (fail)
          by_cases hx0 : x = 0
          · have hxd : ((x : Int) == 0) = true := by simp; omega
            have HZ : Hid (sayM x n = [] ++ zerosM n ∧ ([] : List (Int × Int)).length + n ≤ n) := hid ⟨by unfold sayM; rw [if_pos hx0]; rfl, by simp⟩
            have HO3 : Hid (StRow w1.heap.size (wr.drewN nq) u4 (ss ++ [])) := hid (by simpa using RowC.kept HO.out (HK2.out.drewN nq) (fun _ _ f => f))
            have HK3 : Hid (Same w1 (wr.drewN nq)) := hid (Same.trans HK.out (HK2.out.drewN nq))
            have hn316 : n ≤ 316 := by omega
            clear hx0
            go_wp2_with fail
            clear hxd
            go_loopg [4, 6] n (fun q zo zn wx => ∃ (k : Nat) (em : List (Int × Int)), k ≤ q ∧ k ≤ n ∧ zn = .int .i64 (k : Nat) ∧ Hid (sayM x n = em ++ zerosM k ∧ em.length + k ≤ n) ∧ Hid (StRow w1.heap.size wx zo (ss ++ em)) ∧ Hid (Same w1 wx))
            case atStart => exact ⟨n, [], by omega, by omega, rfl, HZ, HO3, HK3⟩
            case round =>
              clear HZ HO3 HK3 HO HK2 cx
              obtain ⟨k, em, hqk, hkn, rfl, HZ, HO, HK3⟩ := hrel
              have hsz := HK3.out.size
              have hlen : (ss ++ em).length + 1 ≤ 1000 := by have h1 := HP.out.2; have h2 := HZ.out.2; simp; omega
              by_cases h11 : 11 ≤ k
              · have b11 : decide ((11 : Int) ≤ (k : Int)) = true := by simp; omega
                by_cases h138 : 138 < k
                · obtain ⟨k2, hk2⟩ : ∃ k2, k2 = k - 138 := ⟨_, rfl⟩
                  have hk2I : (k : Int) - 138 = (k2 : Int) := by omega
                  have b138 : decide ((138 : Int) < (k : Int)) = true := by simp; omega
                  have HZ2 : Hid (sayM x n = (em ++ [(18, 127)]) ++ zerosM k2 ∧ (em ++ [((18 : Int), (127 : Int))]).length + k2 ≤ n) := hid ⟨by rw [HZ.out.1, zerosM_big k h11, show min k 138 = 138 by omega, ← hk2]; simp, by have := HZ.out.2; simp; omega⟩
                  have hk2k : k2 < k := by omega
                  clear hk2
                  go_wp2_with (at_builtin; refine wpList_append_step _ w1.heap.size rfl (.tmp 56) (.tmp 60) rfl u4 _ rfl (World.ownsRow.alloc HO.out _) ⟨wr.heap.size, 0, none⟩ (18, 127) rfl (step_new _ _ _) (by omega) (by simp; omega) ?_; intro v5 w5 hr5 hg5)
                  have HO5 : Hid (StRow w1.heap.size w5 v5 (ss ++ (em ++ [(18, 127)]))) := hid (by rw [← List.append_assoc]; exact hr5)
                  have HK5 : Hid (Same w1 w5) := hid ((HK3.out.alloc _).grown hg5 (fun j e => .inr (HO.out.ge e)))
                  clear hr5 hg5
                  go_wp2_with fail
                  go_roundg (gk - 1)
                  case measure => omega
                  case rel => exact ⟨k2, _, by omega, by omega, rfl, HZ2, HO5, HK5⟩
                · obtain ⟨e2, he2⟩ : ∃ e2, e2 = k - 11 := ⟨_, rfl⟩
                  have he2I : (k : Int) - 11 = (e2 : Int) := by omega
                  have b138 : decide ((138 : Int) < (k : Int)) = false := by simp; omega
                  have hkk : (k : Int) - (k : Int) = 0 := by omega
                  have HZ2 : Hid (sayM x n = (em ++ [(18, (e2 : Int))]) ++ zerosM 0 ∧ (em ++ [((18 : Int), (e2 : Int))]).length + 0 ≤ n) := hid ⟨by rw [HZ.out.1, zerosM_big k h11, show min k 138 = k by omega, ← he2, Nat.sub_self]; simp, by have := HZ.out.2; simp; omega⟩
                  have hk0 : 0 < k := by omega
                  clear he2
                  go_wp2_with (at_builtin; refine wpList_append_step _ w1.heap.size rfl (.tmp 56) (.tmp 60) rfl u4 _ rfl (World.ownsRow.alloc HO.out _) ⟨wr.heap.size, 0, none⟩ (18, (e2 : Int)) rfl (step_new _ _ _) (by omega) (by simp; omega) ?_; intro v5 w5 hr5 hg5)
                  have HO5 : Hid (StRow w1.heap.size w5 v5 (ss ++ (em ++ [(18, (e2 : Int))]))) := hid (by rw [← List.append_assoc]; exact hr5)
                  have HK5 : Hid (Same w1 w5) := hid ((HK3.out.alloc _).grown hg5 (fun j e => .inr (HO.out.ge e)))
                  clear hr5 hg5
                  go_wp2_with fail
                  go_roundg (gk - 1)
                  case measure => omega
                  case rel => exact ⟨0, _, by omega, by omega, rfl, HZ2, HO5, HK5⟩
              · have b11 : decide ((11 : Int) ≤ (k : Int)) = false := by simp; omega
                by_cases h3 : 3 ≤ k
                · obtain ⟨e2, he2⟩ : ∃ e2, e2 = k - 3 := ⟨_, rfl⟩
                  have he2I : (k : Int) - 3 = (e2 : Int) := by omega
                  have b3 : decide ((3 : Int) ≤ (k : Int)) = true := by simp; omega
                  have HZ2 : Hid (sayM x n = em ++ [(17, (e2 : Int))]) := hid (by rw [HZ.out.1, zerosM_mid k (by omega) h3, ← he2])
                  have hml2 : ss.length + n ≤ m := by have := HP.out.2; have := HM.out; omega
                  clear he2
                  go_wp2_with (at_builtin; refine wpList_append_step _ w1.heap.size rfl (.tmp 67) (.tmp 71) rfl u4 _ rfl (World.ownsRow.alloc HO.out _) ⟨wr.heap.size, 0, none⟩ (17, (e2 : Int)) rfl (step_new _ _ _) (by omega) (by simp; omega) ?_; intro v5 w5 hr5 hg5; have HO5 : Hid (StRow w1.heap.size w5 v5 (ss ++ (em ++ [(17, (e2 : Int))]))) := hid (by rw [← List.append_assoc]; exact hr5); have HK5 : Hid (Same w1 w5) := hid ((HK3.out.alloc _).grown hg5 (fun j e => .inr (HO.out.ge e))); clear hr5 hg5)
                  have HT : Calls Tryd.prog 38 #[v5, .int .i64 0, .int .i64 0] w5 fun e w' => ∃ v', e = .returned v' ∧ StRow w1.heap.size w' v' (ss ++ (em ++ [(17, (e2 : Int))]) ++ List.replicate 0 (0, 0)) ∧ Kept (Over w1.heap.size) w5 w' := times_any w5 w1.heap.size v5 _ 0 0 HO5.out HK5.out.size (by simp at hlen ⊢; omega)
                  refine HT.mono ?_
                  rintro e w6 ⟨v6, rfl, hr6, hk6⟩
                  have HO6 : Hid (StRow w1.heap.size w6 v6 (ss ++ sayM x n)) := hid (by rw [HZ2.out]; simpa using hr6)
                  have HK6 : Hid (Same w1 w6) := hid (Same.then HK5.out hk6 (fun j hj e => by unfold Over at e; omega))
                  clear hr6 hk6 HT
                  have HP6 : Hid (packM ns = (ss ++ sayM x n) ++ packM (ns.drop m) ∧ (ss ++ sayM x n).length ≤ m) := hid ⟨by rw [HREST.out, List.append_assoc], by have h1 := sayM_len x n hn1; simp; omega⟩
                  go_wp2_with fail
                  go_roundg (gk0 - 1)
                  case measure => have := HG.out; omega
                  case rel => exact ⟨m, _, by have := HM.out; omega, by have := HM.out; omega, rfl, HP6, HO6, HK6⟩
                · have b3 : decide ((3 : Int) ≤ (k : Int)) = false := by simp; omega
                  have HZ2 : Hid (sayM x n = em ++ List.replicate k (0, 0)) := hid (by rw [HZ.out.1, zerosM_few k (by omega)])
                  have hml2 : ss.length + n ≤ m := by have := HP.out.2; have := HM.out; omega
                  have HT := times_any wr w1.heap.size u4 _ k 0 HO.out hsz (by simp at hlen ⊢; omega)
                  go_wp2_with fail
                  refine HT.mono ?_
                  rintro e w6 ⟨v6, rfl, hr6, hk6⟩
                  have HO6 : Hid (StRow w1.heap.size w6 v6 (ss ++ sayM x n)) := hid (by rw [HZ2.out, ← List.append_assoc]; exact hr6)
                  have HK6 : Hid (Same w1 w6) := hid (Same.then HK3.out hk6 (fun j hj e => by unfold Over at e; omega))
                  clear hr6 hk6 HT
                  have HP6 : Hid (packM ns = (ss ++ sayM x n) ++ packM (ns.drop m) ∧ (ss ++ sayM x n).length ≤ m) := hid ⟨by rw [HREST.out, List.append_assoc], by have h1 := sayM_len x n hn1; simp; omega⟩
                  go_wp2_with fail
                  go_roundg (gk0 - 1)
                  case measure => have := HG.out; omega
                  case rel => exact ⟨m, _, by have := HM.out; omega, by have := HM.out; omega, rfl, HP6, HO6, HK6⟩
          · have hxd : ((x : Int) == 0) = false := by simp; omega
            obtain ⟨n1, hn1e⟩ : ∃ n1, n1 = n - 1 := ⟨_, rfl⟩
            have hn1I : (n : Int) - 1 = (n1 : Int) := by omega
            have HSAY : Hid (sayM x n = ((x : Int), 0) :: againM x n1) := hid (by unfold sayM; rw [if_neg hx0, hn1e])
            have HN1 : Hid (n = n1 + 1) := hid (by omega)
            have HO3 : Hid (StRow w1.heap.size (wr.drewN nq) u4 ss) := hid (RowC.kept HO.out (HK2.out.drewN nq) (fun _ _ f => f))
            have HK3 : Hid (Same w1 (wr.drewN nq)) := hid (Same.trans HK.out (HK2.out.drewN nq))
            have hlen0 : ss.length + 1 ≤ 1000 := by have h1 := HP.out.2; omega
            have hsz3 : w1.heap.size ≤ wr.heap.size := HK3.out.size
            have hml2 : ss.length + n ≤ m := by have := HP.out.2; have := HM.out; omega
            clear hx0 hn1e
            go_wp2_with (at_builtin; refine wpList_append_step _ w1.heap.size rfl (.tmp 76) (.tmp 79) rfl u4 _ rfl (World.ownsRow.alloc HO3.out _) ⟨wr.heap.size, 0, none⟩ ((x : Int), 0) rfl (step_new _ _ _) (by omega) (by simp; omega) ?_; intro v4 w4 hr4 hg4; have HO4 : Hid (StRow w1.heap.size w4 v4 (ss ++ ((x : Int), 0) :: [])) := hr4; have HK4 : Hid (Same w1 w4) := hid ((HK3.out.alloc _).grown hg4 (fun j e => .inr (HO3.out.ge e))); clear hr4 hg4)
            clear hxd
            go_loopg [4, 6] n1 (fun q zo zn wx => ∃ (k : Nat) (em : List (Int × Int)), k ≤ q ∧ k ≤ n1 ∧ zn = .int .i64 (k : Nat) ∧ Hid (againM x n1 = em ++ againM x k ∧ em.length + k ≤ n1) ∧ Hid (StRow w1.heap.size wx zo (ss ++ ((x : Int), 0) :: em)) ∧ Hid (Same w1 wx))
            case atStart => exact ⟨n1, [], by omega, by omega, rfl, hid ⟨rfl, by simp⟩, HO4, HK4⟩
            case round =>
              clear HO3 HK3 HO4 HK4 HO HK2 cx
              obtain ⟨k, em, hqk, hkn, rfl, HZ, HO, HK3⟩ := hrel
              have hsz := HK3.out.size
              have hlen : (ss ++ ((x : Int), (0 : Int)) :: em).length + 1 ≤ 1000 := by have h1 := HP.out.2; have h2 := HZ.out.2; have := HN1.out; simp; omega
              by_cases h3 : 3 ≤ k
              · have b3 : decide ((3 : Int) ≤ (k : Int)) = true := by simp; omega
                by_cases h6 : 6 < k
                · obtain ⟨k2, hk2⟩ : ∃ k2, k2 = k - 6 := ⟨_, rfl⟩
                  have hk2I : (k : Int) - 6 = (k2 : Int) := by omega
                  have b6 : decide ((6 : Int) < (k : Int)) = true := by simp; omega
                  have HZ2 : Hid (againM x n1 = (em ++ [(16, 3)]) ++ againM x k2 ∧ (em ++ [((16 : Int), (3 : Int))]).length + k2 ≤ n1) := hid ⟨by rw [HZ.out.1, againM_big x k h3, show min k 6 = 6 by omega, ← hk2]; simp, by have := HZ.out.2; simp; omega⟩
                  have hk2k : k2 < k := by omega
                  clear hk2
                  go_wp2_with (at_builtin; refine wpList_append_step _ w1.heap.size rfl (.tmp 87) (.tmp 91) rfl u4 _ rfl (World.ownsRow.alloc HO.out _) ⟨wr.heap.size, 0, none⟩ (16, 3) rfl (step_new _ _ _) (by omega) (by simp; omega) ?_; intro v5 w5 hr5 hg5)
                  have HO5 : Hid (StRow w1.heap.size w5 v5 (ss ++ ((x : Int), 0) :: (em ++ [(16, 3)]))) := hid (by rw [← List.cons_append, ← List.append_assoc]; exact hr5)
                  have HK5 : Hid (Same w1 w5) := hid ((HK3.out.alloc _).grown hg5 (fun j e => .inr (HO.out.ge e)))
                  clear hr5 hg5
                  go_wp2_with fail
                  go_roundg (gk - 1)
                  case measure => omega
                  case rel => exact ⟨k2, _, by omega, by omega, rfl, HZ2, HO5, HK5⟩
                · obtain ⟨e2, he2⟩ : ∃ e2, e2 = k - 3 := ⟨_, rfl⟩
                  have he2I : (k : Int) - 3 = (e2 : Int) := by omega
                  have b6 : decide ((6 : Int) < (k : Int)) = false := by simp; omega
                  have hkk : (k : Int) - (k : Int) = 0 := by omega
                  have HZ2 : Hid (againM x n1 = (em ++ [(16, (e2 : Int))]) ++ againM x 0 ∧ (em ++ [((16 : Int), (e2 : Int))]).length + 0 ≤ n1) := hid ⟨by rw [HZ.out.1, againM_big x k h3, show min k 6 = k by omega, ← he2, Nat.sub_self]; simp, by have := HZ.out.2; simp; omega⟩
                  have hk0 : 0 < k := by omega
                  clear he2
                  go_wp2_with (at_builtin; refine wpList_append_step _ w1.heap.size rfl (.tmp 87) (.tmp 91) rfl u4 _ rfl (World.ownsRow.alloc HO.out _) ⟨wr.heap.size, 0, none⟩ (16, (e2 : Int)) rfl (step_new _ _ _) (by omega) (by simp; omega) ?_; intro v5 w5 hr5 hg5)
                  have HO5 : Hid (StRow w1.heap.size w5 v5 (ss ++ ((x : Int), 0) :: (em ++ [(16, (e2 : Int))]))) := hid (by rw [← List.cons_append, ← List.append_assoc]; exact hr5)
                  have HK5 : Hid (Same w1 w5) := hid ((HK3.out.alloc _).grown hg5 (fun j e => .inr (HO.out.ge e)))
                  clear hr5 hg5
                  go_wp2_with fail
                  go_roundg (gk - 1)
                  case measure => omega
                  case rel => exact ⟨0, _, by omega, by omega, rfl, HZ2, HO5, HK5⟩
              · have b3 : decide ((3 : Int) ≤ (k : Int)) = false := by simp; omega
                have HZ2 : Hid (sayM x n = ((x : Int), 0) :: (em ++ List.replicate k ((x : Int), 0))) := hid (by rw [HSAY.out, HZ.out.1, againM_few x k (by omega)])
                have HT := times_any wr w1.heap.size u4 _ k (x : Int) HO.out hsz (by simp at hlen ⊢; omega)
                go_wp2_with fail
                refine HT.mono ?_
                rintro e w6 ⟨v6, rfl, hr6, hk6⟩
                have HO6 : Hid (StRow w1.heap.size w6 v6 (ss ++ sayM x n)) := hid (by rw [HZ2.out, ← List.cons_append, ← List.append_assoc]; exact hr6)
                have HK6 : Hid (Same w1 w6) := hid (Same.then HK3.out hk6 (fun j hj e => by unfold Over at e; omega))
                clear hr6 hk6 HT
                have HP6 : Hid (packM ns = (ss ++ sayM x n) ++ packM (ns.drop m) ∧ (ss ++ sayM x n).length ≤ m) := hid ⟨by rw [HREST.out, List.append_assoc], by have h1 := sayM_len x n hn1; simp; omega⟩
                go_wp2_with fail
                go_roundg (gk0 - 1)
                case measure => have := HG.out; omega
                case rel => exact ⟨m, _, by have := HM.out; omega, by have := HM.out; omega, rfl, HP6, HO6, HK6⟩
    · have hid' : decide (i < L) = false := by simp; omega
      have HE : Hid (packM ns = ss) := hid (by rw [HP.out.1, List.drop_eq_nil_of_le (by have := HL.out; omega)]; simp [packM])
      clear hlt
      go_wp2_with fail
      go_ret2
      exact ⟨_, rfl, by rw [HE.out]; exact HO.out, HK.out⟩

end Go.Proofs.YtofhlnpbflkdlaaDoor
