/-
  The reference's Least, walked.
-/
import Derived.Test.YtddjbofdepamhaaHLeast
namespace Go.Proofs.Ytddjbofdepamhaa
open Go.RowKit

theorem with_row (w : World) (B : Nat) (v : Value) (l : List Nat) (x : Nat) (hr : NRow B w v l) (hl : l.length ≤ 100000) :
    Calls Try.prog 39 #[v, .int .i64 (x : Nat)] w fun e w' => ∃ v', e = .returned v' ∧ New w w' v' (insW x l) := by
  rcases id hr.2 with ⟨rfl, hn⟩ | ⟨g, cap, cur, rfl, _, _, _⟩
  · have : l = [] := List.eq_nil_of_length_eq_zero hn
    subst this
    exact with_none w x
  · exact with_some w g 0 cap _ l x (SrcE.ofRow hr) hl (fun k hk => hr.lt hk)

theorem cost_le (ns : List Nat) (most : Nat) (hm : Many ns most) (hk : ∀ n ∈ ns, n ≤ 1000000000000) (hns : ns.length ≤ 288) (T : Nat) (hT : T ≤ 2 * (wsOf ns).length - 2) : (((lev (wsOf ns) (most - 1)).map (·.1)).take T).sum ≤ 5000000000000000 := by
  have h0 : (((lev (wsOf ns) (most - 1)).map (·.1)).take T).sum ≤ (((lev (wsOf ns) (most - 1)).map (·.1)).take (2 * (wsOf ns).length - 2)).sum := by
    generalize (lev (wsOf ns) (most - 1)).map (·.1) = l
    have e : l.take T = (l.take (2 * (wsOf ns).length - 2)).take T := by rw [List.take_take, Nat.min_eq_left hT]
    rw [e]
    conv => rhs; rw [← List.take_append_drop T (l.take (2 * (wsOf ns).length - 2))]
    rw [List.sum_append]
    omega
  have h1 := hm.cost
  rw [List.map_take] at h1
  rw [← h1] at h0
  refine Nat.le_trans h0 ?_
  have hb : ∀ m, m ≤ (ris ns).length → sumI m (fun i => (wsOf ns).getD i 0 * gn ns most i) ≤ m * 15000000000000 := by
    intro m
    induction m with
    | zero => intro _; simp [sumI]
    | succ m ih =>
      intro hmm
      rw [sumI_succ]
      have h2 := ih (by omega)
      have h3 : (wsOf ns).getD m 0 ≤ 1000000000000 := by
        have hlt : m < (wsOf ns).length := by rw [wsOf_length]; omega
        have e : (wsOf ns).getD m 0 = (wsOf ns)[m] := by simp [List.getD, hlt]
        rw [e, wsOf_get ns m (by omega)]
        have h4 := (mem_ris.1 (List.getElem_mem (show m < (ris ns).length by omega))).1
        rw [key_get h4]
        exact hk _ (List.getElem_mem _)
      have h5 : gn ns most m ≤ 15 := Nat.le_trans (hm.le m) hm.m15
      have h6 : (wsOf ns).getD m 0 * gn ns most m ≤ 1000000000000 * 15 := Nat.mul_le_mul h3 h5
      omega
  have := hb _ (Nat.le_refl _)
  have h7 := ris_length ns
  omega

set_option maxRecDepth 100000 in
set_option maxHeartbeats 4000000 in
theorem least_any (w : World) (v : Value) (I : Nat → Prop) (ns : List Nat) (most : Nat) (hs : SrcE natV w I v ns) (hns : ns.length ≤ 288) (hk : ∀ n ∈ ns, n ≤ 1000000000000) (hm : Many ns most) :
    Calls Try.prog 18 #[v, .int .i64 (most : Nat)] w fun e w' => e = .returned (.int .i64 ((((lev (wsOf ns) (most - 1)).take (2 * (wsOf ns).length - 2)).map (·.1)).sum : Nat)) ∧ Same w w' := by
  obtain ⟨ao, cap, rfl, hx1, hx2⟩ := id hs
  clear hx1 hx2
  have HS : Hid (SrcE natV w I (.slice ao ns.length cap) ns) := hs
  have HM : Hid (Many ns most) := hm
  have HK : Hid (∀ n ∈ ns, n ≤ 1000000000000) := hk
  have h15 := hm.m15
  have h1 := hm.m1
  clear hs hm hk
  obtain ⟨L, hL⟩ : ∃ L, L = ns.length := ⟨_, rfl⟩
  have HL : Hid (L = ns.length) := hL
  rw [← hL] at HS hns ⊢
  clear hL
  go_enter Try.func18, Try.ntmps18
  go_wp2_with fail
  go_loopg [5, 6] L (fun q zl zi wr => ∃ i : Nat, L - i ≤ q ∧ i ≤ L ∧ zi = .int .i64 (i : Nat) ∧ Hid (NRow w.heap.size wr zl (lvs ns i)) ∧ Hid (Same w wr))
  case atStart => exact ⟨0, by omega, by omega, rfl, RowE.nil, Kept.refl _ _⟩
  case round =>
    obtain ⟨i, hq, hi, rfl, HR, HSM⟩ := hrel
    by_cases hlt : i < L
    · have hin : i < ns.length := by have := HL.out; omega
      obtain ⟨b, o, cap', e, _, _, cx⟩ := (HS.out.same HSM.out).get i hin
      simp only [Value.slice.injEq] at e
      obtain ⟨rfl, hxe, rfl⟩ := e
      clear hxe
      rw [← key_get hin] at cx
      unfold natV at cx
      obtain ⟨k, hk⟩ : ∃ k, k = key ns i := ⟨_, rfl⟩
      rw [← hk] at cx
      by_cases hk0 : k = 0
      · have HE : Hid (lvs ns (i + 1) = lvs ns i) := hid (by simp only [lvs]; rw [if_pos (by omega)])
        rw [hk0] at cx
        clear hk hk0
        go_wp2_with fail
        go_roundg (gk - 1)
        case measure => omega
        case rel => exact ⟨i + 1, by omega, by omega, by go_num, hid (by rw [HE.out]; exact HR.out), HSM⟩
      · have HE : Hid (lvs ns (i + 1) = insW k (lvs ns i)) := hid (by simp only [lvs]; rw [if_neg (by omega), hk])
        have hkp : 0 < k := by omega
        have hll : (lvs ns i).length ≤ 100000 := by
          have h2 := (lvs_perm ns i).length_eq
          rw [List.length_map] at h2
          have h3 := usedTo_length ns i
          omega
        have HW := with_row wr w.heap.size u5 (lvs ns i) k HR.out hll
        clear hk hk0 hll
        go_wp2_with fail
        refine HW.mono ?_
        rintro e w2 ⟨v2, rfl, hn2⟩
        have HR2 : Hid (NRow w.heap.size w2 v2 (lvs ns (i + 1))) := hid (by rw [HE.out]; exact RowE.base hn2.row HSM.out.size)
        have HSM2 : Hid (Same w w2) := hid (Same.trans HSM.out hn2.same)
        clear hn2 HW
        go_wp2_with fail
        go_roundg (gk - 1)
        case measure => omega
        case rel => exact ⟨i + 1, by omega, by omega, by go_num, HR2, HSM2⟩
    · have hiL : i = L := by omega
      have hrw : NRow w.heap.size wr u5 (wsOf ns) := by
        have h := HR.out
        rw [hiL, HL.out, lvs_all] at h
        exact h
      have hm2 := HM.out.two
      have hwl := wsOf_length ns
      obtain ⟨gl, capl, hvl, hgl1, hgl2, hcl⟩ := RowE.some hrw (by intro e; rw [e] at hwl; simp at hwl; omega)
      subst hvl
      obtain ⟨m, hme⟩ : ∃ m, m = (wsOf ns).length := ⟨_, rfl⟩
      have HME : Hid (m = (wsOf ns).length) := hme
      rw [← hme] at hrw hcl ⊢
      have hm2' : 2 ≤ m := by omega
      have hm288 : m ≤ 288 := by have h2 := ris_length ns; have := HL.out; omega
      have HRL : Hid (NRow w.heap.size wr (.slice (some ⟨gl, 0, none⟩) m capl) (wsOf ns)) := hrw
      obtain ⟨w1, hw1⟩ : ∃ w1, w1 = wr := ⟨_, rfl⟩
      subst hw1
      have hlt' : decide (i < L) = false := by simp; omega
      clear hrw hme hwl hiL HR hq hi hlt
      go_wp2_with fail
      clear hlt'
      go_loopg [7, 8] most (fun q zc zn wr => ∃ n : Nat, most - n ≤ q ∧ n ≤ most ∧ zn = .int .i64 (n : Nat) ∧ Hid (NRow w.heap.size wr zc (curL (wsOf ns) n)) ∧ Hid (Same w1 wr))
      case atStart => exact ⟨0, by omega, by omega, rfl, RowE.nil, Kept.refl _ _⟩
      case round =>
        obtain ⟨n, hq, hnm, rfl, HC, HSN⟩ := hrel
        obtain ⟨gk0, hgk⟩ : ∃ x, x = gk := ⟨_, rfl⟩
        rw [← hgk] at hq
        have HG : Hid (gk0 = gk) := hgk
        clear hgk
        obtain ⟨cl, hcle, hcl1000⟩ : ∃ cl, Hid (cl = (curL (wsOf ns) n).length) ∧ cl ≤ 600 := ⟨_, hid rfl, by
          cases n with
          | zero => simp [curL]
          | succ t =>
            rw [curL_lev _ (wsOf_up ns), List.length_map]
            have h2 := (lev_length (wsOf ns) t).2
            have := HME.out
            omega⟩
        have HCW : Hid (∀ x ∈ curL (wsOf ns) n, x ≤ 40000000000000000) := hid (by
          cases n with
          | zero => simp [curL]
          | succ t =>
            rw [curL_lev _ (wsOf_up ns)]
            intro x hx
            obtain ⟨y, hy, rfl⟩ := List.mem_map.1 hx
            exact lev_ok ns HK.out t (by omega) y hy)
        obtain ⟨ac, cc, hvc, hsc, hzc, hcc, _⟩ := HC.out.shape
        subst hvc
        rw [← hcle.out] at HC hcc ⊢
        have HCX : Hid (∀ wx, Same w1 wx → wr.heap.size ≤ wx.heap.size → True) := hid (fun _ _ _ => trivial)
        clear HCX
        by_cases hlt : n < most
        · have hsz := HSN.out.size
          have hszw := HSM.out.size
          obtain ⟨wn, hwn⟩ : ∃ wn, wn = wr := ⟨_, rfl⟩
          subst hwn
          go_wp2_with (at_builtin; refine wpList_append_src _ w.heap.size rfl (.tmp 35) (.tmp 36) rfl (.slice none 0 0) [] rfl RowE.nil (fun k => (Value.slice (some ⟨gl, 0, none⟩) m capl).ownBlock = some k) ⟨gl, 0, none⟩ m capl (wsOf ns) rfl (SrcE.ofRow (HRL.out.same HSN.out)) (by have := HME.out; simp; omega) (by omega) ?_; intro v2 w2 hr2 hg2; have HR2 : Hid (NRow w.heap.size w2 v2 (putAll (wsOf ns) ((pairW (curL (wsOf ns) n)).take 0))) := hid (by simpa [putAll] using hr2); have HK2 : Hid (Same wn w2) := hid ((Kept.refl _ wn).grown hg2 (fun j e => by cases e)); clear hr2 hg2)
          go_loopg [9, 10] cl (fun q zx zi wx => ∃ (j i : Nat), cl - i ≤ q ∧ i ≤ 700 ∧ zi = .int .i64 (i : Nat) ∧ Hid (i = 2 * j ∧ 2 * j ≤ cl) ∧ Hid (NRow w.heap.size wx zx (putAll (wsOf ns) ((pairW (curL (wsOf ns) n)).take j))) ∧ Hid (Same wn wx))
          case atStart => exact ⟨0, 0, by omega, by omega, rfl, hid ⟨rfl, by omega⟩, HR2, HK2⟩
          case round =>
            clear HR2 HK2
            obtain ⟨j, i, hq2, hi7, rfl, HJ, HRX, HSX⟩ := hrel
            by_cases hjl : i + 1 < cl
            · have hicl : i + 1 < (curL (wsOf ns) n).length := by have := hcle.out; omega
              have hcx : NRow w.heap.size wr (.slice ac cl cc) (curL (wsOf ns) n) := HC.out.same HSX.out
              obtain ⟨gc, hgc⟩ := hsc (by intro e; rw [e] at hicl; simp at hicl)
              subst hgc
              obtain ⟨x1, hx1⟩ : ∃ x, x = (curL (wsOf ns) n)[i] := ⟨_, rfl⟩
              obtain ⟨x2, hx2⟩ : ∃ x, x = (curL (wsOf ns) n)[i + 1] := ⟨_, rfl⟩
              have c1 := hcx.cell i (by omega)
              have c2 := hcx.cell (i + 1) hicl
              rw [← hx1] at c1
              rw [← hx2] at c2
              unfold natV at c1 c2
              have l1 : x1 ≤ 40000000000000000 := by rw [hx1]; exact HCW.out _ (List.getElem_mem _)
              have l2 : x2 ≤ 40000000000000000 := by rw [hx2]; exact HCW.out _ (List.getElem_mem _)
              obtain ⟨P, hP⟩ : ∃ P, P = x1 + x2 := ⟨_, rfl⟩
              have hjp : j < (pairW (curL (wsOf ns) n)).length := by rw [pairW_length]; have := HJ.out; omega
              have HPJ : Hid (putAll (wsOf ns) ((pairW (curL (wsOf ns) n)).take (j + 1)) = insW P (putAll (wsOf ns) ((pairW (curL (wsOf ns) n)).take j))) := hid (by
                have hi2 := HJ.out.1
                subst hi2
                rw [List.take_succ_eq_append_getElem hjp, putAll_snoc, pairW_get _ _ hjp, hP, hx1, hx2])
              have hpl : (putAll (wsOf ns) ((pairW (curL (wsOf ns) n)).take j)).length ≤ 100000 := by
                rw [(putAll_perm _ _).length_eq, List.length_append, List.length_take, pairW_length, ← hcle.out]
                have := HME.out
                omega
              have HW := with_row wr.drew w.heap.size u9 (putAll (wsOf ns) ((pairW (curL (wsOf ns) n)).take j)) P HRX.out hpl
              have hPI : ((x1 : Int) + (x2 : Int)) = (P : Int) := by omega
              have HHW : Hid (Calls Try.prog 39 #[u9, .int .i64 (P : Int)] wr.drew fun e w' => ∃ v', e = .returned v' ∧ New wr.drew w' v' (insW P (putAll (wsOf ns) ((pairW (curL (wsOf ns) n)).take j)))) := HW
              have hwP : IntKind.i64.wrap (P : Int) = (P : Int) := by rw [IntKind.wrap_i64]; omega
              have hi1 : i < cl := by omega
              obtain ⟨i1, hi1e⟩ : ∃ i1, i1 = i + 1 := ⟨_, rfl⟩
              have hjI : ((i : Int) + 1) = (i1 : Int) := by omega
              have hjl1 : i1 < cl := by omega
              rw [← hi1e] at c2
              have hw1 : IntKind.i64.wrap (i1 : Int) = (i1 : Int) := by rw [IntKind.wrap_i64]; omega
              clear hi1e hjl
              clear hx1 hx2 hP hjp hpl hcx hicl HW
              go_wp2_with fail
              go_region_with (go_at_call 39; refine HHW.out.mono ?_; rintro e w4 ⟨v4, rfl, hn4⟩)
              all_goals
                have HR4 : Hid (NRow w.heap.size w4 v4 (putAll (wsOf ns) ((pairW (curL (wsOf ns) n)).take (j + 1)))) := hid (by rw [HPJ.out]; exact RowE.base hn4.row (by show w.heap.size ≤ wr.heap.size; have h1 := HSM.out.size; have h2 := HSX.out.size; have h3 := HSN.out.size; omega))
                have HS4 : Hid (Same wn w4) := hid (Same.trans HSX.out (Kept.undrew hn4.same))
                clear hn4
                go_wp2_with fail
                go_roundg (gk - 1)
                case measure => omega
                case rel => exact ⟨j + 1, i + 2, by omega, by omega, by go_num, hid ⟨by have := HJ.out; omega, by have := HJ.out; omega⟩, HR4, HS4⟩
            · have HFIN : Hid (NRow w.heap.size wr u9 (curL (wsOf ns) (n + 1))) := hid (by
                have h := HRX.out
                rw [List.take_of_length_le (by rw [pairW_length, ← hcle.out]; have := HJ.out; omega)] at h
                exact h)
              have hjl' : decide ((i : Int) + 1 < (cl : Int)) = false := by simp; omega
              clear hjl
              go_wp2_with fail
              go_roundg (gk0 - 1)
              case measure => have := HG.out; omega
              case rel => exact ⟨n + 1, by omega, by omega, by go_num, HFIN, hid (Same.trans HSN.out HSX.out)⟩
        · have hnm2 : n = most := by omega
          have HTOP : Hid (curL (wsOf ns) n = (lev (wsOf ns) (most - 1)).map (·.1)) := hid (by rw [hnm2, show most = (most - 1) + 1 by omega, curL_lev _ (wsOf_up ns)]; simp)
          have hcT : 2 * m - 2 ≤ cl := by
            have h2 := lev_top (wsOf ns) (most - 1) (by rw [wsOf_length, show most - 1 + 1 = most by omega]; exact HM.out.fit)
            have h3 := hcle.out
            rw [HTOP.out, List.length_map] at h3
            have := HME.out
            omega
          have hcpos : 0 < cl := by omega
          obtain ⟨gc, hgc⟩ := hsc (by intro e; have h3 := hcle.out; rw [e] at h3; simp at h3; omega)
          subst hgc
          have hlt' : decide (n < most) = false := by simp; omega
          have hsub2 : ((2 : Int) * (m : Int) - 2) = ((2 * m - 2 : Nat) : Int) := by omega
          clear hnm2 hlt hq hnm
          go_wp2_with fail
          clear hlt'
          obtain ⟨w5, hw5⟩ : ∃ w5, w5 = wr := ⟨_, rfl⟩
          subst hw5
          go_loopg [11, 12] (2 * m - 2) (fun q zs zi wr => ∃ (i s : Nat), 2 * m - 2 - i ≤ q ∧ i ≤ 2 * m - 2 ∧ s ≤ 5000000000000000 ∧ zi = .int .i64 (i : Nat) ∧ zs = .int .i64 (s : Nat) ∧ wr = w5 ∧ Hid (s = ((curL (wsOf ns) n).take i).sum))
          case atStart => exact ⟨0, 0, by omega, by omega, by omega, rfl, rfl, rfl, hid (by simp)⟩
          case round =>
            obtain ⟨i, s, hq, hi, hs5, rfl, rfl, rfl, HSUM⟩ := hrel
            by_cases hlt : i < 2 * m - 2
            · have hicl : i < (curL (wsOf ns) n).length := by have := hcle.out; omega
              have ci := HC.out.cell i hicl
              obtain ⟨x, hx⟩ : ∃ x, x = (curL (wsOf ns) n)[i] := ⟨_, rfl⟩
              rw [← hx] at ci
              unfold natV at ci
              have hsx : s + x = ((curL (wsOf ns) n).take (i + 1)).sum := by rw [List.take_succ_eq_append_getElem hicl, List.sum_append, ← HSUM.out, ← hx]; simp
              have hsl : s + x ≤ 5000000000000000 := by
                rw [hsx, HTOP.out]
                exact cost_le ns most HM.out HK.out (by have := HL.out; omega) (i + 1) (by have := HME.out; omega)
              have HSX : Hid (s + x = ((curL (wsOf ns) n).take (i + 1)).sum) := hsx
              have e1 : decide (i < 2 * m - 2) = true := by simp [hlt]
              have e2 : decide (i < cl) = true := by simp; omega
              have hicl2 : i < cl := by omega
              clear hx hsx hicl
              go_wp2_with fail
              go_roundg (gk - 1)
              case measure => omega
              case rel => exact ⟨i + 1, s + x, by omega, by omega, hsl, by go_num, by go_num, rfl, HSX⟩
            · have hie : i = 2 * m - 2 := by omega
              have e1 : decide (i < 2 * m - 2) = false := by simp; omega
              have HEND : Hid (s = (((lev (wsOf ns) (most - 1)).take (2 * (wsOf ns).length - 2)).map (·.1)).sum) := hid (by rw [HSUM.out, HTOP.out, hie, List.map_take, HME.out])
              clear hie hlt
              go_wp2_with fail
              go_ret
              exact ⟨by rw [← HEND.out]; rfl, Same.trans HSM.out HSN.out⟩

end Go.Proofs.Ytddjbofdepamhaa
