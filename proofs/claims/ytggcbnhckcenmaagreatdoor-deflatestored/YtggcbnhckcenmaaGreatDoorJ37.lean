/-
  Of the proof: parts DfS, DfStoLaw.
-/
import Derived.Test.YtggcbnhckcenmaaGreatDoorJ35
import Derived.Test.YtggcbnhckcenmaaGreatDoorJ7
import Derived.Test.YtggcbnhckcenmaaGreatDoorJ6

/-
  The reference's layer 7: a stored block.
-/
namespace Go.Proofs.YtggcbnhckcenmaaGreatDoor
open Go.RowKit

set_option maxRecDepth 100000 in
set_option maxHeartbeats 400000 in
theorem rstored_any (w : World) (v : Value) (I : Nat → Prop) (data : List Nat) (hs : Src w I v data) (hnil : ∀ n c, v = .slice none n c → n = 0 ∧ c = 0) (hlen : data.length ≤ 16384) :
    Calls Tryz.prog 17 #[v] w fun e w' => ∃ v', e = .returned v' ∧ Row w' v' (storeB data) ∧ Same w w' := by
  obtain ⟨av, cv, hvv, _⟩ := id hs
  obtain ⟨n, hn⟩ : ∃ n, data.length = n := ⟨_, rfl⟩
  rw [hn] at hvv hlen
  subst hvv
  have HS : Hid (Src w I (.slice av n cv) data) := hs
  have HN : Hid (∀ n' c, Value.slice av n cv = .slice none n' c → n' = 0 ∧ c = 0) := hnil
  have HL : Hid (data.length = n) := hn
  obtain ⟨r, hr⟩ : ∃ r, r = n % 256 := ⟨_, rfl⟩
  obtain ⟨q, hq⟩ : ∃ q, q = n / 256 := ⟨_, rfl⟩
  have hrI : (n : Int) % 256 = (r : Int) := by omega
  have hqI : (n : Int) / 256 = (q : Int) := by omega
  obtain ⟨r2, hr2⟩ : ∃ r2, r2 = 255 - r := ⟨_, rfl⟩
  obtain ⟨q2, hq2⟩ : ∃ q2, q2 = 255 - q := ⟨_, rfl⟩
  have hr2I : (255 : Int) - (r : Int) = (r2 : Int) := by omega
  have hq2I : (255 : Int) - (q : Int) = (q2 : Int) := by omega
  have w1 : IntKind.u8.wrap (r : Int) = (r : Int) := by rw [IntKind.wrap_u8]; omega
  have w2 : IntKind.u8.wrap (q : Int) = (q : Int) := by rw [IntKind.wrap_u8]; omega
  have w3 : IntKind.u8.wrap (r2 : Int) = (r2 : Int) := by rw [IntKind.wrap_u8]; omega
  have w4 : IntKind.u8.wrap (q2 : Int) = (q2 : Int) := by rw [IntKind.wrap_u8]; omega
  have b1 : r ≤ 255 := by omega
  have b2 : q ≤ 64 := by omega
  have HV : Hid (storeB data = [1, r, q, r2, q2] ++ data) := hid (by unfold storeB; rw [hn, hr2, hq2, hr, hq])
  clear hs hnil hn hr hq hr2 hq2
  go_enter Tryz.func17, Tryz.ntmps17
  go_wp2_with (at_builtin; refine wpList_append_any _ rfl (.tmp 22) (.tmp 23) rfl _ [1, r, q, r2, q2] rfl (lit_row w [1, r, q, r2, q2] 5 rfl (by omega)) I (.slice av n cv) data rfl HN.out (HS.out.kept ((Kept.refl (fun _ => False) w).alloc _) (fun _ _ _ f => f)) (by rw [HL.out]; simp; omega) ?_)
  intro v6 w6 hr6 hg6 ho6
  have HK6 : Hid (Same w w6) := hid (by
    have h1 : Same w (w.alloc (.cells (([1, r, q, r2, q2] : List Nat).map byteV).toArray 5)) := (Kept.refl _ w).alloc _
    exact h1.grown hg6 (fun k e => .inr (by simp [Value.ownBlock] at e; omega)))
  have HR6 : Hid (Row w6 v6 (storeB data)) := hid (by rw [HV.out]; exact hr6)
  obtain ⟨a6, c6, hv6, _⟩ := hr6.shape
  subst hv6
  clear hr6 hg6 ho6
  go_wp2_with fail
  go_ret
  exact ⟨_, rfl, HR6.out, HK6.out⟩

end Go.Proofs.YtggcbnhckcenmaaGreatDoor

/-
  The law DeflateStored.
-/
namespace Go.Proofs.YtggcbnhckcenmaaGreatDoor
open Go.RowKit

theorem Row.lent7 {w : World} {g n : Nat} {cs : List Nat} (h : Row w (.slice (some ⟨g, 0, none⟩) (n + 2) (n + 2)) (cs ++ [165, 90])) (hn : cs.length = n) : Row w (.slice (some ⟨g, 0, none⟩) n (n + 2)) cs := by
  have := h.cut
  rw [hn] at this
  exact this

set_option maxRecDepth 100000 in
set_option maxHeartbeats 400000 in
theorem deflateStored_all (a : Option Addr) (len cap : Nat) (zs : List Int) (W : World) (h : IsRow .u8 W a len cap zs) (hT : Tab W) :
    Calls Tryz.prog 4 #[.slice a len cap] W fun e w' => e = .returned (.bool true) ∧ Below W.heap.size W w' := by
  suffices H : Calls Tryz.prog 4 #[.slice a len cap] W fun e w' => e = .returned (.bool true) ∧ Same W w' from H.mono (fun e w' h => ⟨h.1, h.2.bel⟩)
  obtain ⟨bs, hs, hl, hb⟩ := h.src
  by_cases hlong : 65536 < len
  · have b1 : decide ((65536 : Int) < (len : Int)) = true := by simp; omega
    clear hlong hT h hs hl hb
    go_enter Tryz.func4, Tryz.ntmps4
    go_wp2_with fail
    go_ret
    exact ⟨rfl, Kept.refl _ _⟩
  · have b1 : decide ((65536 : Int) < (len : Int)) = false := by simp; omega
    have HLN := lend_any W (.slice a len cap) _ bs hs (by omega)
    rw [hl] at HLN
    have HS : Hid (Src W (fun j => j < W.heap.size) (.slice a len cap) bs) := hs
    have HB : Hid (∀ x ∈ bs, x < 256) := hb
    have HT : Hid (Tab W) := hT
    have HL : Hid (bs.length = len) := hl
    have HN : Hid (∀ n c, Value.slice a len cap = .slice none n c → n = 0 ∧ c = 0) := hid h.nil5
    have hlen : len ≤ 65536 := by omega
    clear hs hl hb hT h hlong
    by_cases hbig : 16384 < len
    · have b2 : decide ((16384 : Int) < (len : Int)) = true := by simp; omega
      go_enter Tryz.func4, Tryz.ntmps4
      go_wp2_with fail
      refine HLN.mono ?_
      rintro x w1 ⟨g, rfl, hr1, hk1, hg1⟩
      have HK1 : Hid (Same W w1) := hk1
      have HR1 : Hid (Row w1 (.slice (some ⟨g, 0, none⟩) (len + 2) (len + 2)) (bs ++ [165, 90])) := hr1
      have HG1 : Hid (W.heap.size ≤ g) := hg1
      have HI := stored_long w1 (some ⟨g, 0, none⟩) len (len + 2) hbig
      clear hr1 hk1 hg1 HLN
      go_wp2_with fail
      refine HI.mono ?_
      rintro x w2 ⟨rfl, hk2⟩
      have HK2 : Hid (Same W w2) := hid (Same.trans HK1.out hk2)
      have HBC := keepBack_any w2 g (.slice a len cap) _ bs (by rw [HL.out]; exact HR1.out.kept hk2 (fun _ _ f => f)) (HS.out.kept HK2.out (fun _ _ _ f => f)) (by rw [HL.out]; omega) HB.out
      rw [HL.out] at HBC
      clear hk2 HI
      go_wp2_with fail
      refine HBC.mono ?_
      rintro x w3 ⟨rfl, hk3⟩
      have HK3 : Hid (Same W w3) := hid (Same.then HK2.out hk3 (fun k hk e => by have := HG1.out; omega))
      have HAW := dawake_any w3 (HT.out.kept HK3.out (fun f => f))
      clear hk3 HBC
      go_wp2_with fail
      refine HAW.mono ?_
      rintro x w4 ⟨rfl, hk4⟩
      have HK4 : Hid (Same W w4) := hid (Same.trans HK3.out hk4)
      clear hk4 HAW
      go_wp2_with fail
      go_ret
      exact ⟨rfl, HK4.out⟩
    · have b2 : decide ((16384 : Int) < (len : Int)) = false := by simp; omega
      go_enter Tryz.func4, Tryz.ntmps4
      go_wp2_with fail
      refine HLN.mono ?_
      rintro x w1 ⟨g, rfl, hr1, hk1, hg1⟩
      have HK1 : Hid (Same W w1) := hk1
      have HR1 : Hid (Row w1 (.slice (some ⟨g, 0, none⟩) (len + 2) (len + 2)) (bs ++ [165, 90])) := hr1
      have HG1 : Hid (W.heap.size ≤ g ∧ g < w1.heap.size) := hid ⟨hg1, hr1.lt rfl⟩
      have HI := dstored_any w1 (.slice (some ⟨g, 0, none⟩) len (len + 2)) _ bs (Src.ofRow (hr1.lent7 HL.out)) HB.out (fun n c e => by cases e) (by rw [HL.out]; omega)
      clear hr1 hk1 hg1 HLN
      go_wp2_with fail
      refine HI.mono ?_
      rintro x w2 ⟨v2, rfl, hn2⟩
      have HK2 : Hid (Same W w2) := hid (Same.trans HK1.out hn2.same)
      have HN2 : Hid (NB w1 w2 v2 (storeB bs)) := hn2
      have HBC := keepBack_any w2 g (.slice a len cap) _ bs (by rw [HL.out]; exact HR1.out.kept hn2.same (fun _ _ f => f)) (HS.out.kept HK2.out (fun _ _ _ f => f)) (by rw [HL.out]; omega) HB.out
      rw [HL.out] at HBC
      obtain ⟨a2, c2, hv2, _⟩ := hn2.row.shape
      subst hv2
      clear hn2 HI
      go_wp2_with fail
      refine HBC.mono ?_
      rintro x w3 ⟨rfl, hk3⟩
      have HK3 : Hid (Same W w3) := hid (Same.then HK2.out hk3 (fun k hk e => by have := HG1.out; omega))
      have HR3 : Hid (Row w3 (.slice a2 (storeB bs).length c2) (storeB bs)) := hid (HN2.out.row.kept hk3 (fun k e e2 => by have := HN2.out.new k e; have := HG1.out; omega))
      have HAW := dawake_any w3 (HT.out.kept HK3.out (fun f => f))
      clear hk3 HBC HN2
      go_wp2_with fail
      refine HAW.mono ?_
      rintro x w4 ⟨rfl, hk4⟩
      have HK4 : Hid (Same W w4) := hid (Same.trans HK3.out hk4)
      have HR4 : Hid (Row w4 (.slice a2 (storeB bs).length c2) (storeB bs)) := hid (HR3.out.kept hk4 (fun _ _ f => f))
      have HST := rstored_any w4 (.slice a len cap) _ bs (HS.out.kept HK4.out (fun _ _ _ f => f)) HN.out (by rw [HL.out]; omega)
      clear hk4 HAW HR3
      go_wp2_with fail
      refine HST.mono ?_
      rintro x w5 ⟨v5, rfl, hr5, hk5⟩
      have HK5 : Hid (Same W w5) := hid (Same.trans HK4.out hk5)
      have HKB := keepBytes_same w5 _ v5 _ _ (storeB bs) (Src.ofRow (HR4.out.kept hk5 (fun _ _ f => f))) (Src.ofRow hr5) (by rw [storeB_length, HL.out]; omega)
      obtain ⟨a5, c5, hv5, _⟩ := hr5.shape
      subst hv5
      clear hr5 hk5 HST HR4
      go_wp2_with fail
      refine HKB.mono ?_
      rintro x w6 ⟨rfl, hk6⟩
      have HK6 : Hid (Same W w6) := hid (Same.trans HK5.out hk6)
      clear hk6 HKB
      go_wp2_with fail
      go_ret
      exact ⟨rfl, HK6.out⟩

end Go.Proofs.YtggcbnhckcenmaaGreatDoor
