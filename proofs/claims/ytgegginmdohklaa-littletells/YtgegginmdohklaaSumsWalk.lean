/-
  The walks of the laws LittleSums and LittleJoins.
-/
import Derived.Test.YtgegginmdohklaaLAwake
import Derived.Test.YtgegginmdohklaaArgs
namespace Go.Proofs.Ytgegginmdohklaa
open Go.RowKit Go.Shelf Go.ChangeAt

theorem kept_below {w0 w : World} (h : Kept (Above w0.heap.size) w0 w) : Below w0.heap.size w0 w := h.below (Nat.le_refl _) (fun x hx e => by unfold Above at e; omega)

theorem below_kept {w0 w : World} (h : Below w0.heap.size w0 w) (F : Nat → Prop) : Kept F w0 w := Kept.ofBelow h

/-- What came in is still there. -/
theorem Src.low {w w' : World} {v : Value} {cs : List Nat} (h : Src w (fun k => k < w.heap.size) v cs) (hk : Kept (Above w.heap.size) w w') : Src w' (fun k => k < w.heap.size) v cs :=
  h.kept hk (fun k h1 _ h2 => by unfold Above at h2; omega)

theorem Kept.more {N : Nat} {w w1 w2 : World} {F : Nat → Prop} (h : Kept (Above N) w w1) (k : Kept F w1 w2) (hF : ∀ x, F x → N ≤ x) : Kept (Above N) w w2 :=
  h.trans k (fun _ _ e => e) (fun x _ e => hF x e)

theorem Kept.bel {N : Nat} {w w1 w2 : World} (h : Kept (Above N) w w1) (k : Below w1.heap.size w1 w2) : Kept (Above N) w w2 :=
  h.more (F := fun _ => False) (Kept.ofBelow k) (fun _ e => e.elim)

set_option maxHeartbeats 1000000 in
theorem sums_long (w : World) (s : Int) (a0 : Option Addr) (len0 cap0 : Nat) (h : 16777216 < len0) :
    Calls Try.prog 5 #[.int .u32 s, .slice a0 len0 cap0] w fun e w' => e = .returned (.bool true) ∧ Below w.heap.size w w' := by
  have hd1 : decide (16777216 < (len0 : Int)) = true := by simp; omega
  clear h
  go_enter Try.func5, Try.ntmps5
  go_wp2_with fail
  refine (awake_any _).mono ?_
  rintro e w1 ⟨rfl, hb⟩
  go_wp2_with fail
  go_ret
  exact ⟨rfl, hb⟩

set_option maxHeartbeats 1000000 in
theorem sums_walk (w : World) (s : Nat) (hs : s < 4294967296) (v : Value) (cs : List Nat) (hsrc : Src w (fun k => k < w.heap.size) v cs) (hb : ∀ b ∈ cs, b < 256) (hlen : cs.length ≤ 16777216) :
    Calls Try.prog 5 #[.int .u32 (s : Nat), v] w fun e w' => e = .returned (.bool true) ∧ Below w.heap.size w w' := by
  obtain ⟨ao, cap, rfl, _⟩ := id hsrc
  have HS : Hid (Src w (fun k => k < w.heap.size) (.slice ao cs.length cap) cs) := hsrc
  have HB : Hid (∀ b ∈ cs, b < 256) := hb
  have hd1 : decide (16777216 < (cs.length : Int)) = false := by simp; omega
  clear hsrc hb
  go_enter Try.func5, Try.ntmps5
  go_wp2_with fail
  refine (lent_any _ _ _ cs HS.out (by omega)).mono ?_
  rintro e w1 ⟨g, rfl, hrow, hk1, hg⟩
  have HR : Hid (Row w1 (.slice (some ⟨g, 0, none⟩) (cs.length + 1) (cs.length + 1)) (cs ++ [99])) := hrow
  have HK1 : Hid (Kept (Above w.heap.size) w w1) := hk1.mono (fun _ _ e => e.elim)
  clear hrow hk1
  go_wp2_with fail
  refine (lsum_any _ _ _ cs (Src.ofRow (Row.cut HR.out)) HB.out (by omega)).mono ?_
  rintro e w2 ⟨rfl, rfl⟩
  go_wp2_with fail
  refine (lmore_any _ _ _ cs (Src.ofRow (Row.cut HR.out)) HB.out s hs (by omega)).mono ?_
  rintro e w3 ⟨rfl, rfl⟩
  go_wp2_with fail
  refine (back_any _ g _ _ cs HR.out (HS.out.low HK1.out) (by omega)).mono ?_
  rintro e w4 ⟨rfl, hk4⟩
  have HK4 : Hid (Kept (Above w.heap.size) w w4) := HK1.out.more hk4 (fun x e => by omega)
  clear hk4 HK1 HR
  go_wp2_with fail
  refine (awake_any _).mono ?_
  rintro e w5 ⟨rfl, hb5⟩
  have HK5 : Hid (Kept (Above w.heap.size) w w5) := HK4.out.bel hb5
  clear hb5 HK4
  go_wp2_with fail
  refine (rsum_any _ _ _ cs (HS.out.low HK5.out) HB.out (by omega)).mono ?_
  rintro e w6 ⟨rfl, rfl⟩
  go_wp2_with fail
  refine (rmore_any _ _ _ cs (HS.out.low HK5.out) HB.out s hs (by omega)).mono ?_
  rintro e w7 ⟨rfl, rfl⟩
  go_wp2_with fail
  go_ret
  refine ⟨?_, kept_below HK5.out⟩
  first | rfl | simp

theorem littleSums_all (a0 : Int) (a1 : Option Addr) (len1 cap1 : Nat) (z1 : List Int) (w : World) (w0 : (Lit.int .u32 a0).wf = true) (w1 : IsRow .u8 w a1 len1 cap1 z1) :
    Calls Try.prog 5 #[.int .u32 a0, .slice a1 len1 cap1] w fun e w' => e = .returned (.bool true) ∧ Below w.heap.size w w' := by
  by_cases h : 16777216 < len1
  · exact sums_long w a0 a1 len1 cap1 h
  · obtain ⟨bs, hs, hl, hb⟩ := w1.src
    have h0 := bounds_u32 w0
    obtain ⟨s, rfl⟩ : ∃ s : Nat, a0 = s := ⟨a0.toNat, by omega⟩
    exact sums_walk w s (by omega) _ bs hs hb (by omega)

set_option maxHeartbeats 1000000 in
theorem joins_long (w : World) (a0 a1 : Option Addr) (len0 cap0 len1 cap1 : Nat) (h : 16777216 < len0 ∨ 16777216 < len1) :
    Calls Try.prog 7 #[.slice a0 len0 cap0, .slice a1 len1 cap1] w fun e w' => e = .returned (.bool true) ∧ Below w.heap.size w w' := by
  by_cases h0 : 16777216 < len0
  · have hd1 : decide (16777216 < (len0 : Int)) = true := by simp; omega
    clear h
    go_enter Try.func7, Try.ntmps7
    go_wp2_with fail
    refine (awake_any _).mono ?_
    rintro e w1 ⟨rfl, hb⟩
    go_wp2_with fail
    go_ret
    exact ⟨rfl, hb⟩
  · have hd1 : decide (16777216 < (len0 : Int)) = false := by simp; omega
    have hd2 : decide (16777216 < (len1 : Int)) = true := by simp; omega
    clear h
    go_enter Try.func7, Try.ntmps7
    go_wp2_with fail
    refine (awake_any _).mono ?_
    rintro e w1 ⟨rfl, hb⟩
    go_wp2_with fail
    go_ret
    exact ⟨rfl, hb⟩

set_option maxHeartbeats 1000000 in
theorem joins_walk (w : World) (va vb : Value) (xs bs : List Nat) (hsa : Src w (fun k => k < w.heap.size) va xs) (hsb : Src w (fun k => k < w.heap.size) vb bs) (hnil : ∀ n c, vb = .slice none n c → n = 0 ∧ c = 0) (ha : ∀ b ∈ xs, b < 256) (hb : ∀ b ∈ bs, b < 256) (hla : xs.length ≤ 16777216) (hlb : bs.length ≤ 16777216) :
    Calls Try.prog 7 #[va, vb] w fun e w' => e = .returned (.bool true) ∧ Below w.heap.size w w' := by
  obtain ⟨ao, ca, rfl, _⟩ := id hsa
  obtain ⟨bo, cb, rfl, _⟩ := id hsb
  have HSA : Hid (Src w (fun k => k < w.heap.size) (.slice ao xs.length ca) xs) := hsa
  have HSB : Hid (Src w (fun k => k < w.heap.size) (.slice bo bs.length cb) bs) := hsb
  have HA : Hid (∀ b ∈ xs, b < 256) := ha
  have HB : Hid (∀ b ∈ bs, b < 256) := hb
  have HN : Hid (∀ n c, (Value.slice bo bs.length cb) = .slice none n c → n = 0 ∧ c = 0) := hnil
  have hd1 : decide (16777216 < (xs.length : Int)) = false := by simp; omega
  have hd2 : decide (16777216 < (bs.length : Int)) = false := by simp; omega
  clear hsa hsb ha hb hnil
  go_enter Try.func7, Try.ntmps7
  go_wp2_with fail
  refine (lent_any _ _ _ xs HSA.out (by omega)).mono ?_
  rintro e w1 ⟨g, rfl, hrow, hk1, hg⟩
  have HF : Hid (Fresh w w1 (.slice (some ⟨g, 0, none⟩) xs.length (xs.length + 1)) xs) := ⟨Row.cut hrow, hk1, fun k e => by simp [Value.ownBlock] at e; omega⟩
  have HL : Hid (xs.length + bs.length ≤ 1000000000000) := by show _ ≤ _; omega
  clear hrow hk1
  go_wp2_with (at_builtin; refine wpList_append_any _ rfl (.tmp 16) (.tmp 17) rfl (.slice (some ⟨g, 0, none⟩) xs.length (xs.length + 1)) xs rfl HF.out.row _ (.slice bo bs.length cb) bs rfl HN.out (HSB.out.kept HF.out.kept (fun _ _ _ e => e)) HL.out ?_; intro v' w2 hrow hgr hv')
  have HG : Hid (Fresh w w2 v' (xs ++ bs)) := HF.out.app' hrow hgr hv'
  clear hrow hgr hv' HF
  go_wp2_with fail
  refine (awake_any _).mono ?_
  rintro e w3 ⟨rfl, hb3⟩
  have HG3 : Hid (Fresh w w3 v' (xs ++ bs)) := HG.out.bel hb3
  have HK3 : Hid (Kept (Above w.heap.size) w w3) := HG3.out.kept.mono (fun _ _ e => e.elim)
  clear hb3 HG
  go_wp2_with fail
  refine (lsum_any _ _ _ (xs ++ bs) HG3.out.src ?_ ?_).mono ?_
  · intro b hb
    rcases List.mem_append.1 hb with h | h
    · exact HA.out b h
    · exact HB.out b h
  · rw [List.length_append]; omega
  rintro e w4 ⟨rfl, rfl⟩
  go_wp2_with fail
  refine (lsum_any _ _ _ xs (HSA.out.low HK3.out) HA.out (by omega)).mono ?_
  rintro e w5 ⟨rfl, rfl⟩
  go_wp2_with fail
  refine (lmore_any _ _ _ bs (HSB.out.low HK3.out) HB.out (more 0 xs) (more_lt _ _) (by omega)).mono ?_
  rintro e w6 ⟨rfl, rfl⟩
  have he : more (more 0 xs) bs = more 0 (xs ++ bs) := (more_append 0 xs bs HA.out).symm
  rw [he]
  obtain ⟨S, hS⟩ : ∃ S, S = more 0 (xs ++ bs) := ⟨_, rfl⟩
  rw [← hS]
  have hd3 : decide ((S : Int) = (S : Int)) = true := by simp
  clear he hS
  go_wp2_with fail
  refine (lsum_any _ _ _ xs (HSA.out.low HK3.out) HA.out (by omega)).mono ?_
  rintro e w7 ⟨rfl, rfl⟩
  go_wp2_with fail
  refine (lmore_any _ _ (fun _ => True) [] ⟨_, _, rfl, fun h => absurd rfl h⟩ (by simp) (more 0 xs) (more_lt _ _) (by simp)).mono ?_
  rintro e w8 ⟨rfl, rfl⟩
  rw [more_nil _ (more_lt 0 xs)]
  go_wp2_with fail
  refine (lsum_any _ _ _ xs (HSA.out.low HK3.out) HA.out (by omega)).mono ?_
  rintro e w9 ⟨rfl, rfl⟩
  go_wp2_with fail
  go_ret
  refine ⟨?_, kept_below HK3.out⟩
  first | rfl | simp

theorem IsRow.nilCap {k : IntKind} {w : World} {a : Option Addr} {len cap : Nat} {zs : List Int} (h : IsRow k w a len cap zs) : ∀ n c, Value.slice a len cap = .slice none n c → n = 0 ∧ c = 0 := by
  intro n c e
  injection e with e1 e2 e3
  rcases h with ⟨_, h2, h3, _⟩ | ⟨x, h1, _⟩
  · omega
  · rw [h1] at e1; cases e1

theorem littleJoins_all (a0 : Option Addr) (len0 cap0 : Nat) (z0 : List Int) (a1 : Option Addr) (len1 cap1 : Nat) (z1 : List Int) (w : World) (w0 : IsRow .u8 w a0 len0 cap0 z0) (w1 : IsRow .u8 w a1 len1 cap1 z1) :
    Calls Try.prog 7 #[.slice a0 len0 cap0, .slice a1 len1 cap1] w fun e w' => e = .returned (.bool true) ∧ Below w.heap.size w w' := by
  by_cases h : 16777216 < len0 ∨ 16777216 < len1
  · exact joins_long w a0 a1 len0 cap0 len1 cap1 h
  · obtain ⟨xs, hsa, hla, hba⟩ := w0.src
    obtain ⟨bs, hsb, hlb, hbb⟩ := w1.src
    exact joins_walk w _ _ xs bs hsa hsb w1.nilCap hba hbb (by omega) (by omega)

end Go.Proofs.Ytgegginmdohklaa
