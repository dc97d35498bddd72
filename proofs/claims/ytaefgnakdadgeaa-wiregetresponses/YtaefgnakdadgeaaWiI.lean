/-
  Layer 19: is one of them so?
-/
import Derived.Test.YtaefgnakdadgeaaWiE
namespace Go.Proofs.Ytaefgnakdadgeaa
open Go.RowKit

/-- What IndexFunc tells. -/
def IxA {α : Type} (P : α → Bool) (l : List α) (w : World) (e : Ending) (w' : World) : Prop := (∃ r : Int, e = .returned (.int .i64 r) ∧ decide (0 ≤ r) = l.any P) ∧ Same w w'

theorem any_take {α : Type} (P : α → Bool) (l : List α) (i : Nat) (h : i < l.length) (h0 : (l.take i).any P = false) (h1 : P l[i] = false) : (l.take (i + 1)).any P = false := by
  rw [List.take_succ_eq_append_getElem h, List.any_append, h0]
  simp [h1]

set_option maxRecDepth 100000 in
set_option maxHeartbeats 1000000 in
theorem findex19 (w : World) (p : Nat) (ao : Option Addr) (n c : Nat) (I : Nat → Prop) (l : List Fd) (hl : SrcC 1 (fdE p) w I (.slice ao n c) l) (hn : l.length ≤ 100) (f : Nat) (cap : Array Value) (P : Fd → Bool) (hmf : ∀ args w, (callFunc f args).run Try.prog w = .ok (.enter f args) w)
    (hp : ∀ x ∈ l, ∀ wx, Same w wx → Calls Try.prog f (#[fdV p x] ++ cap) wx fun e w' => e = .returned (.bool (P x)) ∧ Same wx w') :
    Calls Try.prog 57 #[.slice ao n c, .func (.func f) #[] cap] w fun e w' => IxA P l w e w' := by
  obtain ⟨ao2, cap2, he, _, _⟩ := id hl
  simp only [Value.slice.injEq] at he
  obtain ⟨rfl, hnl, rfl⟩ := he
  have HL := hid hl
  have HP := hid hp
  have HN : Hid (n = l.length ∧ n ≤ 100) := hid ⟨hnl, by omega⟩
  clear hl hp hnl hn
  go_enter Try.func57, Try.ntmps57
  go_wp2_with fail
  go_loopg [8] n (fun k z wr => ∃ i : Nat, n - i ≤ k ∧ i ≤ n ∧ z = .int .i64 (i : Nat) ∧ Hid ((l.take i).any P = false ∧ Same w wr))
  case atStart => exact ⟨0, by omega, by omega, rfl, hid ⟨by simp, Kept.refl _ _⟩⟩
  case round =>
    obtain ⟨i, hk, hil, rfl, HX⟩ := hrel
    by_cases hlt : i < n
    · obtain ⟨ao2, cap2, he, _, hcells⟩ := (HL.out.kept (fdE_ok p) HX.out.2 (fun _ _ _ f => f))
      simp only [Value.slice.injEq] at he
      obtain ⟨rfl, hnl, rfl⟩ := he
      obtain ⟨b, o, rfl, hIb, hce⟩ := hcells (fun e => by rw [e] at hnl; simp at hnl; omega)
      have c0 := hce i (by omega) 0 (by decide)
      rw [Nat.mul_one, Nat.add_zero] at c0
      obtain ⟨x, hx⟩ : ∃ x, x = l[i]'(by omega) := ⟨_, rfl⟩
      rw [← hx] at c0
      simp only [fdE, List.getElem?_cons_zero] at c0
      have hxl : x ∈ l := by rw [hx]; exact List.getElem_mem _
      have HC := HP.out x hxl wr HX.out.2
      have HANY : Hid (P x = true → l.any P = true) := hid (fun h => List.any_eq_true.2 ⟨x, hxl, h⟩)
      have HNO : Hid (P x = false → (l.take (i + 1)).any P = false) := hid (fun h => any_take P l i (by omega) HX.out.1 (by rw [← hx]; exact h))
      have hiw : IntKind.i64.wrap ((i : Int) + 1) = ((i + 1 : Nat) : Int) := by have := HN.out; rw [IntKind.wrap_i64]; omega
      obtain ⟨v, hv⟩ : ∃ v, v = fdV p x := ⟨_, rfl⟩
      rw [← hv] at c0 HC
      clear hce hcells hx hnl hxl hv
      cases hb : P x with
      | true =>
        rw [hb] at HC
        have HE := hid (HANY.out hb)
        clear hb
        go_wp2_with fail
        refine HC.mono ?_
        rintro e w2 ⟨rfl, hk2⟩
        have HK2 := hid (Same.trans HX.out.2 hk2)
        clear hk2 HC
        go_wp2_with fail
        go_ret
        exact ⟨⟨(i : Int), rfl, by rw [HE.out]; simp⟩, HK2.out⟩
      | false =>
        rw [hb] at HC
        have HE := hid (HNO.out hb)
        clear hb
        go_wp2_with fail
        refine HC.mono ?_
        rintro e w2 ⟨rfl, hk2⟩
        have HX2 : Hid ((l.take (i + 1)).any P = false ∧ Same w w2) := hid ⟨HE.out, Same.trans HX.out.2 hk2⟩
        clear hk2 HC
        go_wp2_with fail
        go_roundg (gk - 1)
        case measure => omega
        case rel => exact ⟨i + 1, by omega, by omega, by go_num, HX2⟩
    · obtain rfl : i = n := by omega
      have hli : decide (i < i) = false := by simp
      go_wp2_with fail
      go_ret
      have h9 := HX.out.1
      rw [List.take_of_length_le (by have := HN.out.1; omega)] at h9
      exact ⟨⟨-1, rfl, by rw [h9]; rfl⟩, HX.out.2⟩

set_option maxHeartbeats 400000 in
theorem fcontains19 (w : World) (p : Nat) (ao : Option Addr) (n c : Nat) (I : Nat → Prop) (l : List Fd) (hl : SrcC 1 (fdE p) w I (.slice ao n c) l) (hn : l.length ≤ 100) (f : Nat) (cap : Array Value) (P : Fd → Bool) (hmf : ∀ args w, (callFunc f args).run Try.prog w = .ok (.enter f args) w)
    (hp : ∀ x ∈ l, ∀ wx, Same w wx → Calls Try.prog f (#[fdV p x] ++ cap) wx fun e w' => e = .returned (.bool (P x)) ∧ Same wx w') :
    Calls Try.prog 46 #[.slice ao n c, .func (.func f) #[] cap] w fun e w' => e = .returned (.bool (l.any P)) ∧ Same w w' := by
  have H := findex19 w p ao n c I l hl hn f cap P hmf hp
  obtain ⟨B, hB⟩ : ∃ B, B = l.any P := ⟨_, rfl⟩
  have HB := hid hB
  rw [← hB]
  clear hl hp hn hB
  go_enter Try.func46, Try.ntmps46
  go_wp2_with fail
  refine H.mono ?_
  rintro e w2 ⟨⟨r, rfl, hr⟩, hk⟩
  have HK := hid hk
  have HR : Hid (decide (0 ≤ r) = B) := hid (by rw [hr, HB.out])
  clear hk H hr
  go_wp2_with fail
  go_ret
  exact ⟨by rw [← HR.out]; rfl, HK.out⟩

set_option maxRecDepth 100000 in
set_option maxHeartbeats 1000000 in
/-- The closure of wrong. -/
theorem wrong1_any (w : World) (p t g : Nat) (cs : List Cel) (f : Fd) (z : Nat) (hO : Ob w p t cs) (hf : f.fits cs) (hg : w.cell? ⟨g, 0, none⟩ = some (.int .i64 (z : Nat))) :
    Calls Try.prog 47 #[fdV p f, .pointer (some ⟨g, 0, none⟩)] w fun e w' => e = .returned (.bool (decide (wrongF cs f = z))) ∧ Same w w' := by
  have hm1 := Try.mnwrong
  have hm2 := Try.mtwrong
  cases f with
  | num i =>
    obtain ⟨x, hx⟩ := hf
    have HC := fun wx (hk : Same w wx) => nwrong_any wx p i x ((hO.kept hk (fun f => f)).cell hx)
    obtain ⟨q, hq⟩ : ∃ q, q = numA x := ⟨_, rfl⟩
    have hqw : wrongF cs (.num i) = q := by simp [wrongF, hx, hq]
    rw [hqw]
    rw [← hq] at HC
    have HC9 := hid HC
    clear hO hx hq hqw HC
    have e1 : ((q : Int) == (z : Int)) = decide (q = z) := by rw [Bool.eq_iff_iff]; simp only [beq_iff_eq, decide_eq_true_eq]; omega
    have e2 : (q == z) = decide (q = z) := by rw [Bool.eq_iff_iff]; simp
    have e3 : decide ((q : Int) = (z : Int)) = decide (q = z) := by rw [Bool.eq_iff_iff]; simp only [decide_eq_true_eq]; omega
    obtain ⟨B, hB⟩ : ∃ B, B = decide (q = z) := ⟨_, rfl⟩
    rw [← hB] at e1 e2 e3 ⊢
    clear hB
    unfold fdV
    go_enter Try.func47, Try.ntmps47
    go_wp2_with fail
    go_region_with (go_at_call 83; refine (HC9.out _ (by first | exact Kept.refl _ _ | exact (Kept.refl _ _).drew | exact (Kept.refl _ _).drewN _)).mono ?_; rintro e w2 ⟨rfl, hk2⟩; have g2 := hk2.cell hg (fun f => f))
    all_goals
      go_wp2_with fail
      go_ret
      exact ⟨rfl, by first | exact hk2 | exact undrew19 hk2⟩
  | txt i m =>
    obtain ⟨⟨T, hx⟩, _⟩ := hf
    have HC := fun wx (hk : Same w wx) => twrong_any wx p i m T ((hO.kept hk (fun f => f)).cell hx)
    obtain ⟨q, hq⟩ : ∃ q, q = (if m < T.size then 2 else 0 : Nat) := ⟨_, rfl⟩
    have hqw : wrongF cs (.txt i m) = q := by simp [wrongF, hx, hq]
    rw [hqw]
    rw [← hq] at HC
    have HC9 := hid HC
    clear hO hx hq hqw HC
    have e1 : ((q : Int) == (z : Int)) = decide (q = z) := by rw [Bool.eq_iff_iff]; simp only [beq_iff_eq, decide_eq_true_eq]; omega
    have e2 : (q == z) = decide (q = z) := by rw [Bool.eq_iff_iff]; simp
    have e3 : decide ((q : Int) = (z : Int)) = decide (q = z) := by rw [Bool.eq_iff_iff]; simp only [decide_eq_true_eq]; omega
    obtain ⟨B, hB⟩ : ∃ B, B = decide (q = z) := ⟨_, rfl⟩
    rw [← hB] at e1 e2 e3 ⊢
    clear hB
    unfold fdV
    go_enter Try.func47, Try.ntmps47
    go_wp2_with fail
    go_region_with (go_at_call 90; refine (HC9.out _ (by first | exact Kept.refl _ _ | exact (Kept.refl _ _).drew | exact (Kept.refl _ _).drewN _)).mono ?_; rintro e w2 ⟨rfl, hk2⟩; have g2 := hk2.cell hg (fun f => f))
    all_goals
      go_wp2_with fail
      go_ret
      exact ⟨rfl, by first | exact hk2 | exact undrew19 hk2⟩

theorem Try.enterw1 : ∀ args w, (callFunc 47 args).run Try.prog w = .ok (.enter 47 args) w := enters_of Try.func47 (by kernel_rfl) rfl

/-- What is wrong with fields. -/
def wrongL (cs : List Cel) (l : List Fd) : Nat := if l.any (fun f => decide (wrongF cs f = 1)) then 1 else if l.any (fun f => decide (wrongF cs f = 2)) then 2 else 0

theorem wrongL_zero {cs : List Cel} {l : List Fd} (h : wrongL cs l = 0) : ∀ f ∈ l, wrongF cs f = 0 := by
  intro f hf
  unfold wrongL at h
  split at h
  · cases h
  split at h
  · cases h
  next h1 h2 =>
    simp only [List.any_eq_true, decide_eq_true_eq, not_exists, not_and] at h1 h2
    have a1 := h1 f hf
    have a2 := h2 f hf
    cases f with
    | num i =>
      simp only [wrongF] at a1 a2 ⊢
      split <;> simp_all [numA]
    | txt i m =>
      simp only [wrongF] at a1 a2 ⊢
      split <;> simp_all

set_option maxRecDepth 100000 in
set_option maxHeartbeats 1000000 in
theorem wrong_any (w : World) (p t : Nat) (cs : List Cel) (hO : Ob w p t cs) (ao : Option Addr) (n c : Nat) (I : Nat → Prop) (l : List Fd) (hl : SrcC 1 (fdE p) w I (.slice ao n c) l) (hn : l.length ≤ 10) (hf : ∀ f ∈ l, f.fits cs) :
    Calls Try.prog 27 #[.slice ao n c] w fun e w' => e = .returned (.int .i64 (wrongL cs l : Nat)) ∧ Same w w' := by
  have HC : ∀ (z : Nat), Hid (∀ W g, Same w W → W.cell? ⟨g, 0, none⟩ = some (.int .i64 (z : Nat)) → Calls Try.prog 46 #[.slice ao n c, .func (.func 47) #[] #[.pointer (some ⟨g, 0, none⟩)]] W fun e w' => e = .returned (.bool (l.any (fun f => decide (wrongF cs f = z)))) ∧ Same W w') := fun z => hid (fun W g hk hg =>
    fcontains19 W p ao n c I l (hl.kept (fdE_ok p) hk (fun _ _ _ f => f)) (by omega) 47 #[.pointer (some ⟨g, 0, none⟩)] (fun f => decide (wrongF cs f = z)) Try.enterw1 (fun x hx wx hkx => wrong1_any wx p t g cs x z (hO.kept (Same.trans hk hkx) (fun f => f)) (hf x hx) (hkx.cell hg (fun f => f))))
  have H1 := HC 1
  have H2 := HC 2
  have HW : Hid (wrongL cs l = if l.any (fun f => decide (wrongF cs f = 1)) then 1 else if l.any (fun f => decide (wrongF cs f = 2)) then 2 else 0) := hid rfl
  obtain ⟨B1, hB1⟩ : ∃ B, B = l.any (fun f => decide (wrongF cs f = 1)) := ⟨_, rfl⟩
  obtain ⟨B2, hB2⟩ : ∃ B, B = l.any (fun f => decide (wrongF cs f = 2)) := ⟨_, rfl⟩
  rw [← hB1] at H1 HW
  rw [← hB2] at H2 HW
  obtain ⟨R, hR⟩ : ∃ R, R = wrongL cs l := ⟨_, rfl⟩
  rw [← hR] at HW ⊢
  clear hO hl hn hf HC hB1 hB2 hR
  obtain ⟨W1, hW1⟩ : ∃ W, W = w.alloc (.cells #[.int .i64 1, .int .i64 2] 27) := ⟨_, rfl⟩
  obtain ⟨lb, hlb⟩ : ∃ b, b = w.heap.size := ⟨_, rfl⟩
  have HK1 : Hid (Same w W1) := hid (by rw [hW1]; exact (Kept.refl _ w).alloc _)
  have HB1 : Hid (Blk W1 lb #[.int .i64 1, .int .i64 2] 27) := hid (by rw [hW1, hlb]; exact Blk.new w _ _)
  obtain ⟨y0, y1, _, _⟩ := HB1.out.two
  go_enter Try.func27, Try.ntmps27
  go_wp2_with fail
  rw [← hW1, ← hlb]
  clear hW1 hlb
  have hmf : ∀ (fn : Fn) (first cap : Array Value) (w : World), (Instr.makeFunc fn first cap).run Try.prog w = .ok (.func fn first cap) w := fun _ _ _ _ => rfl
  obtain ⟨W2, hW2⟩ : ∃ W, W = W1.alloc (.cells #[.int .i64 1] 27) := ⟨_, rfl⟩
  obtain ⟨eb, heb⟩ : ∃ b, b = W1.heap.size := ⟨_, rfl⟩
  have HK2 : Hid (Same w W2) := hid (by rw [hW2]; exact HK1.out.alloc _)
  have hc2 : W2.cell? ⟨eb, 0, none⟩ = some (.int .i64 1) := by have := (Blk.new W1 #[.int .i64 1] 27).cell 0; rw [← hW2, ← heb] at this; simpa using this
  have HB2 : Hid (Blk W2 lb #[.int .i64 1, .int .i64 2] 27) := hid (by rw [hW2]; exact HB1.out.kept ((Kept.refl (fun _ => False) _).alloc _) (fun f => f))
  have HC1 := H1.out W2 eb HK2.out hc2
  refine wp_loop_rounds 3 ?_
  rw [rounds_succ]
  go_wp2_with fail
  rw [← hW2, ← heb]
  clear hW2 heb
  refine HC1.mono ?_
  rintro e w3 ⟨rfl, hk3⟩
  have HK3 := hid (Same.trans HK2.out hk3)
  have HB3 : Hid (Blk w3 lb #[.int .i64 1, .int .i64 2] 27) := hid (HB2.out.kept hk3 (fun f => f))
  have hc3 := hk3.cell hc2 (fun f => f)
  clear hk3 HC1 hc2 y0 y1
  cases B1 with
  | true =>
    go_wp2_with fail
    go_ret
    exact ⟨by rw [HW.out]; rfl, HK3.out⟩
  | false =>
    obtain ⟨y0, y1, _, _⟩ := HB3.out.two
    obtain ⟨W4, hW4⟩ : ∃ W, W = w3.alloc (.cells #[.int .i64 2] 27) := ⟨_, rfl⟩
    obtain ⟨eb2, heb2⟩ : ∃ b, b = w3.heap.size := ⟨_, rfl⟩
    have HK4 : Hid (Same w W4) := hid (by rw [hW4]; exact HK3.out.alloc _)
    have hc4 : W4.cell? ⟨eb2, 0, none⟩ = some (.int .i64 2) := by have := (Blk.new w3 #[.int .i64 2] 27).cell 0; rw [← hW4, ← heb2] at this; simpa using this
    have HC2 := H2.out W4 eb2 HK4.out hc4
    go_wp2_with fail
    rw [rounds_succ]
    go_wp2_with fail
    rw [← hW4, ← heb2]
    clear hW4 heb2
    refine HC2.mono ?_
    rintro e w5 ⟨rfl, hk5⟩
    have HK5 := hid (Same.trans HK4.out hk5)
    have hc5 := hk5.cell hc4 (fun f => f)
    clear hk5 HC2 hc4 y0 y1 hc3
    cases B2 with
    | true =>
      go_wp2_with fail
      go_ret
      exact ⟨by rw [HW.out]; rfl, HK5.out⟩
    | false =>
      go_wp2_with fail
      rw [rounds_succ]
      go_wp2_with fail
      go_ret
      exact ⟨by rw [HW.out]; rfl, HK5.out⟩

end Go.Proofs.Ytaefgnakdadgeaa
