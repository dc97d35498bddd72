/-
  Layer 13's law ValidMore: what is noted more only adds clashes.
-/
import Derived.Test.YtlfibbghkdbomaaVaT
import Derived.Test.YtlfibbghkdbomaaVaNil
namespace Go.Proofs.Ytlfibbghkdbomaa
open Go.RowKit Go.Maps Go.Sort Go.Shelf

theorem claM_rd {M : Mv} {t : Int} {ws : List Wr} (k : Ke) (h : claM M t ws = true) : claM (rdM M k) t ws = true := by
  unfold claM at h ⊢
  rw [Bool.and_eq_true] at h ⊢
  refine ⟨h.1, ?_⟩
  obtain ⟨r, hr, hs⟩ := List.any_eq_true.1 h.2
  refine List.any_eq_true.2 ⟨r, hr, ?_⟩
  unfold sawM at hs ⊢
  rw [Bool.or_eq_true] at hs ⊢
  rcases hs with e | e
  · left
    show (if k = keO r then true else M.rd (keO r)) = true
    split
    · rfl
    · exact e
  · exact .inr e

theorem claM_ls {M : Mv} {t : Int} {ws : List Wr} (b : Bx) (h : claM M t ws = true) : claM (lsM M b) t ws = true := by
  unfold claM at h ⊢
  rw [Bool.and_eq_true] at h ⊢
  refine ⟨h.1, ?_⟩
  obtain ⟨r, hr, hs⟩ := List.any_eq_true.1 h.2
  refine List.any_eq_true.2 ⟨r, hr, ?_⟩
  unfold sawM at hs ⊢
  rw [Bool.or_eq_true] at hs ⊢
  rcases hs with e | e
  · exact .inl e
  · right
    show (if b = (keO r).1 then true else M.ls (keO r).1) = true
    split
    · rfl
    · exact e

theorem claM_new (a t : Int) (ws : List Wr) : claM (mv0 a) t ws = false := by
  unfold claM
  have : ws.any (fun r => sawM (mv0 a) (keO r)) = false := by rw [List.any_eq_false]; intro r _; show ¬ (false || false) = true; decide
  rw [this, Bool.and_false]

theorem claM_old {M : Mv} {t : Int} (ws : List Wr) (h : ¬ M.t < t) : claM M t ws = false := by
  unfold claM
  rw [decide_eq_false h, Bool.false_and]

/-- A set at work in the law: the commit beside it. -/
def Vm (w0 w1 wr : World) (t : Int) (p : Nat) (J : Nat → Prop) (K : Nat) (M : Mv) : Prop := Vx K wr p J M ∧ M.t = t ∧ (∀ k, J k → w1.heap.size ≤ k) ∧ Same w0 w1 ∧ Same w1 wr

set_option maxRecDepth 100000 in
set_option maxHeartbeats 4000000 in
theorem validMore_all (t : Int) (a : Option Addr) (len cap : Nat) (ks : List Ke) (a' : Option Addr) (len' cap' : Nat) (bs : List Bx) (x : Cm) (w : World) (_ht : (Lit.int .i64 t).wf = true) (hks : SrcC 3 keE w (fun j => j < w.heap.size) (.slice a len cap) ks ∧ ks.length = len ∧ len ≤ 9223372036854775807) (hbs : SrcC 2 bxC w (fun j => j < w.heap.size) (.slice a' len' cap') bs ∧ bs.length = len' ∧ len' ≤ 9223372036854775807) (hx : CmOk w (fun k => k < w.heap.size) x) :
    Calls Try.prog 4 #[.int .i64 t, .slice a len cap, .slice a' len' cap', .agg (cmC x).toArray] w fun e w' => e = .returned (.bool true) ∧ Below w.heap.size w w' := by
  suffices H : Calls Try.prog 4 #[.int .i64 t, .slice a len cap, .slice a' len' cap', .agg (cmC x).toArray] w fun e w' => e = .returned (.bool true) ∧ Same w w' from H.mono (fun e w' h => ⟨h.1, h.2.bel13⟩)
  show Calls Try.prog 4 #[.int .i64 t, .slice a len cap, .slice a' len' cap', .agg #[.int .i64 x.t, .slice x.a x.n x.c]] w _
  obtain ⟨wA, hwA⟩ : ∃ W, W = w.alloc (.cells #[.int .i64 x.t, .slice x.a x.n x.c] 45) := ⟨_, rfl⟩
  obtain ⟨xb, hxb⟩ : ∃ y, y = w.heap.size := ⟨_, rfl⟩
  have hka : Same w wA := by rw [hwA]; exact (Kept.refl _ w).alloc _
  have B1 : Blk wA xb #[.int .i64 x.t, .slice x.a x.n x.c] 45 := by rw [hwA, hxb]; exact Blk.new w _ _
  have HC : Hid (∀ w', Same wA w' → w'.cell? ⟨xb, 0, none⟩ = some (.int .i64 x.t) ∧ w'.cell? ⟨xb, 1, none⟩ = some (.slice x.a x.n x.c)) := hid (fun w' hk => ⟨(B1.kept hk (fun f => f)).cell 0, (B1.kept hk (fun f => f)).cell 1⟩)
  obtain ⟨c0, c1⟩ := HC.out wA (Kept.refl _ _)
  have HKA : Hid (Same w wA) := hka
  have hl : (1000 < len ∨ (¬ 1000 < len ∧ 1000 < len') ∨ (¬ 1000 < len ∧ ¬ 1000 < len' ∧ 1000 < x.n)) ∨ (¬ 1000 < len ∧ ¬ 1000 < len' ∧ ¬ 1000 < x.n) := by omega
  rcases hl with hl | ⟨l1, l2, l3⟩
  · rcases hl with l1 | ⟨l1, l2⟩ | ⟨l1, l2, l3⟩
    · have p1 : decide ((1000 : Int) < (len : Int)) = true := decide_eq_true (by omega)
      clear l1 B1 hka hks hbs hx
      rw [hwA, hxb] at c0 c1
      go_enter Try.func4, Try.ntmps4
      go_wp2_with fail
      go_ret
      exact ⟨rfl, by rw [← hwA]; exact HKA.out⟩
    · have p1 : decide ((1000 : Int) < (len : Int)) = false := decide_eq_false (by omega)
      have p2 : decide ((1000 : Int) < (len' : Int)) = true := decide_eq_true (by omega)
      clear l1 l2 B1 hka hks hbs hx
      rw [hwA, hxb] at c0 c1
      go_enter Try.func4, Try.ntmps4
      go_wp2_with fail
      go_ret
      exact ⟨rfl, by rw [← hwA]; exact HKA.out⟩
    · have p1 : decide ((1000 : Int) < (len : Int)) = false := decide_eq_false (by omega)
      have p2 : decide ((1000 : Int) < (len' : Int)) = false := decide_eq_false (by omega)
      have p3 : decide ((1000 : Int) < (x.n : Int)) = true := decide_eq_true (by omega)
      clear l1 l2 l3 B1 hka hks hbs hx
      rw [hwA, hxb] at c0 c1
      go_enter Try.func4, Try.ntmps4
      go_wp2_with fail
      go_ret
      exact ⟨rfl, by rw [← hwA]; exact HKA.out⟩
  · have p1 : decide ((1000 : Int) < (len : Int)) = false := decide_eq_false (by omega)
    have p2 : decide ((1000 : Int) < (len' : Int)) = false := decide_eq_false (by omega)
    have p3 : decide ((1000 : Int) < (x.n : Int)) = false := decide_eq_false (by omega)
    have HKS : Hid (len ≤ 1000 ∧ len' ≤ 1000 ∧ ks.length = len ∧ bs.length = len') := hid ⟨by omega, by omega, hks.2.1, hbs.2.1⟩
    have HSK : Hid (∀ w', Same wA w' → SrcC 3 keE w' (fun j => j < w.heap.size) (.slice a len cap) ks ∧ SrcC 2 bxC w' (fun j => j < w.heap.size) (.slice a' len' cap') bs ∧ CmOk w' (fun k => k < w.heap.size) x) := hid (fun w' hk => ⟨hks.1.kept keE_ok (hka.trans hk) (fun _ _ _ f => f), hbs.1.kept bxC_ok (hka.trans hk) (fun _ _ _ f => f), hx.kept (hka.trans hk) (fun _ _ _ f => f)⟩)
    clear l1 l2 l3 B1 hka hks hbs hx
    rw [hwA, hxb] at c0 c1
    go_enter Try.func4, Try.ntmps4
    go_wp2_with fail
    rw [← hwA, ← hxb]
    clear hwA hxb c0 c1
    refine (xvnew wA t).mono ?_
    rintro e w1 ⟨p, J, rfl, hx1, hJ1, hk1⟩
    have H1 : Hid (Vx 0 w1 p J (mv0 t) ∧ (∀ k, J k → wA.heap.size ≤ k) ∧ Same wA w1) := hid ⟨hx1, hJ1, hk1⟩
    clear hx1 hJ1 hk1
    obtain ⟨c0, c1⟩ := HC.out w1 H1.out.2.2
    have hcl : Calls Try.prog 13 #[.pointer (some ⟨p, 0, none⟩), .agg #[.int .i64 x.t, .slice x.a x.n x.c]] w1 fun e w' => e = .returned (.bool false) ∧ Same w1 w' := by
      have hcm := (HSK.out w1 H1.out.2.2).2.2
      have h9 := xvclash H1.out.1 x.t _ _ _ hcm.src hcm.big
      rw [claM_new] at h9
      exact h9
    go_wp2_with fail
    refine hcl.mono ?_
    rintro e w2 ⟨rfl, hk2⟩
    have H2 : Hid (Vx 0 w2 p J (mv0 t) ∧ (∀ k, J k → wA.heap.size ≤ k) ∧ Same wA w2) := hid ⟨H1.out.1.same hk2, H1.out.2.1, H1.out.2.2.trans hk2⟩
    clear c0 c1 hcl hk2 H1
    go_wp2_with fail
    go_loopg [10, 11] len (fun k z10 z11 wr => ∃ (i : Nat) (was : Bool), len - i ≤ k ∧ i ≤ len ∧ z10 = .bool was ∧ z11 = .int .i64 (i : Nat) ∧ Hid (∃ M, Vx i wr p J M ∧ M.t = t ∧ was = claM M x.t x.ws ∧ Same wA wr))
    case atStart => exact ⟨0, false, by omega, by omega, rfl, rfl, hid ⟨mv0 t, H2.out.1, rfl, (claM_new _ _ _).symm, H2.out.2.2⟩⟩
    case round =>
      obtain ⟨i, was, hk, hil, rfl, rfl, HI⟩ := hrel
      by_cases hlt : i < len
      · have hli : decide (i < len) = true := decide_eq_true hlt
        have hiw : IntKind.i64.wrap ((i : Int) + 1) = ((i + 1 : Nat) : Int) := by have := HKS.out.1; rw [IntKind.wrap_i64]; omega
        obtain ⟨M, hM, hMt, hMw, hMs⟩ := HI.out
        obtain ⟨ao, cap0, hsl, hcap, hcel⟩ := (HSK.out wr hMs).1
        have hlk : i < ks.length := by have := HKS.out.2.2.1; omega
        obtain ⟨b, o, hao, _, hcc⟩ := hcel (fun e => by rw [e] at hlk; simp at hlk)
        simp only [Value.slice.injEq] at hsl
        obtain ⟨ha0, -, -⟩ := hsl
        rw [hao] at ha0
        subst ha0
        obtain ⟨y, hy⟩ : ∃ y, y = ks[i] := ⟨_, rfl⟩
        have hcw : ∀ q u, q < 3 → (keE y)[q]? = some u → wr.cell? ⟨b, o + (i * 3 + q), none⟩ = some u := fun q u hq e => by rw [hcc i hlk q hq, ← hy, e]
        have k0 := hcw 0 (.string y.1.tn) (by decide) rfl
        have k1 := hcw 1 (.string y.1.ar) (by decide) rfl
        have k2 := hcw 2 (.string y.2.s) (by decide) rfl
        rw [Nat.add_zero] at k0
        simp only [← Nat.add_assoc] at k1 k2
        have hrd := xvread hM y (by have := HKS.out.1; omega)
        have HM : Hid (M.t = t ∧ was = claM M x.t x.ws ∧ Same wA wr) := hid ⟨hMt, hMw, hMs⟩
        clear hM hMt hMw hMs hcel hcc hcw hy hcap HI
        go_wp2_with fail
        refine hrd.mono ?_
        rintro e w4 ⟨rfl, hx4, hk4⟩
        have HS4 : Hid (Same wA w4) := hid (Kept.trans HM.out.2.2 hk4 (fun _ _ f => f) (fun k hlt2 e => by have := H2.out.2.1 k e; omega))
        have HX4 := hid hx4
        obtain ⟨c0, c1⟩ := HC.out w4 HS4.out
        have hcm := (HSK.out w4 HS4.out).2.2
        have hcl := xvclash hx4 x.t _ _ _ hcm.src hcm.big
        obtain ⟨is, his⟩ : ∃ q, q = claM (rdM M y) x.t x.ws := ⟨_, rfl⟩
        rw [← his] at hcl
        have hmono : was = true → is = true := fun e => by rw [his]; exact claM_rd y (by rw [← HM.out.2.1]; exact e)
        have HIS : Hid (is = claM (rdM M y) x.t x.ws ∧ (was = true → is = true)) := hid ⟨his, hmono⟩
        clear hx4 hk4 hcm his hmono k0 k1 k2 hrd
        go_wp2_with fail
        refine hcl.mono ?_
        rintro e w5 ⟨rfl, hk5⟩
        have HFi : Hid (∃ M, Vx (i + 1) w5 p J M ∧ M.t = t ∧ is = claM M x.t x.ws ∧ Same wA w5) := hid ⟨rdM M y, HX4.out.same hk5, HM.out.1, HIS.out.1, HS4.out.trans hk5⟩
        clear hk5 hcl c0 c1 HX4 HS4 HM
        cases was with
        | false =>
          go_wp2_with fail
          go_roundg (gk - 1)
          case measure => omega
          case rel => exact ⟨i + 1, is, by omega, by omega, rfl, by go_num, HFi⟩
        | true =>
          obtain rfl := HIS.out.2 rfl
          go_wp2_with fail
          go_roundg (gk - 1)
          case measure => omega
          case rel => exact ⟨i + 1, true, by omega, by omega, rfl, by go_num, HFi⟩
      · have hli : decide (i < len) = false := decide_eq_false hlt
        obtain rfl : i = len := by omega
        go_wp2_with fail
        have HI0 : Hid (∃ M, Vx (i + 0) wr p J M ∧ M.t = t ∧ was = claM M x.t x.ws ∧ Same wA wr) := HI
        obtain ⟨w6, hw6⟩ : ∃ W, W = wr := ⟨_, rfl⟩
        rw [← hw6] at HI0 ⊢
        clear hli hlt hk hil hw6 HI
        obtain ⟨gk0, hgk0⟩ : ∃ g, g = gk := ⟨_, rfl⟩
        clear hgk0
        go_loopg [10, 13] len' (fun k z10 z13 wr => ∃ (j : Nat) (was : Bool), len' - j ≤ k ∧ j ≤ len' ∧ z10 = .bool was ∧ z13 = .int .i64 (j : Nat) ∧ Hid (∃ M, Vx (i + j) wr p J M ∧ M.t = t ∧ was = claM M x.t x.ws ∧ Same wA wr))
        case atStart => exact ⟨0, was, by omega, by omega, rfl, rfl, HI0⟩
        case round =>
          obtain ⟨j, was2, hk, hjl, rfl, rfl, HI⟩ := hrel
          by_cases hlt : j < len'
          · have hli : decide (j < len') = true := decide_eq_true hlt
            have hiw : IntKind.i64.wrap ((j : Int) + 1) = ((j + 1 : Nat) : Int) := by have := HKS.out.2.1; rw [IntKind.wrap_i64]; omega
            obtain ⟨M, hM, hMt, hMw, hMs⟩ := HI.out
            obtain ⟨ao, cap0, hsl, hcap, hcel⟩ := (HSK.out wr hMs).2.1
            have hlk : j < bs.length := by have := HKS.out.2.2.2; omega
            obtain ⟨b, o, hao, _, hcc⟩ := hcel (fun e => by rw [e] at hlk; simp at hlk)
            simp only [Value.slice.injEq] at hsl
            obtain ⟨ha0, -, -⟩ := hsl
            rw [hao] at ha0
            subst ha0
            obtain ⟨y, hy⟩ : ∃ y, y = bs[j] := ⟨_, rfl⟩
            have hcw : ∀ q u, q < 2 → (bxC y)[q]? = some u → wr.cell? ⟨b, o + (j * 2 + q), none⟩ = some u := fun q u hq e => by rw [hcc j hlk q hq, ← hy, e]
            have k0 := hcw 0 (.string y.tn) (by decide) rfl
            have k1 := hcw 1 (.string y.ar) (by decide) rfl
            rw [Nat.add_zero] at k0
            simp only [← Nat.add_assoc] at k1
            have hrd := xvlist hM y (by have := HKS.out.1; have := HKS.out.2.1; omega)
            have HM : Hid (M.t = t ∧ was2 = claM M x.t x.ws ∧ Same wA wr) := hid ⟨hMt, hMw, hMs⟩
            clear hM hMt hMw hMs hcel hcc hcw hy hcap HI
            go_wp2_with fail
            refine hrd.mono ?_
            rintro e w4 ⟨rfl, hx4, hk4⟩
            have HS4 : Hid (Same wA w4) := hid (Kept.trans HM.out.2.2 hk4 (fun _ _ f => f) (fun k hlt2 e => by have := H2.out.2.1 k e; omega))
            have HX4 := hid hx4
            obtain ⟨c0, c1⟩ := HC.out w4 HS4.out
            have hcm := (HSK.out w4 HS4.out).2.2
            have hcl := xvclash hx4 x.t _ _ _ hcm.src hcm.big
            obtain ⟨is, his⟩ : ∃ q, q = claM (lsM M y) x.t x.ws := ⟨_, rfl⟩
            rw [← his] at hcl
            have hmono : was2 = true → is = true := fun e => by rw [his]; exact claM_ls y (by rw [← HM.out.2.1]; exact e)
            have HIS : Hid (is = claM (lsM M y) x.t x.ws ∧ (was2 = true → is = true)) := hid ⟨his, hmono⟩
            clear hx4 hk4 hcm his hmono k0 k1 hrd
            go_wp2_with fail
            refine hcl.mono ?_
            rintro e w5 ⟨rfl, hk5⟩
            have HFi : Hid (∃ M, Vx (i + (j + 1)) w5 p J M ∧ M.t = t ∧ is = claM M x.t x.ws ∧ Same wA w5) := hid ⟨lsM M y, HX4.out.same hk5, HM.out.1, HIS.out.1, HS4.out.trans hk5⟩
            clear hk5 hcl c0 c1 HX4 HS4 HM
            cases was2 with
            | false =>
              go_wp2_with fail
              go_roundg (gk - 1)
              case measure => omega
              case rel => exact ⟨j + 1, is, by omega, by omega, rfl, by go_num, HFi⟩
            | true =>
              obtain rfl := HIS.out.2 rfl
              go_wp2_with fail
              go_roundg (gk - 1)
              case measure => omega
              case rel => exact ⟨j + 1, true, by omega, by omega, rfl, by go_num, HFi⟩
          · have hli : decide (j < len') = false := decide_eq_false hlt
            obtain rfl : j = len' := by omega
            obtain ⟨M, hM, hMt, hMw, hMs⟩ := HI.out
            have HM : Hid ((x.t ≤ t → was2 = false) ∧ Same wA wr) := hid ⟨fun e => by rw [hMw]; exact claM_old _ (by rw [hMt]; omega), hMs⟩
            clear hM hMt hMw hMs
            go_wp2_with fail
            refine (vawake_any wr).mono ?_
            rintro e w7 ⟨rfl, hk7⟩
            have HS7 : Hid (Same w w7) := hid ((HKA.out.trans HM.out.2).trans hk7)
            obtain ⟨c0, c1⟩ := HC.out w7 (HM.out.2.trans hk7)
            clear hk7
            by_cases hgt : t < x.t
            · have hg1 : decide (t < x.t) = true := decide_eq_true hgt
              go_wp2_with fail
              go_ret
              exact ⟨rfl, HS7.out⟩
            · have hg1 : decide (t < x.t) = false := decide_eq_false hgt
              obtain rfl := HM.out.1 (by omega)
              go_wp2_with fail
              go_ret
              exact ⟨rfl, HS7.out⟩

end Go.Proofs.Ytlfibbghkdbomaa
