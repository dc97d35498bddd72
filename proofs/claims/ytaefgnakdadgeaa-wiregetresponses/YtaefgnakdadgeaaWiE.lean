/-
  Layer 19: a field read.
-/
import Derived.Test.YtaefgnakdadgeaaWiD
import Derived.RegionDies
namespace Go.Proofs.Ytaefgnakdadgeaa
open Go.RowKit

/-- What a field is read as. -/
def readF (cs : List Cel) : Fd → List Nat → Option (List Cel × List Nat)
  | .num i, r => bnd8 (nm8 4 r) fun q => if q.1 ≤ 1000000000 then some (cs.set i (.n (q.1 : Nat)), q.2) else none
  | .txt i m, r => bnd8 (nm8 2 r) fun q => if q.1 ≤ m then bnd8 (tk8 q.1 q.2) (fun s => some (cs.set i (.s (txt s.1)), s.2)) else none

/-- What reading tells. -/
def RdA (N : Nat) (w w' : World) (c p t : Nat) (o : Option (List Cel × List Nat)) (e : Ending) : Prop :=
  (∀ cs' y, o = some (cs', y) → e = .returned (.tuple #[]) ∧ ∃ a' cap', Cu19 N w' c y a' cap' ∧ Ob w' p t cs' ∧ Kept (fun k => k = c ∨ k = p) w w') ∧ (o = none → e = pan19 190 ∧ Kept (fun k => k = c ∨ k = p) w w')

theorem RdA.good {N : Nat} {w w' : World} {c p t : Nat} {o : Option (List Cel × List Nat)} {cs' : List Cel} {y : List Nat} (h : o = some (cs', y)) {a' : Option Addr} {cap' : Nat} (h1 : Cu19 N w' c y a' cap') (h2 : Ob w' p t cs') (h3 : Kept (fun k => k = c ∨ k = p) w w') : RdA N w w' c p t o (.returned (.tuple #[])) :=
  ⟨fun cs9 y9 h9 => by rw [h] at h9; simp only [Option.some.injEq, Prod.mk.injEq] at h9; obtain ⟨rfl, rfl⟩ := h9; exact ⟨rfl, a', cap', h1, h2, h3⟩, fun h9 => by rw [h] at h9; cases h9⟩

theorem RdA.bad {N : Nat} {w w' : World} {c p t : Nat} {o : Option (List Cel × List Nat)} (h : o = none) (h3 : Kept (fun k => k = c ∨ k = p) w w') : RdA N w w' c p t o (pan19 190) :=
  ⟨fun cs9 y9 h9 => (by rw [h] at h9; cases h9), fun _ => ⟨rfl, h3⟩⟩

theorem same_or19 {w w' : World} (F : Nat → Prop) (h : Same w w') : Kept F w w' := h.mono (fun _ _ f => f.elim)

set_option maxRecDepth 100000 in
set_option maxHeartbeats 400000 in
theorem nread_any (N : Nat) (w : World) (c : Nat) (r : List Nat) (a : Option Addr) (cap : Nat) (h : Cu19 N w c r a cap) (p t i : Nat) (cs : List Cel) (hO : Ob w p t cs) (hf : (Fd.num i).fits cs) (hpc : p ≠ c) (hpN : N ≤ p) :
    Calls Try.prog 82 #[.agg #[.pointer (some ⟨p, i, none⟩)], .pointer (some ⟨c, 0, none⟩)] w fun e w' => RdA N w w' c p t (readF cs (.num i) r) e := by
  obtain ⟨x0, hx0⟩ := hf
  obtain ⟨W1, hW1⟩ : ∃ W, W = w.alloc (.cells #[.pointer (some ⟨p, i, none⟩)] 79) := ⟨_, rfl⟩
  obtain ⟨xb, hxb⟩ : ∃ b, b = w.heap.size := ⟨_, rfl⟩
  have HK : Hid (Same w W1) := hid (by rw [hW1]; exact (Kept.refl _ w).alloc _)
  have HB : Hid (Blk W1 xb #[.pointer (some ⟨p, i, none⟩)] 79) := hid (by rw [hW1, hxb]; exact Blk.new w _ _)
  have HX : Hid (xb ≠ c ∧ xb ≠ p) := hid (by have := hO.lt; have := Blk.lt h.blk; omega)
  have HF := four19_any N W1 c r a cap (h.kept HK.out (fun f => f) (fun _ _ f => f))
  have HO : Hid (Ob W1 p t cs ∧ cs[i]? = some (.n x0) ∧ p ≠ c ∧ N ≤ p) := hid ⟨hO.kept HK.out (fun f => f), hx0, hpc, hpN⟩
  have hn := h.new
  have HN := hid hn
  clear hO hx0 h hpc hpN hn
  go_enter Try.func82, Try.ntmps82
  go_upto_region 1 with fail
  rw [← hW1, ← hxb]
  clear hW1 hxb
  cases hm : nm8 4 r with
  | none =>
    have HM := hid hm
    clear hm
    go_wp2_with fail
    refine HF.mono ?_
    intro e w2 h2
    obtain ⟨rfl, hk⟩ := h2.2 HM.out
    have HK2 := hid (Same.trans HK.out hk)
    clear h2 hk HF
    unfold pan19
    go_wp2_with fail
    exact ⟨rfl, RdA.bad (by show bnd8 (nm8 4 r) _ = none; rw [HM.out]; rfl) (same_or19 _ HK2.out)⟩
  | some q =>
    obtain ⟨x, y⟩ := q
    have HM := hid hm
    clear hm
    go_wp2_with fail
    refine HF.mono ?_
    intro e w2 h2
    obtain ⟨a', cap', rfl, hlt, hcu, hk⟩ := h2.1 x y HM.out
    have HK2 : Hid (Kept (fun k => k = c ∨ k = p) w w2) := hid (Kept.trans HK.out hk (fun _ _ f => f.elim) (fun _ _ f => .inl f))
    have HCU := hid hcu
    have HB2 : Hid (Blk w2 xb #[.pointer (some ⟨p, i, none⟩)] 79) := hid (HB.out.kept hk HX.out.1)
    have HO2 : Hid (Ob w2 p t cs) := hid (HO.out.1.kept hk HO.out.2.2.1)
    have hlt4 : x < 4294967296 := hlt
    clear h2 hlt hk HF hcu
    have hxw : IntKind.i64.wrap (x : Int) = (x : Int) := by rw [IntKind.wrap_i64]; omega
    by_cases hle : x ≤ 1000000000
    · have d1 : decide ((x : Int) ≤ 1000000000) = true := by simp; omega
      have d2 : decide (x ≤ 1000000000) = true := by simp; omega
      have HLE := hid hle
      have HOK := need19_ok w2 (.int .i64 190)
      have b0 := HB2.out.cell 0
      simp at b0
      have c1 : w2.cell? ⟨p, i, none⟩ = some (.int .i64 x0) := HO2.out.cell HO.out.2.1
      have f1 := HO2.out.frozen i
      have HKS : Hid (Kept (· = p) w2 (w2.setCell ⟨p, i, none⟩ (.int .i64 (x : Nat)))) := hid ((Kept.refl _ _).setCell _ _ (.inl rfl))
      clear hle hlt4
      go_wp2_with fail
      refine HOK.mono ?_
      rintro e w3 ⟨rfl, hw3⟩
      subst hw3
      clear HOK
      go_wp2_with fail
      go_end0
      have hks := HKS.out
      refine RdA.good (by show bnd8 (nm8 4 r) _ = _; rw [HM.out]; show (if x ≤ 1000000000 then _ else _) = _; rw [if_pos HLE.out]) (HCU.out.kept hks (fun e => HO.out.2.2.1 e.symm) (fun k hk e => by have := HO.out.2.2.2; omega)) (HO2.out.set i (.n (x : Nat))) (Kept.trans HK2.out hks (fun _ _ f => f) (fun _ _ f => .inr f))
    · have d1 : decide ((x : Int) ≤ 1000000000) = false := by simp; omega
      have d2 : decide (x ≤ 1000000000) = false := by simp; omega
      have HLE := hid hle
      have HBD := need19_bad w2 190
      clear hle hlt4
      go_wp2_with fail
      refine HBD.mono ?_
      rintro e w3 ⟨rfl, hw3⟩
      subst hw3
      clear HBD
      unfold pan19
      go_wp2_with fail
      exact ⟨rfl, RdA.bad (by show bnd8 (nm8 4 r) _ = none; rw [HM.out]; show (if x ≤ 1000000000 then _ else _) = none; rw [if_neg HLE.out]) HK2.out⟩

set_option maxRecDepth 100000 in
set_option maxHeartbeats 400000 in
theorem tread_any (N : Nat) (w : World) (c : Nat) (r : List Nat) (a : Option Addr) (cap : Nat) (h : Cu19 N w c r a cap) (p t i m : Nat) (cs : List Cel) (hO : Ob w p t cs) (hf : (Fd.txt i m).fits cs) (hpc : p ≠ c) (hpN : N ≤ p) :
    Calls Try.prog 89 #[.agg #[.pointer (some ⟨p, i, none⟩), .int .i64 (m : Nat)], .pointer (some ⟨c, 0, none⟩)] w fun e w' => RdA N w w' c p t (readF cs (.txt i m) r) e := by
  obtain ⟨⟨T0, hx0⟩, hm9⟩ := hf
  obtain ⟨W1, hW1⟩ : ∃ W, W = w.alloc (.cells #[.pointer (some ⟨p, i, none⟩), .int .i64 (m : Nat)] 82) := ⟨_, rfl⟩
  obtain ⟨xb, hxb⟩ : ∃ b, b = w.heap.size := ⟨_, rfl⟩
  have HK : Hid (Same w W1) := hid (by rw [hW1]; exact (Kept.refl _ w).alloc _)
  have HB : Hid (Blk W1 xb #[.pointer (some ⟨p, i, none⟩), .int .i64 (m : Nat)] 82) := hid (by rw [hW1, hxb]; exact Blk.new w _ _)
  have HX : Hid (xb ≠ c ∧ xb ≠ p) := hid (by have := hO.lt; have := Blk.lt h.blk; omega)
  have HF := two19_any N W1 c r a cap (h.kept HK.out (fun f => f) (fun _ _ f => f))
  have HO : Hid (Ob W1 p t cs ∧ cs[i]? = some (.s T0) ∧ p ≠ c ∧ N ≤ p ∧ m ≤ 16384) := hid ⟨hO.kept HK.out (fun f => f), hx0, hpc, hpN, hm9⟩
  have hn := h.new
  have HN := hid hn
  clear hO hx0 h hpc hpN hn hm9
  go_enter Try.func89, Try.ntmps89
  go_upto_region 1 with fail
  rw [← hW1, ← hxb]
  clear hW1 hxb
  cases hm : nm8 2 r with
  | none =>
    have HM := hid hm
    clear hm
    go_wp2_with fail
    refine HF.mono ?_
    intro e w2 h2
    obtain ⟨rfl, hk⟩ := h2.2 HM.out
    have HK2 := hid (Same.trans HK.out hk)
    clear h2 hk HF
    unfold pan19
    go_wp2_with fail
    exact ⟨rfl, RdA.bad (by show bnd8 (nm8 2 r) _ = none; rw [HM.out]; rfl) (same_or19 _ HK2.out)⟩
  | some q =>
    obtain ⟨x, y⟩ := q
    have HM := hid hm
    clear hm
    go_wp2_with fail
    refine HF.mono ?_
    intro e w2 h2
    obtain ⟨a', cap', rfl, hlt, hcu, hk⟩ := h2.1 x y HM.out
    have HK2 : Hid (Kept (fun k => k = c ∨ k = p) w w2) := hid (Kept.trans HK.out hk (fun _ _ f => f.elim) (fun _ _ f => .inl f))
    have HCU := hid hcu
    have HB2 : Hid (Blk w2 xb #[.pointer (some ⟨p, i, none⟩), .int .i64 (m : Nat)] 82) := hid (HB.out.kept hk HX.out.1)
    have HO2 : Hid (Ob w2 p t cs) := hid (HO.out.1.kept hk HO.out.2.2.1)
    have hlt4 : x < 65536 := hlt
    clear h2 hlt hk HF hcu
    have hxw : IntKind.i64.wrap (x : Int) = (x : Int) := by rw [IntKind.wrap_i64]; omega
    obtain ⟨z0, z1, z2, z3⟩ := HB2.out.two
    by_cases hle : x ≤ m
    · have d1 : decide ((x : Int) ≤ (m : Int)) = true := by simp; omega
      have d2 : decide (x ≤ m) = true := by simp; omega
      have HLE := hid hle
      have HOK := need19_ok w2 (.int .i64 190)
      have HTK : Hid (∀ W, Same w2 W → Calls Try.prog 58 #[.pointer (some ⟨c, 0, none⟩), .int .i64 (x : Nat)] W fun e w' => Ta19 N W w' c x y e) := hid (fun W hk => take19_any N W c y a' cap' x (HCU.out.kept hk (fun f => f) (fun _ _ f => f)) (by omega))
      have c1 : w2.cell? ⟨p, i, none⟩ = some (.string T0) := HO2.out.cell HO.out.2.1
      have f1 := HO2.out.frozen i
      have HALL : Hid (∀ W, Kept (· = c) w2.drew W → W.cell? ⟨p, i, none⟩ = some (.string T0) ∧ W.frozen? ⟨p, i, none⟩ = false ∧ W.cell? ⟨xb, 0, none⟩ = some (.pointer (some ⟨p, i, none⟩))) := hid (by
        intro W hk
        have h1 : Ob W p t cs := (HO2.out.kept ((Kept.refl (fun _ => False) w2).drew) (fun f => f)).kept hk HO.out.2.2.1
        have h2 := ((HB2.out.kept ((Kept.refl (fun _ => False) w2).drew) (fun f => f)).kept hk HX.out.1).two
        exact ⟨h1.cell HO.out.2.1, h1.frozen i, h2.1⟩)
      have HKS : Hid (∀ W V, Kept (· = p) W (W.setCell ⟨p, i, none⟩ V)) := hid (fun W V => (Kept.refl _ _).setCell _ _ (.inl rfl))
      have HD2 : Hid (Same w2 w2.drew) := hid ((Kept.refl _ w2).drew)
      clear hle hlt4
      cases ht : tk8 x y with
      | none =>
        have HT := hid ht
        clear ht
        go_wp2_with fail
        refine HOK.mono ?_
        rintro e w3 ⟨rfl, hw3⟩
        subst hw3
        clear HOK
        go_wp2_with fail
        go_region_dies
        all_goals
          refine (HTK.out _ HD2.out).mono ?_
          intro e w6 h6
          obtain ⟨rfl, hk6⟩ := h6.2 HT.out
          exact ⟨rfl, RdA.bad (by show bnd8 (nm8 2 r) _ = none; rw [HM.out]; show (if x ≤ m then bnd8 (tk8 x y) _ else _) = none; rw [if_pos HLE.out, HT.out]; rfl) (Kept.trans HK2.out (Same.trans HD2.out hk6) (fun _ _ f => f) (fun _ _ f => f.elim))⟩
      | some s =>
        obtain ⟨x5, r5⟩ := s
        have HT := hid ht
        clear ht
        go_wp2_with fail
        refine HOK.mono ?_
        rintro e w3 ⟨rfl, hw3⟩
        subst hw3
        clear HOK
        go_wp2_with fail
        go_region_with (go_at_call 58; refine (HTK.out _ HD2.out).mono ?_; intro e w6 h6; obtain ⟨v6, a6, cap6, rfl, htk6, hcu6, hk6⟩ := h6.1 x5 r5 HT.out; have hst6 := (fun va vc (hv : v6 = .slice va x vc) => str8 (a := va) (c := vc) (hv ▸ htk6.src) htk6.len); obtain ⟨va6, vc6, hv6⟩ := htk6.shp; subst hv6; have hst6 := hst6 va6 vc6 rfl; obtain ⟨q0, q1, q2⟩ := HALL.out w6 hk6)
        all_goals
          go_wp2_with fail
          go_end0
          have hks := HKS.out w6 (.string (txt x5))
          have hk7 := Kept.trans HD2.out hk6 (H := (· = c)) (fun _ _ f => f.elim) (fun _ _ f => f)
          refine RdA.good (by show bnd8 (nm8 2 r) _ = _; rw [HM.out]; show (if x ≤ m then bnd8 (tk8 x y) _ else _) = _; rw [if_pos HLE.out, HT.out]; rfl) (hcu6.kept hks (fun e => HO.out.2.2.1 e.symm) (fun k hk e => by have := HO.out.2.2.2.1; omega)) ((HO2.out.kept hk7 HO.out.2.2.1).set i (.s (txt x5))) (Kept.trans HK2.out (Kept.trans hk7 hks (H := fun k => k = c ∨ k = p) (fun _ _ f => .inl f) (fun _ _ f => .inr f)) (fun _ _ f => f) (fun _ _ f => f))
    · have d1 : decide ((x : Int) ≤ (m : Int)) = false := by simp; omega
      have d2 : decide (x ≤ m) = false := by simp; omega
      have HLE := hid hle
      have HBD := need19_bad w2 190
      clear hle hlt4
      go_wp2_with fail
      refine HBD.mono ?_
      rintro e w3 ⟨rfl, hw3⟩
      subst hw3
      clear HBD
      unfold pan19
      go_wp2_with fail
      exact ⟨rfl, RdA.bad (by show bnd8 (nm8 2 r) _ = none; rw [HM.out]; show (if x ≤ m then _ else _) = none; rw [if_neg HLE.out]) HK2.out⟩

theorem Try.mnlay (a : Addr) (W : World) : (method 229 79 (.agg #[.pointer (some a)]) "haversack/wire.lay").run Try.prog W = .ok (81, .agg #[.pointer (some a)]) W := by kernel_rfl

theorem Try.mtlay (a : Addr) (m : Int) (W : World) : (method 229 82 (.agg #[.pointer (some a), .int .i64 m]) "haversack/wire.lay").run Try.prog W = .ok (88, .agg #[.pointer (some a), .int .i64 m]) W := by kernel_rfl

theorem Try.mnread (a : Addr) (W : World) : (method 229 79 (.agg #[.pointer (some a)]) "haversack/wire.read").run Try.prog W = .ok (82, .agg #[.pointer (some a)]) W := by kernel_rfl

theorem Try.mtread (a : Addr) (m : Int) (W : World) : (method 229 82 (.agg #[.pointer (some a), .int .i64 m]) "haversack/wire.read").run Try.prog W = .ok (89, .agg #[.pointer (some a), .int .i64 m]) W := by kernel_rfl

theorem Try.mnclear (a : Addr) (W : World) : (method 229 79 (.agg #[.pointer (some a)]) "haversack/wire.clear").run Try.prog W = .ok (80, .agg #[.pointer (some a)]) W := by kernel_rfl

theorem Try.mtclear (a : Addr) (m : Int) (W : World) : (method 229 82 (.agg #[.pointer (some a), .int .i64 m]) "haversack/wire.clear").run Try.prog W = .ok (87, .agg #[.pointer (some a), .int .i64 m]) W := by kernel_rfl

theorem Try.mnwrong (a : Addr) (W : World) : (method 229 79 (.agg #[.pointer (some a)]) "haversack/wire.wrong").run Try.prog W = .ok (83, .agg #[.pointer (some a)]) W := by kernel_rfl

theorem Try.mtwrong (a : Addr) (m : Int) (W : World) : (method 229 82 (.agg #[.pointer (some a), .int .i64 m]) "haversack/wire.wrong").run Try.prog W = .ok (90, .agg #[.pointer (some a), .int .i64 m]) W := by kernel_rfl

end Go.Proofs.Ytaefgnakdadgeaa
