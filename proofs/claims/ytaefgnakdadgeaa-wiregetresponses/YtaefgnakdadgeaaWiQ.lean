/-
  Layer 19: names read.
-/
import Derived.Test.YtaefgnakdadgeaaWiP
namespace Go.Proofs.Ytaefgnakdadgeaa
open Go.RowKit

theorem Try.infoStr19 : (Try.prog.info? 9).map (fun i => (i.zero, i.size, i.bytes)) = some (some (.string ⟨#[]⟩), 1, 16) := by kernel_rfl

theorem cellsAt_ns (w : World) (s : ByteArray) : CellsAt (w.alloc (.cells #[.string s] 9)) ⟨w.heap.size, 0, none⟩ ([s].flatMap nsE) := by
  intro j u hu
  have hb := Blk.new w #[.string s] 9
  match j with
  | 0 =>
    simp [nsE] at hu
    subst hu
    exact hb.cell 0
  | j + 1 => simp [nsE] at hu

/-- So many names read. -/
def readK : Nat → List Nat → Option (List ByteArray × List Nat)
  | 0, r => some ([], r)
  | k + 1, r => bnd8 (nm8 1 r) fun q => bnd8 (tk8 q.1 q.2) fun s => bnd8 (readK k s.2) fun t => some (txt s.1 :: t.1, t.2)

def readNm (r : List Nat) : Option (List ByteArray × List Nat) := bnd8 (nm8 1 r) fun q => if q.1 ≤ 64 then readK q.1 q.2 else none

/-- What reading names tells. -/
def NmA (N : Nat) (w w' : World) (c : Nat) (o : Option (List ByteArray × List Nat)) (e : Ending) : Prop :=
  (∀ L y, o = some (L, y) → ∃ v a' cap', e = .returned v ∧ RowC w.heap.size 9 1 nsE w' v L ∧ Cu19 N w' c y a' cap' ∧ Kept (· = c) w w') ∧ (o = none → e = pan19 190 ∧ Kept (· = c) w w')

theorem NmA.bad {N : Nat} {w w' : World} {c : Nat} {o : Option (List ByteArray × List Nat)} (h : o = none) (hk : Kept (· = c) w w') : NmA N w w' c o (pan19 190) :=
  ⟨fun L y h9 => (by rw [h] at h9; cases h9), fun _ => ⟨rfl, hk⟩⟩

theorem NmA.good {N : Nat} {w w' : World} {c : Nat} {o : Option (List ByteArray × List Nat)} {L : List ByteArray} {y : List Nat} (h : o = some (L, y)) {v : Value} {a' : Option Addr} {cap' : Nat} (h1 : RowC w.heap.size 9 1 nsE w' v L) (h2 : Cu19 N w' c y a' cap') (hk : Kept (· = c) w w') : NmA N w w' c o (.returned v) :=
  ⟨fun L9 y9 h9 => (by rw [h] at h9; simp only [Option.some.injEq, Prod.mk.injEq] at h9; obtain ⟨rfl, rfl⟩ := h9; exact ⟨v, a', cap', rfl, h1, h2, hk⟩), fun h9 => (by rw [h] at h9; cases h9)⟩

set_option maxRecDepth 100000 in
set_option maxHeartbeats 1000000 in
theorem readnames_any (N : Nat) (w : World) (c : Nat) (r : List Nat) (a : Option Addr) (cap : Nat) (h : Cu19 N w c r a cap) :
    Calls Try.prog 56 #[.pointer (some ⟨c, 0, none⟩)] w fun e w' => NmA N w w' c (readNm r) e := by
  have HO := one19_any N w c r a cap h
  have HCW : Hid (c < w.heap.size ∧ N ≤ c) := hid ⟨h.blk.lt, h.new⟩
  cases hm : nm8 1 r with
  | none =>
    have HM := hid hm
    clear hm h
    go_enter Try.func56, Try.ntmps56
    go_wp2_with fail
    refine HO.mono ?_
    intro e w1 h1
    obtain ⟨rfl, hk⟩ := h1.2 HM.out
    have HK := hid hk
    clear h1 hk HO
    unfold pan19
    go_wp2_with fail
    exact ⟨rfl, NmA.bad (by unfold readNm; rw [HM.out]; rfl) (HK.out.mono (fun _ _ f => f.elim))⟩
  | some q =>
    obtain ⟨n, y⟩ := q
    have HM := hid hm
    clear hm h
    by_cases hle : n ≤ 64
    · have HR : Hid (readNm r = readK n y) := hid (by unfold readNm; rw [HM.out]; show (if n ≤ 64 then _ else _) = _; rw [if_pos hle])
      have d1 : decide ((n : Int) ≤ 64) = true := by simp; omega
      have d2 : decide (n ≤ 64) = true := by simp; omega
      have HLE := hid hle
      clear hle
      go_enter Try.func56, Try.ntmps56
      go_wp2_with fail
      refine HO.mono ?_
      intro e w1 h1
      obtain ⟨a1, cap1, rfl, _, hcu, hk⟩ := h1.1 n y HM.out
      have HCU := hid hcu
      have HK := hid hk
      have HOK := need19_ok w1 (.int .i64 190)
      clear h1 hk hcu HO
      go_wp2_with fail
      refine HOK.mono ?_
      rintro e w2 ⟨rfl, hw2⟩
      subst hw2
      clear HOK
      go_wp2_with fail
      go_loopg [4, 11] n (fun k o z wr => ∃ i : Nat, i ≤ n ∧ n - i ≤ k ∧ z = .int .i64 (i : Nat) ∧ ∃ a4 n4 c4, o = .slice a4 n4 c4 ∧ Hid (∃ L y' a' cap', L.length = i ∧ RowC w.heap.size 9 1 nsE wr o L ∧ Cu19 N wr c y' a' cap' ∧ readNm r = bnd8 (readK (n - i) y') (fun t => some (L ++ t.1, t.2)) ∧ Kept (· = c) w wr))
      case atStart =>
        refine ⟨0, by omega, by omega, rfl, none, 0, 0, rfl, hid ⟨[], y, a1, cap1, rfl, RowC.nil, HCU.out, ?_, HK.out⟩⟩
        rw [HR.out, Nat.sub_zero]
        cases readK n y with
        | none => rfl
        | some t => rfl
      case round =>
        obtain ⟨i, hi, hk, rfl, a4, n4, c4, rfl, HX⟩ := hrel
        by_cases hlt : i < n
        · obtain ⟨L, y', a', cap', hLn, hrow, hcu, hrd, hkw⟩ := HX.out
          have HLn := hid hLn
          have HROW := hid hrow
          have HCU4 := hid hcu
          have HRD := hid hrd
          have HKW := hid hkw
          have hiw : IntKind.i64.wrap ((i : Int) + 1) = ((i + 1 : Nat) : Int) := by have := HLE.out; rw [IntKind.wrap_i64]; omega
          have HOW := one19_any N wr c y' a' cap' hcu
          obtain ⟨m, hm⟩ : ∃ m, n - i = m + 1 := ⟨n - i - 1, by omega⟩
          have HMM := hid hm
          clear hLn hrow hcu hrd hkw HX hm
          cases h1 : nm8 1 y' with
          | none =>
            have H1 := hid h1
            clear h1
            go_wp2_with fail
            refine HOW.mono ?_
            intro e w5 h5
            obtain ⟨rfl, hk5⟩ := h5.2 H1.out
            have HK5 := hid (Kept.trans HKW.out hk5 (fun _ _ f => f) (fun _ _ f => f.elim) : Kept (· = c) w w5)
            clear h5 hk5 HOW
            unfold pan19
            go_wp2_with fail
            exact ⟨rfl, NmA.bad (by rw [HRD.out, HMM.out]; simp only [readK]; rw [H1.out]; rfl) HK5.out⟩
          | some q =>
            obtain ⟨x, y2⟩ := q
            have H1 := hid h1
            clear h1
            go_wp2_with fail
            refine HOW.mono ?_
            intro e w5 h5
            obtain ⟨a5, cap5, rfl, hx5, hcu5, hk5⟩ := h5.1 x y2 H1.out
            have HK5 := hid (Kept.trans HKW.out hk5 (fun _ _ f => f) (fun _ _ f => f) : Kept (· = c) w w5)
            have HROW5 := hid (HROW.out.kept hk5 (fun j e f => by have := HROW.out.ge e; have := HCW.out.1; omega))
            have HTK := take19_any N w5 c y2 a5 cap5 x hcu5 (by have : x < 256 := hx5; omega)
            clear h5 hk5 HOW hx5 hcu5
            cases h2 : tk8 x y2 with
            | none =>
              have H2 := hid h2
              clear h2
              go_wp2_with fail
              refine HTK.mono ?_
              intro e w6 h6
              obtain ⟨rfl, hk6⟩ := h6.2 H2.out
              have HK6 := hid (Kept.trans HK5.out hk6 (fun _ _ f => f) (fun _ _ f => f.elim) : Kept (· = c) w w6)
              clear h6 hk6 HTK
              unfold pan19
              go_wp2_with fail
              exact ⟨rfl, NmA.bad (by rw [HRD.out, HMM.out]; simp only [readK]; rw [H1.out]; simp only [bnd8]; rw [H2.out]) HK6.out⟩
            | some g =>
              obtain ⟨s, y3⟩ := g
              have H2 := hid h2
              clear h2
              go_wp2_with fail
              refine HTK.mono ?_
              intro e w6 h6
              obtain ⟨v6, a6, cap6, rfl, htk6, hcu6, hk6⟩ := h6.1 s y3 H2.out
              have HCU6 := hid hcu6
              have HK6 := hid (Kept.trans HK5.out hk6 (fun _ _ f => f) (fun _ _ f => f) : Kept (· = c) w w6)
              have HROW6 := hid (HROW5.out.kept hk6 (fun j e f => by have := HROW5.out.ge e; have := HCW.out.1; omega))
              have hst6 := (fun va vc (hv : v6 = .slice va x vc) => str8 (a := va) (c := vc) (hv ▸ htk6.src) htk6.len)
              obtain ⟨va6, vc6, hv6⟩ := htk6.shp
              subst hv6
              have hst6 := hst6 va6 vc6 rfl
              have hsz6 : w.heap.size ≤ w6.heap.size := HK6.out.size
              have HSZ := hid hsz6
              clear h6 hk6 HTK htk6 hcu6 hsz6
              go_wp2_with (at_builtin; refine wpList_append_c _ nsE 1 nsE_ok (by decide) w.heap.size 36 9 (.string ⟨#[]⟩) 16 Try.underlying36 Try.infoStr19 rfl (by decide) rfl (.tmp 13) (.tmp 19) rfl (.slice a4 n4 c4) L rfl (HROW6.out.kept (show Same _ _ from (Kept.refl _ _).alloc _) (fun _ _ f => f)) ⟨w6.heap.size, 0, none⟩ 1 1 [txt s] rfl rfl (cellsAt_ns _ (txt s)) (by have := HLn.out; have := HLE.out; simp only [List.length_singleton]; omega) (by have := HSZ.out; simp; omega) ?_)
              intro v7 w7 hr7 hg7
              have hk7 : Kept (fun k => (Value.slice a4 n4 c4).ownBlock = some k) w6 w7 := Kept.trans (show Same w6 _ from (Kept.refl _ w6).alloc _) ((Kept.refl _ _).grown hg7 (fun k e => .inl e)) (fun _ _ f => f.elim) (fun _ _ e => e)
              obtain ⟨a7, n7, c7, e7⟩ : ∃ a n c, v7 = Value.slice a n c := by obtain ⟨a, c, e, _⟩ := RowC.shape hr7; exact ⟨a, _, c, e⟩
              subst e7
              have HX2 : Hid (∃ L y' a' cap', L.length = i + 1 ∧ RowC w.heap.size 9 1 nsE w7 (.slice a7 n7 c7) L ∧ Cu19 N w7 c y' a' cap' ∧ readNm r = bnd8 (readK (n - (i + 1)) y') (fun t => some (L ++ t.1, t.2)) ∧ Kept (· = c) w w7) := hid (by
                have hge : ∀ k, (Value.slice a4 n4 c4).ownBlock = some k → w.heap.size ≤ k := fun k e => HROW6.out.ge e
                refine ⟨L ++ [txt s], y3, a6, cap6, by rw [List.length_append, HLn.out]; rfl, hr7, HCU6.out.kept hk7 (fun e => by have := hge _ e; have := HCW.out; omega) (fun k hk e => by have := hge _ e; have := HCW.out; omega), ?_, Kept.trans HK6.out hk7 (fun _ _ f => f) (fun k hk e => by have := hge _ e; omega)⟩
                rw [HRD.out, HMM.out, show n - (i + 1) = m by have := HMM.out; omega]
                simp only [readK]
                rw [H1.out]
                simp only [bnd8]
                rw [H2.out]
                simp only
                cases readK m y3 with
                | none => rfl
                | some t => simp)
              clear hr7 hg7 hk7
              go_wp2_with fail
              go_roundg (gk - 1)
              case measure => omega
              case rel => exact ⟨i + 1, by omega, by omega, by go_num, a7, n7, c7, rfl, HX2⟩
        · obtain rfl : i = n := by omega
          have hli : decide (i < i) = false := by simp
          go_wp2_with fail
          go_ret
          obtain ⟨L, y', a', cap', hLn, hrow, hcu, hrd, hkw⟩ := HX.out
          refine NmA.good (L := L) (y := y') ?_ hrow hcu hkw
          rw [hrd, Nat.sub_self]
          simp [readK, bnd8]
    · have HR : Hid (readNm r = none) := hid (by unfold readNm; rw [HM.out]; show (if n ≤ 64 then _ else _) = _; rw [if_neg hle])
      have d1 : decide ((n : Int) ≤ 64) = false := by simp; omega
      have d2 : decide (n ≤ 64) = false := by simp; omega
      clear hle
      go_enter Try.func56, Try.ntmps56
      go_wp2_with fail
      refine HO.mono ?_
      intro e w1 h1
      obtain ⟨a1, cap1, rfl, _, hcu, hk⟩ := h1.1 n y HM.out
      have HK := hid hk
      have HBD := need19_bad w1 190
      clear h1 hk hcu HO
      go_wp2_with fail
      refine HBD.mono ?_
      rintro e w2 ⟨rfl, hw2⟩
      subst hw2
      clear HBD
      unfold pan19
      go_wp2_with fail
      exact ⟨rfl, NmA.bad HR.out HK.out⟩

end Go.Proofs.Ytaefgnakdadgeaa
