/-
  FrameParts' walk.
-/
import Derived.Test.YtjjhjbmmhkcapaaFmRnd
namespace Go.Proofs.Ytjjhjbmmhkcapaa
open Go.RowKit

/-- What a decoder holds that was fed some bytes. -/
def heldF (q : List Nat) (e : Int) : List Nat := if e = 0 then q else []

/-- What some bytes are read as, and more behind them. -/
theorem Rd.more {a b : List Nat} {fs : List Fm} {q : List Nat} {e : Int} (h : Rd a fs q e) : ∃ gs q2 e2, Rd (a ++ b) (fs ++ gs) q2 e2 ∧ (e = 0 → Rd (heldF q e ++ b) gs q2 e2) ∧ (e ≠ 0 → gs = [] ∧ e2 = e) := by
  by_cases he : e = 0
  · obtain ⟨gs, q2, e2, k⟩ := Rd.ex (q ++ b)
    exact ⟨gs, q2, e2, h.app he k, fun _ => by unfold heldF; rw [if_pos he]; exact k, fun h0 => absurd he h0⟩
  · refine ⟨[], q ++ b, e, ?_, fun h0 => absurd h0 he, fun _ => ⟨rfl, rfl⟩⟩
    rw [List.append_nil]
    exact h.wrong he b

/-- Feed of what a decoder was not fed yet. -/
theorem dfeed_more {w : World} {d : Nat} {v : Value} {a : List Nat} {fs : List Fm} {q : List Nat} {c : Int} (hR : Rd a fs q c) (h : Dc w d v (heldF q c) c) {bs : List Nat} (hbl : ∀ b ∈ bs, b < 256) (hlen : bs.length ≤ 90000000) :
    ∃ gs q2 e, Rd (a ++ bs) (fs ++ gs) q2 e ∧ ∀ (I : Nat → Prop) (bv : Value), Src w I bv bs → (∀ k, I k → ¬ Fd d v k) → (∀ n c, bv = .slice none n c → n = 0 ∧ c = 0) → Calls Try.prog 16 #[.pointer (some ⟨d, 0, none⟩), bv] w fun x w' => ∃ vo v', x = .returned (.tuple #[vo, .int .i64 e]) ∧ RowC w.heap.size 23 2 fmE w' vo gs ∧ Dc w' d v' (heldF q2 e) e ∧ Kept (Fd d v) w w' ∧ (∀ k, Fd d v' k → Fd d v k ∨ w.heap.size ≤ k) := by
  obtain ⟨gs, q2, e, h1, h2, h3⟩ := hR.more (b := bs)
  exact ⟨gs, q2, e, h1, fun I bv hb hI hnil => dfeed_any h hb hI hbl hnil hlen h2 (fun h0 => h3 h0)⟩

/-- Frames' cells, to be appended. -/
theorem RowC.cells18 {B : Nat} {w : World} {a : Option Addr} {n c : Nat} {xs : List Fm} (h : RowC B 23 2 fmE w (.slice a n c) xs) : (∀ ad, a = some ad → CellsAt w ad (xs.flatMap fmE)) ∧ (a = none → xs = []) ∧ xs.length = n := by
  rcases h.2 with ⟨h1, h2⟩ | ⟨g, cap, cur, h1, h2⟩
  · injection h1 with e1 e2 e3
    subst e1 e2
    exact ⟨(fun ad e => by cases e), fun _ => List.eq_nil_of_length_eq_zero h2, h2⟩
  · injection h1 with e1 e2 e3
    subst e1 e2 e3
    refine ⟨fun ad e => ?_, (fun e => by cases e), rfl⟩
    injection e with e
    subst e
    intro j u hu
    rw [addAt, Nat.zero_add]
    have hl := flat_length fmE_ok xs
    have hj : j < (xs.flatMap fmE).length := (List.getElem?_eq_some_iff.1 hu).1
    have hq : j / 2 < xs.length := by omega
    have h9 := RowC.cell fmE_ok h (j / 2) (j % 2) hq (Nat.mod_lt _ (by decide))
    rw [← flat_get fmE_ok xs (j / 2) (j % 2) hq (Nat.mod_lt _ (by decide)), show j / 2 * 2 + j % 2 = j by omega] at h9
    exact h9.trans hu

/-- A decoder that was fed some bytes, and all that it told in one row. -/
structure Fed (M d : Nat) (w : World) (a : List Nat) (v vg : Value) (gs : List Fm) (q : List Nat) (e : Int) : Prop where
  rd : Rd a gs q e
  dc : Dc w d v (heldF q e) e
  fd : ∀ k, Fd d v k → k = d ∨ M ≤ k
  row : RowC M 23 2 fmE w vg gs
  lt : d < M

/-- What may be written in a round. -/
def Wr18 (M d k : Nat) : Prop := k = d ∨ M ≤ k

theorem Fed.same {M d : Nat} {w w' : World} {a : List Nat} {v vg : Value} {gs : List Fm} {q : List Nat} {e : Int} (h : Fed M d w a v vg gs q e) (hk : Same w w') : Fed M d w' a v vg gs q e :=
  ⟨h.rd, h.dc.same hk, h.fd, h.row.kept hk (fun _ _ f => f), h.lt⟩

theorem Fed.feed {M d : Nat} {w : World} {a : List Nat} {v vg : Value} {gs : List Fm} {q : List Nat} {e : Int} (h : Fed M d w a v vg gs q e) (hM : M ≤ w.heap.size) {bs : List Nat} (hbl : ∀ b ∈ bs, b < 256) (hlen : bs.length ≤ 90000000) :
    ∃ hs q2 e2, Rd (a ++ bs) (gs ++ hs) q2 e2 ∧ ∀ (I : Nat → Prop) (bv : Value), Src w I bv bs → (∀ k, I k → k ≠ d ∧ k < M) → (∀ n c, bv = .slice none n c → n = 0 ∧ c = 0) → Calls Try.prog 16 #[.pointer (some ⟨d, 0, none⟩), bv] w fun x w' => ∃ vo v', x = .returned (.tuple #[vo, .int .i64 e2]) ∧ RowC w.heap.size 23 2 fmE w' vo hs ∧ RowC M 23 2 fmE w' vg gs ∧ Dc w' d v' (heldF q2 e2) e2 ∧ Kept (Wr18 M d) w w' ∧ (∀ k, Fd d v' k → k = d ∨ M ≤ k) := by
  obtain ⟨hs, q2, e2, h1, h2⟩ := dfeed_more h.rd h.dc hbl hlen
  refine ⟨hs, q2, e2, h1, fun I bv hb hI hnil => (h2 I bv hb (fun k hk hf => by
    have := hI k hk
    rcases h.fd k hf with h9 | h9
    · exact this.1 h9
    · omega) hnil).mono ?_⟩
  rintro x w' ⟨vo, v', hx, ho, hd, hk, hn⟩
  refine ⟨vo, v', hx, ho, h.row.kept hk (h.dc.off h.row), hd, hk.mono (fun k _ hf => h.fd k hf), fun k hf => ?_⟩
  rcases hn k hf with h9 | h9
  · exact h.fd k h9
  · exact .inr (by omega)

theorem fed_push {M d : Nat} {w w' : World} {a : List Nat} {v vg vg' : Value} {gs hs : List Fm} {q : List Nat} {e : Int} (hr : Rd a (gs ++ hs) q e) (hd : Dc w d v (heldF q e) e) (hf : ∀ k, Fd d v k → k = d ∨ M ≤ k) (hl : d < M) (ho : RowC M 23 2 fmE w vg gs) (hrow : RowC M 23 2 fmE w' vg' (gs ++ hs)) (hg : w.grownBy w' vg.ownBlock) :
    Fed M d w' a v vg' (gs ++ hs) q e ∧ Kept (Wr18 M d) w w' := by
  have hk : Kept (fun k => vg.ownBlock = some k) w w' := (Kept.refl (fun k => vg.ownBlock = some k) w).grown hg (fun k e => .inl e)
  exact ⟨⟨hr, hd.kept hk (fun k hf e => hd.off ho k e hf), hf, hrow, hl⟩, hk.mono (fun k _ e => .inr (ho.ge e))⟩

set_option maxRecDepth 100000 in
set_option maxHeartbeats 4000000 in
theorem frameParts_all (a0 : Option Addr) (len0 cap0 : Nat) (z0 : List Int) (a1 : Option Addr) (len1 cap1 : Nat) (z1 : List Int) (W : World) (w0 : IsRow .u8 W a0 len0 cap0 z0) (w1 : IsRow .i64 W a1 len1 cap1 z1) :
    Calls Try.prog 5 #[.slice a0 len0 cap0, .slice a1 len1 cap1] W fun e W' => e = .returned (.bool true) ∧ Below W.heap.size W W' := by
  obtain ⟨bs, harg, hbl⟩ := w0.arg18
  have hc0 := harg.room _ _ _ rfl
  by_cases hl0 : 1048576 < len0
  · go_enter Try.func5, Try.ntmps5
    go_wp2_with fail
    refine (awake18 W).mono ?_
    rintro x w1 ⟨rfl, hk⟩
    go_wp2_with fail
    go_ret
    exact ⟨rfl, hk.below (Nat.le_refl _) (fun _ _ f => f)⟩
  by_cases hl1 : 1048576 < len1
  · go_enter Try.func5, Try.ntmps5
    go_wp2_with fail
    refine (awake18 W).mono ?_
    rintro x w1 ⟨rfl, hk⟩
    go_wp2_with fail
    go_ret
    exact ⟨rfl, hk.below (Nat.le_refl _) (fun _ _ f => f)⟩
  · have HA := hid harg
    have HBL := hid hbl
    have HC := hid w1
    have HLAST : Hid (∀ w1, Same W w1 → Calls Try.prog 9 #[] w1 fun x w' => x = .returned (.bool true) ∧ Same w1 w') := hid (fun w1 _ => awake18 w1)
    clear harg hbl w0 w1
    go_enter Try.func5, Try.ntmps5
    go_wp2_with fail
    refine (dnew18 W).mono ?_
    rintro x w1 ⟨d1, rfl, hd1, hk1, hn1⟩
    have HD1 := hid hd1
    have HK1 := hid hk1
    have HN1 := hid hn1
    clear hd1 hk1 hn1
    go_wp2_with fail
    refine (dnew18 w1).mono ?_
    rintro x w2 ⟨d2, rfl, hd2, hk2, hn2⟩
    have HD2 := hid hd2
    have HN2 : Hid (W.heap.size ≤ d1 ∧ d1 < d2 ∧ d2 < w2.heap.size) := hid ⟨HN1.out, Nat.lt_of_lt_of_le HD1.out.blk.lt hn2, hd2.blk.lt⟩
    have HK2 : Hid (Same W w2) := hid (Same.trans HK1.out hk2)
    have HD12 := hid (HD1.out.same hk2)
    obtain ⟨fs, q, e, hrd, hF0⟩ := dfeed_more (a := []) (fs := []) (q := []) (c := 0) (.stop rfl) (w := w2) (d := d1) (v := .slice none 0 0) HD12.out (bs := bs) HA.out.byt (by have := HBL.out; omega)
    have hF := hF0 (fun k => k < W.heap.size) (.slice a0 len0 cap0) (HA.out.src.kept HK2.out (fun _ _ _ f => f)) (fun k hk hf => by
      rcases hf with e2 | e2
      · have := HN1.out; omega
      · cases e2) HA.out.nil
    rw [List.nil_append, List.nil_append] at hrd
    have HRD := hid hrd
    have HKD2 := hid hd2
    clear hd2 hk2 hn2 hrd hF0
    go_wp2_with fail
    refine hF.mono ?_
    rintro x w3 ⟨vo3, v3, rfl, ho3, hd3, hk3, hn3⟩
    obtain ⟨M, hM⟩ : ∃ M, M = w3.heap.size := ⟨_, rfl⟩
    have HMM := hid hM
    have hk3' : Kept (· = d1) w2 w3 := hk3.mono (fun k _ hf => by
      rcases hf with e2 | e2
      · exact e2
      · cases e2)
    have HN3 : Hid (W.heap.size ≤ d2 ∧ W.heap.size ≤ M ∧ d2 < M) := hid (by
      have h1 := HN2.out
      have h2 := hk3.size
      exact ⟨by omega, by omega, by omega⟩)
    have HAP : Hid ((∀ k, Fd d1 v3 k → ¬ Wr18 M d2 k) ∧ (∀ k, vo3.ownBlock = some k → ¬ Wr18 M d2 k)) := hid (by
      have h1 := HN2.out
      constructor
      · intro k hf hw
        have h2 := hd3.lt hf
        rcases hw with e2 | e2
        · rcases hn3 k hf with e3 | e3
          · rcases e3 with e4 | e4
            · omega
            · cases e4
          · omega
        · omega
      · intro k hf hw
        have h2 := ho3.lt hf
        have h3 := ho3.ge hf
        rcases hw with e2 | e2 <;> omega)
    have HK3 : Hid (Same W w3) := hid (HK2.out.then hk3' (fun k hk e2 => by have := HN1.out; omega))
    have HO3 := hid ho3
    have HD3 := hid hd3
    have HF3 : Hid (Fed M d2 w3 (bs.take 0) (.slice none 0 0) (.slice none 0 0) [] [] 0) := hid ⟨.stop rfl, HKD2.out.kept hk3' (fun k hf e2 => by
      have h1 := HN2.out
      rcases hf with e3 | e3
      · omega
      · cases e3), fun k hf => hf.elim .inl (fun e3 => by cases e3), RowC.nil, HN3.out.2.2⟩
    clear ho3 hd3 hk3 hn3 hk3' hF hM
    go_wp2_with fail
    go_loopg [9, 10, 11] len1 (fun k vg zt zi wx => ∃ (i t : Nat) (v2 : Value) (gs : List Fm) (q2 : List Nat) (e2 : Int), zi = .int .i64 (i : Nat) ∧ zt = .int .i64 (t : Nat) ∧ i ≤ len1 ∧ len1 - i ≤ k ∧ t ≤ len0 ∧ Hid (Fed M d2 wx (bs.take t) v2 vg gs q2 e2) ∧ Hid (Kept (Wr18 M d2) w3 wx))
    case atStart => exact ⟨0, 0, _, _, _, _, rfl, rfl, by omega, by omega, by omega, HF3, hid (Kept.refl _ _)⟩
    case round =>
      obtain ⟨i, t, v2, gs, q2, e2, rfl, rfl, hi, hik, ht, HFD, HKW⟩ := hrel
      obtain ⟨vg, hvg⟩ : ∃ vg, vg = u9 := ⟨_, rfl⟩
      rw [← hvg] at HFD ⊢
      clear hvg
      have HSW : Hid (Same W wr) := hid (HK3.out.then HKW.out (fun k hk hw => by
        have h1 := HN3.out
        rcases hw with e3 | e3 <;> omega))
      by_cases hlt : i < len1
      · obtain ⟨b, o, hab, hc⟩ := HC.out.at i hlt
        obtain ⟨z, hz⟩ : ∃ z, z = z1.getD i 0 := ⟨_, rfl⟩
        rw [← hz] at hc
        have cz := HSW.out.cell hc (fun f => f)
        subst hab
        have hli2 : (i : Int) < (len1 : Int) := by omega
        clear hz hc
        by_cases hz0 : z < 0
        · go_wp2_with fail
          go_roundg (gk - 1)
          case measure => omega
          case rel => exact ⟨i + 1, t, v2, gs, q2, e2, by go_num, rfl, by omega, by omega, ht, HFD, HKW⟩
        by_cases hz1 : (len0 : Int) - (t : Int) < z
        · go_wp2_with fail
          go_roundg (gk - 1)
          case measure => omega
          case rel => exact ⟨i + 1, t, v2, gs, q2, e2, by go_num, rfl, by omega, by omega, ht, HFD, HKW⟩
        · obtain ⟨zn, rfl⟩ : ∃ zn : Nat, z = (zn : Nat) := ⟨z.toNat, by omega⟩
          have hzn : t + zn ≤ len0 := by omega
          obtain ⟨hs, q3, e3, hrd3, hF3⟩ := HFD.out.feed (by rw [HMM.out]; exact HKW.out.size) (bs := (bs.drop t).take zn) (fun b hb => HA.out.byt b (List.mem_of_mem_drop (List.mem_of_mem_take hb))) (by rw [List.length_take]; omega)
          have HFF : Hid (∀ (a' : Option Addr) (c' : Nat), (0 < zn → ∀ b o, a0 = some ⟨b, o, none⟩ → a' = some ⟨b, o + t, none⟩) → (a' = none → zn = 0 ∧ c' = 0) → Calls Try.prog 16 #[.pointer (some ⟨d2, 0, none⟩), .slice a' zn c'] wr fun x w' => ∃ vo v', x = .returned (.tuple #[vo, .int .i64 e3]) ∧ RowC wr.heap.size 23 2 fmE w' vo hs ∧ RowC M 23 2 fmE w' vg gs ∧ Dc w' d2 v' (heldF q3 e3) e3 ∧ Kept (Wr18 M d2) wr w' ∧ (∀ k, Fd d2 v' k → k = d2 ∨ M ≤ k)) := hid (fun a' c' h1 h2 => hF3 (fun k => k < W.heap.size) _ ((HA.out.src.kept HSW.out (fun _ _ _ f => f)).sub t zn (by have := HBL.out; omega) h1 c') (fun k hk => by have := HN3.out; constructor <;> omega) (fun n c e4 => by
            injection e4 with e5 e6 e7
            have h3 := h2 e5
            omega))
          have HRD3 : Hid (Rd (bs.take (t + zn)) (gs ++ hs) q3 e3) := hid (by rw [List.take_add]; exact hrd3)
          have HMA : Hid (gs.length + hs.length ≤ 1000000000) := hid (by
            have h1 := hrd3.many
            rw [List.length_append, List.length_append, List.length_take, List.length_take, List.length_drop] at h1
            have h2 := HBL.out
            omega)
          have HNIL : Hid (a0 = none → len0 = 0 ∧ cap0 = 0) := hid (fun h => by subst h; exact HA.out.nil _ _ rfl)
          have hwt : IntKind.i64.wrap ((t : Int) + (zn : Int)) = ((t + zn : Nat) : Int) := by rw [IntKind.wrap_i64]; omega
          clear hrd3 hF3
          by_cases hcap : cap0 = t
          · obtain rfl : zn = 0 := by omega
            subst hcap
            have hF4 := HFF.out a0 0 (fun h => absurd h (by omega)) (fun h => ⟨rfl, rfl⟩)
            clear HFF
            go_wp2_with fail
            refine hF4.mono ?_
            rintro x w4 ⟨vo4, v4, rfl, ho4, hg4, hd4, hk4, hn4⟩
            obtain ⟨a4, c4, hv4, _⟩ := ho4.shape
            obtain ⟨m4, hm4⟩ : ∃ m, m = hs.length := ⟨_, rfl⟩
            rw [← hm4] at hv4
            subst hv4
            have HO4 := hid ho4
            have HG4 := hid hg4
            have HD4 := hid hd4
            have HN4 := hid hn4
            have HK4 : Hid (Kept (Wr18 M d2) w3 w4) := hid (Kept.trans HKW.out hk4 (fun _ _ f => f) (fun _ _ f => f))
            have HM4 := hid hm4
            clear ho4 hg4 hd4 hk4 hn4 hF4 hm4
            go_wp2_with (at_builtin; refine wpList_append_12 _ fmE 2 fmE_ok (by decide) M 36 23 (.agg #[.int .i64 0, .string ⟨#[]⟩]) 24 Try.underlying36 Try.infoFm rfl (by decide) rfl (.tmp 71) (.tmp 72) rfl vg gs rfl HG4.out a4 m4 c4 hs rfl HM4.out.symm HO4.out.cells18.1 HO4.out.cells18.2.1 HMA.out (by rw [HMM.out]; exact HK4.out.size) ?_)
            intro v5 w5 hr5 hg5
            have HP5 := hid (fed_push HRD3.out HD4.out HN4.out HN3.out.2.2 HG4.out hr5 hg5)
            have HW5 := dwrong_any HP5.out.1.dc
            clear hr5 hg5
            go_wp2_with fail
            refine HW5.mono ?_
            rintro x w6 ⟨rfl, hk6⟩
            have HP6 := hid (HP5.out.1.same hk6)
            have HK6 : Hid (Kept (Wr18 M d2) w3 w6) := hid (Kept.trans HK4.out (Kept.trans HP5.out.2 hk6 (fun _ _ f => f) (fun _ _ f => f.elim)) (fun _ _ f => f) (fun _ _ f => f))
            clear hk6 HW5
            go_wp2_with fail
            go_roundg (gk - 1)
            case measure => omega
            case rel => exact ⟨i + 1, cap0 + 0, v4, gs ++ hs, q3, e3, by go_num, by first | rfl | simp, by omega, by omega, ht, HP6, HK6⟩
          · obtain ⟨ad, rfl⟩ : ∃ ad, a0 = some ad := by
              cases a0 with
              | none => have := HNIL.out rfl; omega
              | some ad => exact ⟨ad, rfl⟩
            have hF4 := HFF.out (some (ad.add t)) (cap0 - t) (fun _ b o e => by injection e with e; rw [e, addAt]) (fun h => by cases h)
            clear HFF
            go_wp2_with fail
            refine hF4.mono ?_
            rintro x w4 ⟨vo4, v4, rfl, ho4, hg4, hd4, hk4, hn4⟩
            obtain ⟨a4, c4, hv4, _⟩ := ho4.shape
            obtain ⟨m4, hm4⟩ : ∃ m, m = hs.length := ⟨_, rfl⟩
            rw [← hm4] at hv4
            subst hv4
            have HO4 := hid ho4
            have HG4 := hid hg4
            have HD4 := hid hd4
            have HN4 := hid hn4
            have HK4 : Hid (Kept (Wr18 M d2) w3 w4) := hid (Kept.trans HKW.out hk4 (fun _ _ f => f) (fun _ _ f => f))
            have HM4 := hid hm4
            clear ho4 hg4 hd4 hk4 hn4 hF4 hm4
            go_wp2_with (at_builtin; refine wpList_append_12 _ fmE 2 fmE_ok (by decide) M 36 23 (.agg #[.int .i64 0, .string ⟨#[]⟩]) 24 Try.underlying36 Try.infoFm rfl (by decide) rfl (.tmp 71) (.tmp 72) rfl vg gs rfl HG4.out a4 m4 c4 hs rfl HM4.out.symm HO4.out.cells18.1 HO4.out.cells18.2.1 HMA.out (by rw [HMM.out]; exact HK4.out.size) ?_)
            intro v5 w5 hr5 hg5
            have HP5 := hid (fed_push HRD3.out HD4.out HN4.out HN3.out.2.2 HG4.out hr5 hg5)
            have HW5 := dwrong_any HP5.out.1.dc
            clear hr5 hg5
            go_wp2_with fail
            refine HW5.mono ?_
            rintro x w6 ⟨rfl, hk6⟩
            have HP6 := hid (HP5.out.1.same hk6)
            have HK6 : Hid (Kept (Wr18 M d2) w3 w6) := hid (Kept.trans HK4.out (Kept.trans HP5.out.2 hk6 (fun _ _ f => f) (fun _ _ f => f.elim)) (fun _ _ f => f) (fun _ _ f => f))
            clear hk6 HW5
            go_wp2_with fail
            go_roundg (gk - 1)
            case measure => omega
            case rel => exact ⟨i + 1, t + zn, v4, gs ++ hs, q3, e3, by go_num, by first | rfl | simp, by omega, by omega, hzn, HP6, HK6⟩
      · obtain rfl : i = len1 := by omega
        obtain ⟨hs, q3, e3, hrd3, hF3⟩ := HFD.out.feed (by rw [HMM.out]; exact HKW.out.size) (bs := (bs.drop t).take (len0 - t)) (fun b hb => HA.out.byt b (List.mem_of_mem_drop (List.mem_of_mem_take hb))) (by rw [List.length_take]; omega)
        have hall : bs.take t ++ (bs.drop t).take (len0 - t) = bs := by
          rw [← List.take_add, List.take_of_length_le (by have := HBL.out; omega)]
        rw [hall] at hrd3
        obtain ⟨h8, rfl, rfl⟩ := hrd3.det HRD.out
        have HFF : Hid (∀ (a' : Option Addr) (c' : Nat), (0 < len0 - t → ∀ b o, a0 = some ⟨b, o, none⟩ → a' = some ⟨b, o + t, none⟩) → (a' = none → len0 - t = 0 ∧ c' = 0) → Calls Try.prog 16 #[.pointer (some ⟨d2, 0, none⟩), .slice a' (len0 - t) c'] wr fun x w' => ∃ vo v', x = .returned (.tuple #[vo, .int .i64 e3]) ∧ RowC wr.heap.size 23 2 fmE w' vo hs ∧ RowC M 23 2 fmE w' vg gs ∧ Dc w' d2 v' (heldF q3 e3) e3 ∧ Kept (Wr18 M d2) wr w' ∧ (∀ k, Fd d2 v' k → k = d2 ∨ M ≤ k)) := hid (fun a' c' h1 h2 => hF3 (fun k => k < W.heap.size) _ ((HA.out.src.kept HSW.out (fun _ _ _ f => f)).sub t (len0 - t) (by have := HBL.out; omega) h1 c') (fun k hk => by have := HN3.out; constructor <;> omega) (fun n c e4 => by
            injection e4 with e5 e6 e7
            have h3 := h2 e5
            omega))
        have HRD3 : Hid (Rd bs (gs ++ hs) q3 e3) := hid hrd3
        have HMA : Hid (gs.length + hs.length ≤ 1000000000) := hid (by
            have h1 := hrd3.many
            rw [List.length_append] at h1
            have h2 := HBL.out
            omega)
        have HFS := hid h8
        have HNIL : Hid (a0 = none → len0 = 0 ∧ cap0 = 0) := hid (fun h => by subst h; exact HA.out.nil _ _ rfl)
        clear hrd3 hF3 hall h8
        by_cases hcap : cap0 = t
        case' pos =>
          have hF4 := HFF.out a0 0 (fun h => absurd h (by omega)) (fun h => by have := HNIL.out h; omega)
          have h0 : len0 - t = 0 := by omega
          rw [h0] at hF4
          subst hcap
          clear HFF
          go_wp2_with fail
        case' neg =>
          obtain ⟨ad, rfl⟩ : ∃ ad, a0 = some ad := by
              cases a0 with
              | none => have := HNIL.out rfl; omega
              | some ad => exact ⟨ad, rfl⟩
          have hF4 := HFF.out (some (ad.add t)) (cap0 - t) (fun _ b o e => by injection e with e; rw [e, addAt]) (fun h => by cases h)
          clear HFF
          go_wp2_with fail
        all_goals refine hF4.mono ?_
        all_goals
          rintro x w4 ⟨vo4, v4, rfl, ho4, hg4, hd4, hk4, hn4⟩
          obtain ⟨a4, c4, hv4, _⟩ := ho4.shape
          obtain ⟨m4, hm4⟩ : ∃ m, m = hs.length := ⟨_, rfl⟩
          rw [← hm4] at hv4
          subst hv4
          have HO4 := hid ho4
          have HG4 := hid hg4
          have HD4 := hid hd4
          have HN4 := hid hn4
          have HK4 : Hid (Kept (Wr18 M d2) w3 w4) := hid (Kept.trans HKW.out hk4 (fun _ _ f => f) (fun _ _ f => f))
          have HM4 := hid hm4
          clear ho4 hg4 hd4 hk4 hn4 hF4 hm4
        all_goals go_wp2_with (at_builtin; refine wpList_append_12 _ fmE 2 fmE_ok (by decide) M 36 23 (.agg #[.int .i64 0, .string ⟨#[]⟩]) 24 Try.underlying36 Try.infoFm rfl (by decide) rfl (.tmp 89) (.tmp 90) rfl vg gs rfl HG4.out a4 m4 c4 hs rfl HM4.out.symm HO4.out.cells18.1 HO4.out.cells18.2.1 HMA.out (by rw [HMM.out]; exact HK4.out.size) ?_)
        all_goals
          intro v5 w5 hr5 hg5
          have HP5 := hid (fed_push HRD3.out HD4.out HN4.out HN3.out.2.2 HG4.out hr5 hg5)
          have HK5 : Hid (Kept (Wr18 M d2) w3 w5) := hid (Kept.trans HK4.out HP5.out.2 (fun _ _ f => f) (fun _ _ f => f))
          have HW5 : Hid (Same W w5) := hid (HK3.out.then HK5.out (fun k hk hw => by
            have h1 := HN3.out
            rcases hw with e3 | e3 <;> omega))
          clear hr5 hg5
        all_goals go_wp2_with fail
        all_goals refine (HLAST.out _ HW5.out).mono ?_
        all_goals
          rintro x w6 ⟨rfl, hk6⟩
          have HK6 := hid hk6
          have HSA : Hid (Calls Try.prog 21 #[v5, vo3] w6 fun e w' => e = .returned (.bool true) ∧ Same w6 w') := hid
            (fsame_true _ _ _ _ _ fs (by rw [← HFS.out]; exact (SrcC.ofRow fmE_ok HP5.out.1.row).same18 hk6) ((SrcC.ofRow fmE_ok (HO3.out.kept HK5.out HAP.out.2)).same18 hk6) (by rw [← HFS.out, List.length_append]; have := HMA.out; have := HRD3.out.many; rw [List.length_append] at this; have := HBL.out; omega))
          clear hk6
        all_goals go_wp2_with fail
        all_goals refine HSA.out.mono ?_
        all_goals
          rintro x w7 ⟨rfl, hk7⟩
          have HK7 := hid (Same.trans HK6.out hk7)
          have HWA := dwants_any (HP5.out.1.dc.same HK7.out)
          obtain ⟨wn, hwn⟩ : ∃ x, x = wantD (heldF q3 e3) e3 := ⟨_, rfl⟩
          rw [← hwn] at HWA
          have HWN := hid hwn
          clear hk7 hwn
        all_goals go_wp2_with fail
        all_goals refine HWA.mono ?_
        all_goals
          rintro x w8 ⟨rfl, hk8⟩
          have HK8 := hid (Same.trans HK7.out hk8)
          have HWB := dwants_any ((HD3.out.kept HK5.out HAP.out.1).same HK8.out)
          rw [← HWN.out] at HWB
          clear hk8 HWA
        all_goals go_wp2_with fail
        all_goals refine HWB.mono ?_
        all_goals
          rintro x w9 ⟨rfl, hk9⟩
          have HK9 := hid (Same.trans HW5.out (Same.trans HK8.out hk9))
          clear hk9 HWB
        all_goals go_wp2_with fail
        all_goals go_ret
        all_goals exact ⟨rfl, HK9.out.below (Nat.le_refl _) (fun _ _ f => f)⟩

end Go.Proofs.Ytjjhjbmmhkcapaa
