/-
  FrameRound's walk.
-/
import Derived.Test.YtjjhjbmmhkcapaaFmF
import Derived.Test.YtjjhjbmmhkcapaaFmAr
namespace Go.Proofs.Ytjjhjbmmhkcapaa
open Go.RowKit

theorem Row.nil18 {w : World} {v : Value} {bs : List Nat} (h : Row w v bs) : ∀ n c, v = .slice none n c → n = 0 ∧ c = 0 := fun n c e => by
  rw [e] at h
  rcases h.2 with ⟨h10, _⟩ | ⟨g, cap, cur, h10, _⟩
  · injection h10 with _ e1 e2; exact ⟨e1, e2⟩
  · cases h10

theorem frms_len (l : List Fm) (h : ∀ f ∈ l, f.May) : (l.flatMap frmB).length ≤ l.length * 20009 := by
  induction l with
  | nil => simp
  | cons f l ih =>
    have h1 := ih (fun g hg => h g (by simp [hg]))
    have h2 := (h f (by simp)).2.2
    rw [List.flatMap_cons, List.length_append, frmB_len, List.length_cons]
    omega

theorem frms_lt (l : List Fm) (h : ∀ f ∈ l, f.May) : ∀ b ∈ l.flatMap frmB, b < 256 := by
  intro b hb
  obtain ⟨f, hf, hb⟩ := List.mem_flatMap.1 hb
  exact frmB_lt (h f hf) b hb

theorem errE_is (f : Fm) : errE f = 0 ∨ errE f = 182 ∨ errE f = 180 := by
  unfold errE
  split
  · exact .inr (.inl rfl)
  split
  · exact .inr (.inr rfl)
  · exact .inl rfl

set_option maxRecDepth 100000 in
set_option maxHeartbeats 4000000 in
theorem frameRound_all (a : Option Addr) (n cap : Nat) (L : List Fm) (W : World) (w0 : SrcC 2 fmE W (fun j => j < W.heap.size) (.slice a n cap) L) :
    Calls Try.prog 6 #[.slice a n cap] W fun e W' => e = .returned (.bool true) ∧ Below W.heap.size W W' := by
  have hL : n = L.length := by obtain ⟨ao, cp, e, _⟩ := id w0; injection e
  by_cases hl : 1000 < n
  · go_enter Try.func6, Try.ntmps6
    go_wp2_with fail
    refine (awake18 W).mono ?_
    rintro x w1 ⟨rfl, hk⟩
    go_wp2_with fail
    go_ret
    exact ⟨rfl, hk.below (Nat.le_refl _) (fun _ _ f => f)⟩
  · have HS := hid w0
    have HL := hid hL
    clear w0 hL
    go_enter Try.func6, Try.ntmps6
    go_wp2_with fail
    go_loopg [3, 4] n (fun k v z wx => ∃ i : Nat, i ≤ n ∧ n - i ≤ k ∧ z = .int .i64 (i : Nat) ∧ Fresh W wx v ((L.take i).flatMap frmB) ∧ ∀ f ∈ L.take i, f.May)
    case atStart => exact ⟨0, by omega, by omega, rfl, fresh_nil W 0 rfl, by simp⟩
    case round =>
      obtain ⟨i, hi, hik, rfl, hf, hm⟩ := hrel
      obtain ⟨av, cv, hv, _⟩ := hf.row.shape
      obtain ⟨m, hmm⟩ : ∃ m, m = ((L.take i).flatMap frmB).length := ⟨_, rfl⟩
      rw [← hmm] at hv
      have hml := frms_len _ hm
      rw [List.length_take, ← hmm] at hml
      have hm9 : m ≤ 20009000 := by
        have h9 : min i L.length * 20009 ≤ 1000 * 20009 := Nat.mul_le_mul_right _ (by omega)
        omega
      have HF := hid hf
      have HM := hid hm
      have HMM := hid hmm
      subst hv
      clear hf hm hmm hml
      by_cases hlt : i < n
      · have hlt2 : i < L.length := by have := HL.out; omega
        obtain ⟨b, o, hb, hc⟩ : ∃ b o, a = some ⟨b, o, none⟩ ∧ ∀ j (_ : j < L.length) q (_ : q < 2), wr.cell? ⟨b, o + (j * 2 + q), none⟩ = (fmE L[j])[q]? := by
          obtain ⟨ao, cp, e, _, h9⟩ := HS.out.kept fmE_ok HF.out.kept (fun _ _ _ f => f)
          obtain ⟨b, o, e2, _, h8⟩ := h9 (fun e => by rw [e] at hlt2; simp at hlt2)
          injection e with e _ _
          exact ⟨b, o, by rw [e, e2], h8⟩
        subst hb
        obtain ⟨f, hfe⟩ : ∃ f, f = L[i] := ⟨_, rfl⟩
        have k0 : wr.cell? ⟨b, o + i * 2, none⟩ = some (.int .i64 f.k) := by have h9 := hc i hlt2 0 (by omega); rw [← hfe] at h9; exact h9
        have k1 : wr.cell? ⟨b, o + i * 2 + 1, none⟩ = some (.string f.s) := by have h9 := hc i hlt2 1 (by omega); rw [← hfe] at h9; exact h9
        have HFE := hid hfe
        have hli2 : (i : Int) < (n : Int) := by omega
        clear hc hfe
        by_cases hbig : 1048576 < f.s.size
        · go_wp2_with fail
          refine (awake18 wr).mono ?_
          rintro x w1 ⟨rfl, hk⟩
          go_wp2_with fail
          go_ret
          exact ⟨rfl, (Same.trans HF.out.kept hk).below (Nat.le_refl _) (fun _ _ f => f)⟩
        · go_wp2_with fail
          refine (fenc_any wr f).mono ?_
          rintro x w1 ⟨v1, rfl, hf1, hn1⟩
          have HF1 := hid hf1
          by_cases he : errE f = 0
          · obtain ⟨a1, c1, hv1, hne1⟩ := hf1.row.shape
            have hen : encB f = frmB f := by unfold encB; rw [if_pos he]
            rw [hen] at hf1 hv1 hne1
            rw [frmB_len] at hv1
            subst hv1
            obtain ⟨j0, j1⟩ : w1.cell? ⟨b, o + i * 2, none⟩ = some (.int .i64 f.k) ∧ w1.cell? ⟨b, o + i * 2 + 1, none⟩ = some (.string f.s) := ⟨hf1.kept.cell k0 (fun f => f), hf1.kept.cell k1 (fun f => f)⟩
            have HF1b := hid hf1
            have hmay := errE_may.1 he
            have hfs : f.s.size ≤ 20000 := hmay.2.2
            have HMAY := hid hmay
            have hiw : IntKind.i64.wrap ((f.s.size : Int) + 9) = ((f.s.size + 9 : Nat) : Int) := by rw [IntKind.wrap_i64]; omega
            rw [he]
            have HFw : Hid (Fresh W w1 (.slice av m cv) ((L.take i).flatMap frmB)) := hid (HF.out.later HF1b.out.kept (fun _ f => f.elim))
            clear hf1 hn1 hen hmay hne1 k0 k1
            go_wp2_with (at_builtin; refine wpList_append_any _ rfl (.tmp 67) (.tmp 68) rfl (.slice av m cv) _ rfl HFw.out.row _ (.slice a1 (f.s.size + 9) c1) (frmB f) rfl HF1b.out.row.nil18 (Src.ofRow HF1b.out.row) (by rw [← HMM.out, frmB_len]; omega) ?_)
            intro v2 w2 hr2 hg2 ho2
            have HF2 : Hid (Fresh W w2 v2 ((L.take (i + 1)).flatMap frmB)) := hid (by
              rw [List.take_succ_eq_append_getElem hlt2, ← HFE.out, List.flatMap_append]
              have h9 := HFw.out.app' hr2 hg2 ho2
              simpa using h9)
            clear hr2 hg2 ho2
            go_wp2_with fail
            go_roundg (gk - 1)
            case measure => omega
            case rel =>
              refine ⟨i + 1, by omega, by omega, by go_num, HF2.out, fun g hg => ?_⟩
              rw [List.take_succ_eq_append_getElem hlt2] at hg
              rcases List.mem_append.1 hg with hg | hg
              · exact HM.out g hg
              · simp only [List.mem_singleton] at hg
                rw [hg, ← HFE.out]
                exact HMAY.out
          · have hv1 := hn1 he
            subst hv1
            rcases errE_is f with h0 | h0 | h0
            · exact absurd h0 he
            · rw [h0]
              clear hf1 hn1 h0 he
              go_wp2_with fail
              refine (awake18 w1).mono ?_
              rintro x w2 ⟨rfl, hk⟩
              go_wp2_with fail
              go_ret
              exact ⟨rfl, (Same.trans HF.out.kept (Same.trans HF1.out.kept hk)).below (Nat.le_refl _) (fun _ _ f => f)⟩
            · rw [h0]
              clear hf1 hn1 h0 he
              go_wp2_with fail
              refine (awake18 w1).mono ?_
              rintro x w2 ⟨rfl, hk⟩
              go_wp2_with fail
              go_ret
              exact ⟨rfl, (Same.trans HF.out.kept (Same.trans HF1.out.kept hk)).below (Nat.le_refl _) (fun _ _ f => f)⟩
      · obtain rfl : i = n := by omega
        go_wp2_with fail
        refine (dnew18 wr).mono ?_
        rintro x w1 ⟨d, rfl, hd, hk1, hd1⟩
        have HFa := HF.out
        have HMa := HM.out
        rw [List.take_of_length_le (by have := HL.out; omega)] at HFa HMa
        have hD := dfeed_any hd (I := fun k => (Value.slice av m cv).ownBlock = some k) (bs := L.flatMap frmB) ((Src.ofRow HFa.row).kept hk1 (fun _ _ _ f => f)) (fun k hk hf => by
          have h1 := HFa.row.lt hk
          rcases hf with e | e
          · omega
          · cases e) (frms_lt L HMa) HFa.row.nil18 (by
          have h1 := HMM.out
          rw [List.take_of_length_le (by have := HL.out; omega)] at h1
          omega) (fun _ => rd_frms L HMa) (fun h => absurd rfl h)
        have HK1 : Hid (Same W w1) := hid (Same.trans HF.out.kept hk1)
        have HD1 : Hid (W.heap.size ≤ d) := hid (Nat.le_trans HF.out.kept.size hd1)
        clear hd hk1 hd1 HFa HMa
        go_wp2_with fail
        refine hD.mono ?_
        rintro x w2 ⟨vo, v2, rfl, ho2, hd2, hk2, hn2⟩
        rw [if_pos rfl] at hd2
        have HO2 := hid ho2
        have HD2 := hid hd2
        have HK2 : Hid (Same W w2) := hid (HK1.out.then hk2 (fun k hk f => by
          rcases f with e | e
          · have := HD1.out; omega
          · cases e))
        clear ho2 hd2 hk2 hn2 hD
        go_wp2_with fail
        refine (awake18 w2).mono ?_
        rintro x w3 ⟨rfl, hk3⟩
        have HK3 := hid hk3
        have HSA : Calls Try.prog 21 #[vo, .slice a i cap] w3 fun e w' => e = .returned (.bool true) ∧ Same w3 w' :=
          fsame_true w3 _ _ _ _ L ((SrcC.ofRow fmE_ok HO2.out).same18 hk3) (HS.out.same18 (Same.trans HK2.out hk3)) (by have := HL.out; omega)
        clear hk3
        go_wp2_with fail
        refine HSA.mono ?_
        rintro x w4 ⟨rfl, hk4⟩
        have HK4 := hid (Same.trans HK3.out hk4)
        have HWA := dwants_any (HD2.out.same HK4.out)
        rw [show wantD [] 0 = 9 from rfl] at HWA
        clear hk4 HSA
        go_wp2_with fail
        refine HWA.mono ?_
        rintro x w5 ⟨rfl, hk5⟩
        have HK5 := hid (Same.trans HK4.out hk5)
        have HWR := dwrong_any (HD2.out.same HK5.out)
        clear hk5 HWA
        go_wp2_with fail
        refine HWR.mono ?_
        rintro x w6 ⟨rfl, hk6⟩
        have HK6 := hid (Same.trans HK5.out hk6)
        clear hk6 HWR
        go_wp2_with fail
        go_ret
        exact ⟨rfl, (Same.trans HK2.out HK6.out).below (Nat.le_refl _) (fun _ _ f => f)⟩

end Go.Proofs.Ytjjhjbmmhkcapaa
