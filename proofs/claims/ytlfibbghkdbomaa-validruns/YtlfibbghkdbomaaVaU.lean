/-
  Layer 13: the reference's Check and Own; two rows of writes held against one another.
-/
import Derived.Test.YtlfibbghkdbomaaVaS
namespace Go.Proofs.Ytlfibbghkdbomaa
open Go.RowKit Go.Maps Go.Sort Go.Shelf

def chkR (s : Rs) (cs : List Cm) : Int × Int := if risC 0 cs then (ixL (fun c => decide (0 < s.st.length) && claR s c.t c.ws) cs, 0) else (-1, 130)

section
variable {N : Nat} {w : World} {p : Nat} {s : Rs} {v1 v2 v3 : Value}

set_option maxRecDepth 100000 in
set_option maxHeartbeats 2000000 in
theorem rcheck_any (h : Rv N w p s v1 v2 v3) (v : Value) (cs : List Cm) (I : Nat → Prop) (hs : Cms w I v cs) : Calls Try.prog 22 #[.pointer (some ⟨p, 0, none⟩), v] w fun e w' => e = .returned (.tuple #[.int .i64 (chkR s cs).1, .int .i64 (chkR s cs).2]) ∧ Same w w' := by
  have hn := hs.big
  obtain ⟨a, cap, hv, hcap, hcel⟩ := hs.src
  obtain ⟨len, hlen⟩ : ∃ n, n = cs.length := ⟨_, rfl⟩
  rw [← hlen] at hn hv
  subst hv
  obtain ⟨a3, c3, hv3, _⟩ := h.r3.shape
  obtain ⟨l3, hl3⟩ : ∃ n, n = s.st.length := ⟨_, rfl⟩
  rw [← hl3] at hv3
  subst hv3
  have HP : Hid (∀ w', Same w w' → w'.cell? ⟨p, 3, none⟩ = some (.slice a3 l3 c3)) := hid (fun w' hk => (h.same hk).blk.cell 3)
  have HC : Hid (cs ≠ [] → ∃ b o, a = some ⟨b, o, none⟩ ∧ I b ∧ ∀ j (_ : j < cs.length) i (_ : i < 2), w.cell? ⟨b, o + (j * 2 + i), none⟩ = (cmC cs[j])[i]?) := hcel
  have HL : Hid (len = cs.length ∧ len ≤ cap ∧ len ≤ 9223372036854775807 ∧ l3 = s.st.length) := hid ⟨hlen, by rw [hlen]; exact hcap, hn, hl3⟩
  have HQ : Hid (∀ w' x, Same w w' → x ∈ cs → Calls Try.prog 23 #[.pointer (some ⟨p, 0, none⟩), .agg #[.int .i64 x.t, .slice x.a x.n x.c]] w' fun e w2 => e = .returned (.bool (claR s x.t x.ws)) ∧ Same w' w2) := hid (fun w' x hk hx => rclash_any (h.same hk) x I ((hs.ok x hx).kept hk (fun _ _ _ f => f)))
  clear h hs hcel hlen hcap hn hl3
  go_enter Try.func22, Try.ntmps22
  go_wp2_with fail
  go_loopg [6, 7] len (fun k z6 z7 wr => ∃ (i : Nat) (last : Int), len - i ≤ k ∧ i ≤ len ∧ z6 = .int .i64 last ∧ z7 = .int .i64 (i : Nat) ∧ Hid (risC 0 cs = risC last (cs.drop i)) ∧ wr = w)
  case atStart => exact ⟨0, 0, by omega, by omega, rfl, rfl, hid rfl, rfl⟩
  case round =>
    obtain ⟨i, last, hk, hil, rfl, rfl, HF, hw⟩ := hrel
    subst hw
    by_cases hlt : i < len
    · have hli : decide (i < len) = true := by simp; omega
      have hlt2 : i < cs.length := by have := HL.out.1; omega
      obtain ⟨b, o, ha, _, hcc⟩ := HC.out (fun e => by rw [e] at hlt2; simp at hlt2)
      subst ha
      obtain ⟨r, hr⟩ : ∃ r, r = cs[i] := ⟨_, rfl⟩
      have k0 : wr.cell? ⟨b, o + (i * 2 + 0), none⟩ = some (.int .i64 r.t) := by rw [hcc i hlt2 0 (by decide), ← hr]; rfl
      have hiw : IntKind.i64.wrap ((i : Int) + 1) = ((i + 1 : Nat) : Int) := by have := HL.out.2.2.1; rw [IntKind.wrap_i64]; omega
      have HD : Hid (risC last (cs.drop i) = (decide (last < r.t) && risC r.t (cs.drop (i + 1)))) := hid (by rw [List.drop_eq_getElem_cons hlt2, ← hr]; rfl)
      clear hcc hr
      rw [Nat.add_zero] at k0
      by_cases hb : r.t ≤ last
      · have hbd : decide (r.t ≤ last) = true := decide_eq_true hb
        have HB : Hid (chkR s cs = (-1, 130)) := hid (by unfold chkR; rw [HF.out, HD.out, decide_eq_false (by omega)]; rfl)
        clear hb
        go_wp2_with fail
        go_ret2
        exact ⟨by rw [HB.out]; rfl, Kept.refl _ _⟩
      · have hbd : decide (r.t ≤ last) = false := decide_eq_false hb
        have HB : Hid (risC 0 cs = risC r.t (cs.drop (i + 1))) := hid (by rw [HF.out, HD.out, decide_eq_true (by omega)]; rfl)
        clear hb
        go_wp2_with fail
        go_roundg (gk - 1)
        case measure => omega
        case rel => exact ⟨i + 1, r.t, by omega, by omega, rfl, by go_num, HB, rfl⟩
    · have hli : decide (i < len) = false := by simp; omega
      obtain rfl : i = len := by omega
      have HRi : Hid (risC 0 cs = true) := hid (by rw [HF.out, List.drop_eq_nil_of_le (by have := HL.out.1; omega)]; rfl)
      obtain ⟨P, hP⟩ : ∃ P : Cm → Bool, P = fun c => decide (0 < s.st.length) && claR s c.t c.ws := ⟨_, rfl⟩
      have HPP : Hid (P = (fun c => decide (0 < s.st.length) && claR s c.t c.ws) ∧ chkR s cs = (ixL P cs, 0)) := hid ⟨hP, by unfold chkR; rw [HRi.out, if_pos rfl, hP]⟩
      clear hP HF
      go_wp2_with fail
      clear hli hlt hk hil
      go_loopg [8] i (fun k z8 wq => ∃ (j : Nat), i - j ≤ k ∧ j ≤ i ∧ z8 = .int .i64 (j : Nat) ∧ Hid (∀ q (hq : q < j) (hq2 : q < cs.length), P cs[q] = false) ∧ Hid (Same wr wq))
      case atStart => exact ⟨0, by omega, by omega, rfl, hid (fun q hq _ => by omega), hid (Kept.refl _ _)⟩
      case round =>
        rename_i wq _
        obtain ⟨j, hk, hjl, rfl, HF, HS⟩ := hrel
        have p3 := HP.out _ HS.out
        by_cases hlt : j < i
        · have hli : decide (j < i) = true := by simp; omega
          have hlt2 : j < cs.length := by have := HL.out.1; omega
          obtain ⟨b, o, ha, _, hcc⟩ := HC.out (fun e => by rw [e] at hlt2; simp at hlt2)
          subst ha
          obtain ⟨r, hr⟩ : ∃ r, r = cs[j] := ⟨_, rfl⟩
          have k0 := HS.out.cell (show _ = some (.int .i64 r.t) by rw [hcc j hlt2 0 (by decide), ← hr]; rfl) (fun f => f)
          have k1 := HS.out.cell (show _ = some (.slice r.a r.n r.c) by rw [hcc j hlt2 1 (by decide), ← hr]; rfl) (fun f => f)
          rw [Nat.add_zero] at k0
          simp only [← Nat.add_assoc] at k1
          have hiw : IntKind.i64.wrap ((j : Int) + 1) = ((j + 1 : Nat) : Int) := by have := HL.out.2.2.1; rw [IntKind.wrap_i64]; omega
          have HCl := HQ.out _ r HS.out (by rw [hr]; exact List.getElem_mem _)
          obtain ⟨cl, hcl⟩ : ∃ z, z = claR s r.t r.ws := ⟨_, rfl⟩
          rw [← hcl] at HCl
          have HPR : Hid (P cs[j] = (decide (0 < l3) && cl)) := hid (by rw [HPP.out.1, hcl, hr, HL.out.2.2.2])
          clear hcc hr hcl
          by_cases hz : l3 = 0
          · have hz1 : decide (0 < l3) = false := by simp; omega
            have hz2 : decide ((0 : Int) < (l3 : Int)) = false := by simp; omega
            have HE : Hid (∀ q (hq : q < j + 1) (hq2 : q < cs.length), P cs[q] = false) := hid (fun q hq hq2 => by
              rcases Nat.lt_or_ge q j with h1 | h1
              · exact HF.out q h1 hq2
              · obtain rfl : q = j := by omega
                rw [HPR.out, hz1]; rfl)
            clear hz HF
            go_wp2_with fail
            go_roundg (gk - 1)
            case measure => omega
            case rel => exact ⟨j + 1, by omega, by omega, by go_num, HE, HS⟩
          · have hz1 : decide (0 < l3) = true := by simp; omega
            have hz2 : decide ((0 : Int) < (l3 : Int)) = true := by simp; omega
            cases cl with
            | true =>
              have HE : Hid (ixL P cs = (j : Int)) := hid (ixL_hit P cs j hlt2 (by rw [HPR.out, hz1]; rfl) (fun q hq => HF.out q hq (by omega)))
              clear hz
              go_wp2_with fail
              refine HCl.mono ?_
              rintro e w5 ⟨rfl, hk5⟩
              go_wp2_with fail
              go_ret2
              exact ⟨by rw [HPP.out.2, HE.out]; rfl, HS.out.trans hk5⟩
            | false =>
              have HE : Hid (∀ q (hq : q < j + 1) (hq2 : q < cs.length), P cs[q] = false) := hid (fun q hq hq2 => by
                rcases Nat.lt_or_ge q j with h1 | h1
                · exact HF.out q h1 hq2
                · obtain rfl : q = j := by omega
                  rw [HPR.out, Bool.and_false])
              clear hz HF
              go_wp2_with fail
              refine HCl.mono ?_
              rintro e w5 ⟨rfl, hk5⟩
              have HS5 := hid (HS.out.trans hk5)
              clear hk5 HCl
              go_wp2_with fail
              go_roundg (gk - 1)
              case measure => omega
              case rel => exact ⟨j + 1, by omega, by omega, by go_num, HE, HS5⟩
        · have hli : decide (j < i) = false := by simp; omega
          obtain rfl : j = i := by omega
          have HE : Hid (ixL P cs = -1) := hid (ixL_none P cs (fun q hq => HF.out q (by have := HL.out.1; omega) hq))
          go_wp2_with fail
          go_ret2
          exact ⟨by rw [HPP.out.2, HE.out]; rfl, HS.out⟩

end

end Go.Proofs.Ytlfibbghkdbomaa
