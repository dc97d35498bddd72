/-
  Layer 13: Check.
-/
import Derived.Test.YtlfibbghkdbomaaVaF
namespace Go.Proofs.Ytlfibbghkdbomaa
open Go.RowKit Go.Maps Go.Sort Go.Shelf

/-- What Check tells. -/
def chkS (s : Vst) (cs : List Cm) : Int × Int :=
  if risC 0 cs then (if s.st.isEmpty then (-1, 0) else (ixL (fun c => claS s c.t c.ws) cs, 0)) else (-1, 130)

theorem Try.enters13k : ∀ args w, (callFunc 13 args).run Try.prog w = .ok (.enter 13 args) w := enters_of Try.func13 (by kernel_rfl) rfl

set_option maxHeartbeats 400000 in
theorem vcheck_nil (w : World) (v : Value) : Calls Try.prog 19 #[.pointer none, v] w fun e w' => e = .returned (.tuple #[.int .i64 (-1), .int .i64 3]) ∧ w' = w := by
  go_enter Try.func19, Try.ntmps19
  go_wp2_with fail
  go_ret2
  exact ⟨rfl, rfl⟩

section
variable {K : Nat} {w : World} {p mr ml ms : Nat} {s : Vst}

set_option maxRecDepth 100000 in
set_option maxHeartbeats 1000000 in
theorem vcheck_any (h : Vk K w p mr ml ms s) (v : Value) (cs : List Cm) (I : Nat → Prop) (hs : Cms w I v cs) : Calls Try.prog 19 #[.pointer (some ⟨p, 0, none⟩), v] w fun e w' => e = .returned (.tuple #[.int .i64 (chkS s cs).1, .int .i64 (chkS s cs).2]) ∧ Same w w' := by
  obtain ⟨a, cap, hv, _, _⟩ := hs.src
  obtain ⟨len, hlen⟩ : ∃ n, n = cs.length := ⟨_, rfl⟩
  rw [← hlen] at hv
  have HRi := rising13_any w v cs I hs
  have HIx : Hid (∀ w', Same w w' → Calls Try.prog 35 #[v, .func (.func 13) #[.pointer (some ⟨p, 0, none⟩)] #[]] w' fun e w2 => e = .returned (.int .i64 (ixL (fun c => claS s c.t c.ws) cs)) ∧ Same w' w2) := hid (fun w' hk =>
    indexC_any w' v cs I _ _ _ (hs.same hk) Try.enters13k (fun c wx hc hkx => vclash_any ((h.same hk).same hkx) c.t _ c.ws I (((hs.ok c hc).kept (hk.trans hkx) (fun _ _ _ f => f)).src) (hs.ok c hc).big))
  have HLn : Hid (∀ w', Same w w' → w'.cell? ⟨p, 3, none⟩ = some (.map (some ms)) ∧ (Builtin.len_ #[62] 3 #[.map (some ms)]).run Try.prog w' = .ok (.int .i64 (s.st.length : Nat)) w') := hid (fun w' hk => ⟨(h.same hk).blk.cell 3, (h.same hk).sm.len _ _ Try.underlying62 _⟩)
  obtain ⟨b, hb⟩ : ∃ b, b = risC 0 cs := ⟨_, rfl⟩
  rw [← hb] at HRi
  subst hv
  cases b with
  | false =>
    have HR : Hid (chkS s cs = (-1, 130)) := hid (by unfold chkS; rw [← hb]; rfl)
    rw [HR.out]
    clear h hs hb hlen
    go_enter Try.func19, Try.ntmps19
    go_wp2_with fail
    refine HRi.mono ?_
    rintro e w2 ⟨rfl, hk2⟩
    go_wp2_with fail
    go_ret2
    exact ⟨rfl, hk2⟩
  | true =>
    obtain ⟨m, hm⟩ : ∃ m, m = s.st.length := ⟨_, rfl⟩
    rw [← hm] at HLn
    by_cases hz : m = 0
    · have HR : Hid (chkS s cs = (-1, 0)) := hid (by unfold chkS; rw [← hb, if_pos rfl, if_pos (by rw [List.isEmpty_iff]; exact List.eq_nil_of_length_eq_zero (by omega))])
      rw [HR.out]
      subst hz
      clear h hs hb hlen hm
      go_enter Try.func19, Try.ntmps19
      go_wp2_with fail
      refine HRi.mono ?_
      rintro e w2 ⟨rfl, hk2⟩
      obtain ⟨p3, hl⟩ := HLn.out w2 hk2
      go_wp2_with fail
      go_ret2
      exact ⟨rfl, hk2⟩
    · have HR : Hid (chkS s cs = (ixL (fun c => claS s c.t c.ws) cs, 0)) := hid (by unfold chkS; rw [← hb, if_pos rfl, if_neg (by rw [List.isEmpty_iff]; intro e; rw [e] at hm; exact hz hm)])
      rw [HR.out]
      have hz1 : ((m : Int) == 0) = false := by simp; omega
      have hz2 : (m == 0) = false := by simp; omega
      have hz3 : decide (m = 0) = false := by simp; omega
      clear h hs hb hlen hm hz
      go_enter Try.func19, Try.ntmps19
      go_wp2_with fail
      refine HRi.mono ?_
      rintro e w2 ⟨rfl, hk2⟩
      obtain ⟨p3, hl⟩ := HLn.out w2 hk2
      have HIx2 := HIx.out w2 hk2
      go_wp2_with fail
      refine HIx2.mono ?_
      rintro e w3 ⟨rfl, hk3⟩
      go_wp2_with fail
      go_ret2
      exact ⟨rfl, hk2.trans hk3⟩

end

end Go.Proofs.Ytlfibbghkdbomaa
