/-
  Of the proof: parts HStab, HRis, Args, HArgs, HChk, HRef, HKeep, HRev, HCode, HDecM, HRows, Bits, HNextM, LnM, LnPackM, Rec.
-/
import Derived.ProofKit
import Derived.OpenShut
import Derived.Laws.BitsAllLaws
import Derived.Test.YtofhlnpbflkdlaaDoorJ1

/-
  stableCmpFunc and SortStableFunc: symbols by rising numbers.
-/
namespace Go.Proofs.YtofhlnpbflkdlaaDoor
open Go.RowKit

/-- Blocks of k, each sorted, each one's symbols below the later ones'. -/
inductive Blocks (ns : List Nat) (k : Nat) : List Nat → Prop
  | last (l : List Nat) (h : l.length ≤ k) (s : Sorted ns l) : Blocks ns k l
  | cons (e r : List Nat) (h : e.length = k) (s : Sorted ns e) (a : Ahead e r) (b : Blocks ns k r) : Blocks ns k (e ++ r)

theorem Blocks.split {ns l : List Nat} {k : Nat} (h : Blocks ns k l) (hl : k ≤ l.length) : ∃ e r, l = e ++ r ∧ e.length = k ∧ Sorted ns e ∧ Ahead e r ∧ Blocks ns k r := by
  cases h with
  | last _ h s => exact ⟨l, [], by simp, by omega, s, by intro x _ y hy; simp at hy, .last [] (by simp) List.Pairwise.nil⟩
  | cons e r h s a b => exact ⟨e, r, rfl, h, s, a, b⟩

theorem Blocks.short {ns l : List Nat} {k : Nat} (h : Blocks ns k l) (hl : l.length ≤ k) : Sorted ns l := by
  cases h with
  | last _ h s => exact s
  | cons e r h s a b =>
    have : r = [] := List.eq_nil_of_length_eq_zero (by simp at hl; omega)
    subst this; simpa using s

/-- What is done, whatever becomes of the rest. -/
def Goes (ns : List Nat) (k : Nat) (d D rest : List Nat) : Prop := (D ++ rest).Perm d ∧ ∀ r : List Nat, r.Perm rest → Blocks ns k r → Blocks ns k (D ++ r)

theorem Goes.start (ns : List Nat) (k : Nat) (d : List Nat) : Goes ns k d [] d := ⟨by simp, fun r _ h => by simpa using h⟩

theorem Goes.step {ns d D r C : List Nat} {k : Nat} (e : List Nat) (h : Goes ns k d D (e ++ r)) (hC : C.Perm e) (hl : e.length = k) (hs : Sorted ns C) (ha : Ahead e r) : Goes ns k d (D ++ C) r := by
  refine ⟨?_, fun r' hr hb => ?_⟩
  · refine List.Perm.trans ?_ h.1
    rw [List.append_assoc]
    exact List.Perm.append_left _ (hC.append_right r)
  · rw [List.append_assoc]
    exact h.2 (C ++ r') (hC.append hr) (.cons C r' (by rw [hC.length_eq, hl]) hs (ha.perm hC hr) hb)

theorem Goes.finish {ns d D r r' : List Nat} {k : Nat} (h : Goes ns k d D r) (hp : r'.Perm r) (hb : Blocks ns k r') : (D ++ r').Perm d ∧ Blocks ns k (D ++ r') :=
  ⟨(List.Perm.append_left D hp).trans h.1, h.2 r' hp hb⟩

set_option maxHeartbeats 4000000 in
set_option maxRecDepth 100000 in
theorem stable_any (w : World) (B g n cap bx : Nat) (I : Nat → Prop) (ns d : List Nat) (hM : Mem w B g n cap bx I ns d) (hd : d.Pairwise (· < ·)) (hm : ∀ x ∈ d, x < ns.length) :
    Calls Tryd.prog 94 #[.slice (some ⟨g, 0, none⟩) n cap, .int .i64 (n : Nat), cmpV bx] w fun e w' => (∃ v, e = .returned v) ∧ ∃ d', d'.Perm d ∧ Sorted ns d' ∧ Mem w' B g n cap bx I ns d' ∧ Kept (· = g) w w' := by
  have hlen := hM.row.len
  have hn := hM.hn
  have HM : Hid (Mem w B g n cap bx I ns d) := hM
  have HD : Hid (d.Pairwise (· < ·)) := hd
  have HX : Hid (∀ x ∈ d, x < ns.length) := hm
  have HN : Hid (d.length = n) := hlen
  clear hM hd hm hlen
  go_enter Tryd.func94, Tryd.ntmps94
  go_wp2_with fail
  go_loopg [7, 8] n (fun q za zb wr => ∃ (a : Nat) (D r : List Nat), n - a ≤ q ∧ a ≤ n ∧ za = .int .i64 (a : Nat) ∧ zb = .int .i64 ((a + 20 : Nat) : Int) ∧ Hid (D.length = a ∧ a + r.length = n ∧ r.Pairwise (· < ·) ∧ Goes ns 20 d D r) ∧ Hid (Mem wr B g n cap bx I ns (D ++ r)) ∧ Hid (Kept (· = g) w wr))
  case atStart => exact ⟨0, [], d, by omega, by omega, rfl, rfl, ⟨rfl, by have := HN.out; omega, HD.out, Goes.start ns 20 d⟩, HM.out, Kept.refl _ w⟩
  case round =>
    obtain ⟨a, D, r, hq, han, rfl, rfl, HF, HM2, HK2⟩ := hrel
    clear HM
    by_cases hle : a + 20 ≤ n
    · have hr20 : 20 ≤ r.length := by have := HF.out.2.1; omega
      have hmem : ∀ x ∈ r.take 20, x < ns.length := fun x hx => HX.out x (HF.out.2.2.2.1.mem_iff.1 (List.mem_append_right _ (List.mem_of_mem_take hx)))
      have HC := insertion_any wr B g n cap a (a + 20) bx I ns D (r.take 20) (r.drop 20) (by have h := HM2.out.row; rw [← List.take_append_drop 20 r, ← List.append_assoc] at h; exact h) HF.out.1.symm (by have := HF.out.1; simp; omega) hn HM2.out.hns HM2.out.cmp HM2.out.hbx HM2.out.hI (List.Pairwise.sublist (List.take_sublist _ _) HF.out.2.2.1) hmem
      have hc : ((a + 20 : Nat) : Int) ≤ (n : Int) := by omega
      clear hmem
      go_wp2_with fail
      refine HC.mono ?_
      rintro e w2 ⟨⟨v, rfl⟩, ⟨C, p1, s1, hr1⟩, hk1⟩
      have HC1 : Hid (C.Perm (r.take 20) ∧ Sorted ns C) := ⟨p1, s1⟩
      have HM3 : Hid (Mem w2 B g n cap bx I ns (D ++ C ++ r.drop 20)) := hid (HM2.out.to hr1 hk1)
      have HK3 : Hid (Kept (· = g) w w2) := HK2.out.trans hk1 (fun _ _ h => h) (fun _ _ h => h)
      clear p1 s1 hr1 hk1 HC
      go_wp2_with fail
      go_roundg (gk - 20)
      case measure => omega
      case rel =>
        refine ⟨a + 20, D ++ C, r.drop 20, by omega, by omega, rfl, by go_num, ⟨?_, ?_, ?_, ?_⟩, HM3.out, HK3.out⟩
        · have := HC1.out.1.length_eq; have := HF.out.1; simp at *; omega
        · have := HF.out.2.1; simp; omega
        · exact List.Pairwise.sublist (List.drop_sublist _ _) HF.out.2.2.1
        · have hg := HF.out.2.2.2
          rw [← List.take_append_drop 20 r] at hg
          refine Goes.step (r.take 20) hg HC1.out.1 (by simp; omega) HC1.out.2 ?_
          have hpw := HF.out.2.2.1
          rw [← List.take_append_drop 20 r] at hpw
          exact (List.pairwise_append.1 hpw).2.2
    · have hmem : ∀ x ∈ r, x < ns.length := fun x hx => HX.out x (HF.out.2.2.2.1.mem_iff.1 (List.mem_append_right _ hx))
      have HC := insertion_any wr B g n cap a n bx I ns D r [] (by simpa using HM2.out.row) HF.out.1.symm (by have := HF.out; omega) hn HM2.out.hns HM2.out.cmp HM2.out.hbx HM2.out.hI HF.out.2.2.1 hmem
      have hc : ¬ ((a + 20 : Nat) : Int) ≤ (n : Int) := by omega
      clear hmem
      go_wp2_with fail
      refine HC.mono ?_
      rintro e w2 ⟨⟨v, rfl⟩, ⟨C, p1, s1, hr1⟩, hk1⟩
      obtain ⟨d1, hd1⟩ : ∃ d1, d1 = D ++ C := ⟨_, rfl⟩
      have HB : Hid (d1.Perm d ∧ Blocks ns 20 d1) := by
        rw [hd1]
        exact HF.out.2.2.2.finish p1 (.last C (by have := p1.length_eq; have := HF.out.2.1; omega) s1)
      have HM3 : Hid (Mem w2 B g n cap bx I ns d1) := hid (HM2.out.to (by rw [hd1]; simpa using hr1) hk1)
      have HK3 : Hid (Kept (· = g) w w2) := HK2.out.trans hk1 (fun _ _ h => h) (fun _ _ h => h)
      clear p1 s1 hr1 hk1 HC hd1 HM2 HK2 HF hc hle hq han
      go_wp2_with fail
      go_loopg [6] n (fun q z wr => ∃ (k : Nat) (d1 : List Nat), n - k ≤ q ∧ 20 ≤ k ∧ k ≤ 2000000 ∧ z = .int .i64 (k : Nat) ∧ Hid (d1.Perm d ∧ Blocks ns k d1) ∧ Hid (Mem wr B g n cap bx I ns d1) ∧ Hid (Kept (· = g) w wr))
      case atStart => exact ⟨20, d1, by omega, by omega, by omega, rfl, HB, HM3, HK3⟩
      case round =>
        obtain ⟨k, d2, hq, hk20, hkn, rfl, HB2, HM4, HK4⟩ := hrel
        obtain ⟨gk0, hgk⟩ : ∃ x, x = gk := ⟨_, rfl⟩
        rw [← hgk] at hq
        have HG : Hid (gk0 = gk) := hgk
        clear hgk HB HM3 HK3
        by_cases hlt : k < n
        · go_wp2_with fail
          go_loopg [7, 8] n (fun q za zb wr => ∃ (a : Nat) (D r : List Nat), n - a ≤ q ∧ a ≤ n ∧ za = .int .i64 (a : Nat) ∧ zb = .int .i64 ((a + 2 * k : Nat) : Int) ∧ Hid (D.length = a ∧ a + r.length = n ∧ Blocks ns k r ∧ Goes ns (2 * k) d D r) ∧ Hid (Mem wr B g n cap bx I ns (D ++ r)) ∧ Hid (Kept (· = g) w wr))
          case atStart => exact ⟨0, [], d2, by omega, by omega, rfl, by congr 1 <;> omega, ⟨rfl, by have := HN.out; have := HB2.out.1.length_eq; omega, HB2.out.2, ⟨HB2.out.1, fun r _ h => by simpa using h⟩⟩, HM4.out, HK4.out⟩
          case round =>
            obtain ⟨a, D, r, hq2, han, rfl, rfl, HF, HM5, HK5⟩ := hrel
            clear HM4 HK4
            by_cases hle : a + 2 * k ≤ n
            · obtain ⟨e1, r1, hr1, hl1, hs1, ha1, hb1⟩ := HF.out.2.2.1.split (by have := HF.out.2.1; omega)
              obtain ⟨e2, r2, hr2, hl2, hs2, ha2, hb2⟩ := hb1.split (by have := HF.out.2.1; subst hr1; simp at this; omega)
              subst hr2
              have hmem : ∀ x ∈ e1 ++ e2, x < ns.length := fun x hx => HX.out x (HF.out.2.2.2.1.mem_iff.1 (by rw [hr1]; simp at hx ⊢; rcases hx with h | h <;> simp [h]))
              have hP : Parts ns e1 e2 := ⟨hs1, hs2, fun x hx y hy => ha1 x hx y (by simp [hy]), fun x hx => hmem x (by simp [hx]), fun x hx => hmem x (by simp [hx])⟩
              have HC := sym_any (2 * k) B g n cap bx I ns wr a (a + k) (a + 2 * k) D e1 e2 r2 (by omega) (by have h := HM5.out; rw [hr1] at h; simpa using h) hP HF.out.1.symm (by have := HF.out.1; omega) (by have := HF.out.1; omega) (by omega) (by omega)
              have HE : Hid (r = e1 ++ (e2 ++ r2) ∧ e1.length = k ∧ e2.length = k ∧ Ahead e1 (e2 ++ r2) ∧ Ahead e2 r2 ∧ Blocks ns k r2) := ⟨hr1, hl1, hl2, ha1, ha2, hb2⟩
              have hc : ((a + 2 * k : Nat) : Int) ≤ (n : Int) := by omega
              clear hr1 hl1 hl2 ha1 ha2 hb2 hb1 hmem hP hs1 hs2
              go_wp2_with fail
              refine HC.mono ?_
              rintro e w3 ⟨⟨v, rfl⟩, C, p1, s1, hm1, hk1⟩
              have HC1 : Hid (C.Perm (e1 ++ e2) ∧ Sorted ns C) := ⟨p1, s1⟩
              have HM6 : Hid (Mem w3 B g n cap bx I ns (D ++ C ++ r2)) := hm1
              have HK6 : Hid (Kept (· = g) w w3) := HK5.out.trans hk1 (fun _ _ h => h) (fun _ _ h => h)
              clear p1 s1 hm1 hk1 HC
              go_wp2_with fail
              go_roundg (gk - 1)
              case measure => omega
              case rel =>
                refine ⟨a + 2 * k, D ++ C, r2, by omega, by omega, rfl, by congr 1 <;> omega, ⟨?_, ?_, HE.out.2.2.2.2.2, ?_⟩, HM6.out, HK6.out⟩
                · have h1 := HC1.out.1.length_eq; have := HF.out.1; have h2 := HE.out; simp at *; omega
                · have h1 := HF.out.2.1; have h2 := HE.out; rw [h2.1] at h1; simp at h1; omega
                · have hg := HF.out.2.2.2
                  rw [HE.out.1, ← List.append_assoc] at hg
                  refine Goes.step (e1 ++ e2) hg HC1.out.1 (by have := HE.out; simp; omega) HC1.out.2 ?_
                  intro x hx y hy
                  rcases List.mem_append.1 hx with hx | hx
                  · exact HE.out.2.2.2.1 x hx y (by simp [hy])
                  · exact HE.out.2.2.2.2.1 x hx y hy
            · have hc : ¬ ((a + 2 * k : Nat) : Int) ≤ (n : Int) := by omega
              by_cases hmn : a + k < n
              · obtain ⟨e1, r1, hr1, hl1, hs1, ha1, hb1⟩ := HF.out.2.2.1.split (by have := HF.out.2.1; omega)
                have hl2 : r1.length ≤ k := by have := HF.out.2.1; rw [hr1] at this; simp at this; omega
                have hmem : ∀ x ∈ e1 ++ r1, x < ns.length := fun x hx => HX.out x (HF.out.2.2.2.1.mem_iff.1 (by rw [hr1]; simp at hx ⊢; rcases hx with h | h <;> simp [h]))
                have hP : Parts ns e1 r1 := ⟨hs1, hb1.short hl2, ha1, fun x hx => hmem x (by simp [hx]), fun x hx => hmem x (by simp [hx])⟩
                have HC := sym_any (2 * k) B g n cap bx I ns wr a (a + k) n D e1 r1 [] (by omega) (by have h := HM5.out; rw [hr1] at h; simpa using h) hP HF.out.1.symm (by have := HF.out.1; omega) (by have := HF.out; rw [hr1] at this; simp at this; omega) (by omega) (by have := HF.out.2.1; rw [hr1] at this; simp at this; omega)
                have HE : Hid (r = e1 ++ r1 ∧ e1.length = k ∧ r1.length ≤ k) := ⟨hr1, hl1, hl2⟩
                clear hr1 hl1 hl2 ha1 hb1 hmem hP hs1
                go_wp2_with fail
                refine HC.mono ?_
                rintro e w3 ⟨⟨v, rfl⟩, C, p1, s1, hm1, hk1⟩
                have HC1 : Hid (C.Perm (e1 ++ r1) ∧ Sorted ns C) := ⟨p1, s1⟩
                have HM6 : Hid (Mem w3 B g n cap bx I ns (D ++ C)) := hid (by simpa using hm1)
                have HK6 : Hid (Kept (· = g) w w3) := HK5.out.trans hk1 (fun _ _ h => h) (fun _ _ h => h)
                clear p1 s1 hm1 hk1 HC
                go_wp2_with fail
                go_roundg (gk0 - 1)
                case measure => have := HG.out; omega
                case rel =>
                  refine ⟨2 * k, D ++ C, by omega, by omega, by omega, by congr 1 <;> omega, ?_, HM6.out, HK6.out⟩
                  refine hid (HF.out.2.2.2.finish (by rw [HE.out.1]; exact HC1.out.1) (.last C ?_ HC1.out.2))
                  have := HC1.out.1.length_eq; have := HE.out; simp at *; omega
              · have hc2 : ¬ ((a + k : Nat) : Int) < (n : Int) := by omega
                go_wp2_with fail
                go_roundg (gk0 - 1)
                case measure => have := HG.out; omega
                case rel =>
                  refine ⟨2 * k, D ++ r, by omega, by omega, by omega, by congr 1 <;> omega, ?_, HM5.out, HK5.out⟩
                  exact hid (HF.out.2.2.2.finish (List.Perm.refl _) (.last r (by have := HF.out.2.1; omega) (HF.out.2.2.1.short (by have := HF.out.2.1; omega))))
        · go_wp2_with fail
          go_end0
          exact ⟨⟨_, rfl⟩, d2, HB2.out.1, HB2.out.2.short (by have := HB2.out.1.length_eq; have := HN.out; omega), HM4.out, HK4.out⟩

end Go.Proofs.YtofhlnpbflkdlaaDoor

/-
  rising: the symbols whose numbers are not 0, by rising numbers.
-/
namespace Go.Proofs.YtofhlnpbflkdlaaDoor
open Go.RowKit

/-- Nothing of what was there has turned. -/
abbrev Same (w w' : World) : Prop := Kept (fun _ => False) w w'

theorem Same.of {F : Nat → Prop} {w w' : World} (h : Kept F w w') (hF : ∀ k, k < w.heap.size → ¬ F k) : Same w w' := h.mono (fun k hk f => hF k hk f)

theorem Same.trans {a b c : World} (h : Same a b) (k : Same b c) : Same a c := Kept.trans h k (fun _ _ h => h) (fun _ _ h => h)

/-- What is written in new memory alone. -/
theorem Same.then {a b c : World} {F : Nat → Prop} (h : Same a b) (k : Kept F b c) (hF : ∀ x, x < a.heap.size → ¬ F x) : Same a c := Kept.trans h k (fun _ _ h => h) (fun x hx f => hF x hx f)

theorem SrcE.same {α : Type} {enc : α → Value} {w w' : World} {I : Nat → Prop} {v : Value} {xs : List α} (h : SrcE enc w I v xs) (hk : Same w w') : SrcE enc w' I v xs := h.kept hk (fun _ _ _ f => f)

theorem RowE.same {α : Type} {enc : α → Value} {B t : Nat} {w w' : World} {v : Value} {xs : List α} (h : RowE B t enc w v xs) (hk : Same w w') : RowE B t enc w' v xs := h.kept hk (fun _ _ f => f)

set_option maxHeartbeats 1000000 in
theorem stable_none (w : World) (ao : Option Addr) (cap : Nat) (cv : Value) :
    Calls Tryd.prog 94 #[.slice ao 0 cap, .int .i64 0, cv] w fun e w' => (∃ v, e = .returned v) ∧ w' = w := by
  have HI : Calls Tryd.prog 98 #[.slice ao 0 cap, .int .i64 0, .int .i64 0, cv] w fun e w' => (∃ v, e = .returned v) ∧ w' = w := by
    go_enter Tryd.func98, Tryd.ntmps98
    go_wp2_with fail
    go_loopg [8] 1 (fun _ z wr => z = .int .i64 1 ∧ wr = w)
    case atStart => exact ⟨rfl, rfl⟩
    case round =>
      obtain ⟨rfl, rfl⟩ := hrel
      go_wp2_with fail
      go_end0
      exact ⟨⟨_, rfl⟩, rfl⟩
  go_enter Tryd.func94, Tryd.ntmps94
  go_wp2_with fail
  go_loopg [7, 8] 1 (fun _ z y wr => z = .int .i64 0 ∧ y = .int .i64 20 ∧ wr = w)
  case atStart => exact ⟨rfl, rfl, rfl⟩
  case round =>
    obtain ⟨rfl, rfl, rfl⟩ := hrel
    go_wp2_with fail
    refine HI.mono ?_
    rintro e w2 ⟨⟨v, rfl⟩, rfl⟩
    go_wp2_with fail
    go_loopg [6] 1 (fun _ z wx => z = .int .i64 20 ∧ wx = w2)
    case atStart => exact ⟨rfl, rfl⟩
    case round =>
      obtain ⟨rfl, rfl⟩ := hrel
      go_wp2_with fail
      go_end0
      exact ⟨⟨_, rfl⟩, rfl⟩

set_option maxHeartbeats 1000000 in
theorem sort_none (w : World) (ao : Option Addr) (cap : Nat) (cv : Value) :
    Calls Tryd.prog 86 #[.slice ao 0 cap, cv] w fun e w' => (∃ v, e = .returned v) ∧ w' = w := by
  have H := stable_none w ao cap cv
  go_enter Tryd.func86, Tryd.ntmps86
  go_wp2_with fail
  refine H.mono ?_
  rintro e w2 ⟨⟨v, rfl⟩, rfl⟩
  go_wp2_with fail
  go_end0
  exact ⟨⟨_, rfl⟩, rfl⟩

set_option maxHeartbeats 1000000 in
theorem sort_any (w : World) (B g n cap bx : Nat) (I : Nat → Prop) (ns d : List Nat) (hM : Mem w B g n cap bx I ns d) (hd : d.Pairwise (· < ·)) (hm : ∀ x ∈ d, x < ns.length) :
    Calls Tryd.prog 86 #[.slice (some ⟨g, 0, none⟩) n cap, cmpV bx] w fun e w' => (∃ v, e = .returned v) ∧ ∃ d', d'.Perm d ∧ Sorted ns d' ∧ Mem w' B g n cap bx I ns d' ∧ Kept (· = g) w w' := by
  have H := stable_any w B g n cap bx I ns d hM hd hm
  clear hM hd hm
  go_enter Tryd.func86, Tryd.ntmps86
  go_wp2_with fail
  refine H.mono ?_
  rintro e w2 ⟨⟨v, rfl⟩, h⟩
  have HH : Hid (∃ d', d'.Perm d ∧ Sorted ns d' ∧ Mem w2 B g n cap bx I ns d' ∧ Kept (· = g) w w2) := h
  clear h H
  go_wp2_with fail
  go_end0
  exact ⟨⟨_, rfl⟩, HH.out⟩

/-- The used ones among the first i. -/
def usedTo (ns : List Nat) (i : Nat) : List Nat := (List.range i).filter (fun s => key ns s != 0)

theorem usedTo_succ (ns : List Nat) (i : Nat) : usedTo ns (i + 1) = usedTo ns i ++ (if key ns i = 0 then [] else [i]) := by
  unfold usedTo
  rw [List.range_succ, List.filter_append]
  congr 1
  by_cases h : key ns i = 0 <;> simp [h]

theorem usedTo_length (ns : List Nat) (i : Nat) : (usedTo ns i).length ≤ i := by
  have := List.length_filter_le (fun s => key ns s != 0) (List.range i)
  simpa [usedTo] using this

/-- A row of ints in new memory. -/
structure New (w w' : World) (v : Value) (xs : List Nat) : Prop where
  row : NRow w.heap.size w' v xs
  same : Same w w'

set_option maxHeartbeats 2000000 in
theorem rising_any (w : World) (v : Value) (I : Nat → Prop) (ns : List Nat) (hs : SrcE natV w I v ns) (hn : ns.length ≤ 1000000) :
    Calls Tryd.prog 75 #[v] w fun e w' => ∃ v', e = .returned v' ∧ New w w' v' (ris ns) := by
  obtain ⟨ao, cap, rfl, _, _⟩ := id hs
  have hs0 := hs.low
  have HS : Hid (SrcE natV w (fun k => I k ∧ k < w.heap.size) (.slice ao ns.length cap) ns) := hs0
  clear hs hs0
  go_enter Tryd.func75, Tryd.ntmps75
  go_wp2_with fail
  go_loopg [3, 8] ns.length (fun q zo zi wr => ∃ (i : Nat), ns.length - i ≤ q ∧ i ≤ ns.length ∧ zi = .int .i64 (i : Nat) ∧ Hid (NRow (w.heap.size + 1) wr zo (usedTo ns i)) ∧ Hid (Kept (fun _ => False) (w.alloc (.cells #[.slice ao ns.length cap] 22)) wr))
  case atStart => exact ⟨0, by omega, by omega, rfl, RowE.nil, Kept.refl _ _⟩
  case round =>
    obtain ⟨i, hq, hin, rfl, HR, HK⟩ := hrel
    have HK0 : Hid (Same w wr) := hid (Same.trans ((Kept.refl _ w).alloc _) HK.out)
    have hsz : w.heap.size + 1 ≤ wr.heap.size := by have := HK.out.size; simpa using this
    by_cases hlt : i < ns.length
    · obtain ⟨b, o, cap2, e, _, _, hc⟩ := (HS.out.same HK0.out).get i hlt
      simp only [Value.slice.injEq] at e
      obtain ⟨rfl, _, rfl⟩ := e
      rw [← key_get hlt] at hc
      unfold natV at hc
      by_cases h0 : key ns i = 0
      · rw [h0] at hc
        have HE : Hid (usedTo ns (i + 1) = usedTo ns i) := hid (by rw [usedTo_succ, if_pos h0, List.append_nil])
        clear h0
        go_wp2_with fail
        go_roundg (gk - 1)
        case measure => omega
        case rel => exact ⟨i + 1, by omega, by omega, by go_num, hid (by rw [HE.out]; exact HR.out), HK⟩
      · obtain ⟨z, hz⟩ : ∃ z, z = key ns i := ⟨_, rfl⟩
        rw [← hz] at hc h0
        have hd : ((z : Int) != 0) = true := by simp; omega
        have HE : Hid (usedTo ns (i + 1) = usedTo ns i ++ [i]) := hid (by rw [usedTo_succ, if_neg (by omega)])
        have HL : Hid ((usedTo ns i).length + [i].length ≤ 1000000000) := hid (by have := usedTo_length ns i; simp; omega)
        clear hz
        go_wp2_with (at_builtin; refine wpList_append_e _ natV natV_one (w.heap.size + 1) 22 3 (natV 0) 8 Tryd.underlying22 Tryd.infoN rfl (by decide) rfl (.tmp 15) (.tmp 17) rfl u3 (usedTo ns i) rfl (World.ownsRow.alloc HR.out _) ⟨wr.heap.size, 0, none⟩ 1 1 [i] rfl rfl (cellsAt_new _ _ _) HL.out (by simp; omega) ?_; intro v' w1 hrow hgr)
        have HR1 : Hid (NRow (w.heap.size + 1) w1 v' (usedTo ns i ++ [i])) := hrow
        have HK1 : Hid (Kept (fun _ => False) (w.alloc (.cells #[.slice (some ⟨b, o, none⟩) ns.length cap] 22)) w1) := hid ((HK.out.alloc _).grown hgr (fun k e => .inr (by have := HR.out.ge e; simpa using this)))
        clear hrow hgr
        go_wp2_with fail
        go_roundg (gk - 1)
        case measure => omega
        case rel => exact ⟨i + 1, by omega, by omega, by go_num, hid (by rw [HE.out]; exact HR1.out), HK1⟩
    · have hi : i = ns.length := by omega
      subst hi
      have hbox : wr.cell? ⟨w.heap.size, 0, none⟩ = some (.slice ao ns.length cap) := HK.out.cell (by simp) (fun h => h)
      have hu : usedTo ns ns.length = usedL ns := rfl
      have HR1 : Hid (NRow (w.heap.size + 1) wr u3 (usedL ns)) := HR
      clear HR hu
      by_cases hnil : usedL ns = []
      · obtain ⟨ao2, cap2, rfl, _⟩ := HR1.out.shape
        have h0 : (usedL ns).length = 0 := by rw [hnil]; rfl
        have HR2 := HR1
        rw [h0] at HR2 ⊢
        have HC := sort_none wr ao2 cap2 (cmpV w.heap.size)
        have HNIL : Hid (usedL ns = []) := hnil
        clear h0 hnil hlt hbox
        go_wp2_with fail
        refine HC.mono ?_
        rintro e w2 ⟨⟨vv, rfl⟩, rfl⟩
        go_wp2_with fail
        go_ret
        have e0 : ris ns = usedL ns := List.Perm.eq_nil (by have := ris_perm ns; rw [HNIL.out] at this; exact this) |>.trans HNIL.out.symm
        exact ⟨_, rfl, by rw [e0]; exact RowE.base HR2.out (by omega), HK0.out⟩
      · obtain ⟨g, cap2, rfl, hg1, hg2, _⟩ := HR1.out.some hnil
        have HM : Mem wr (w.heap.size + 1) g (usedL ns).length cap2 w.heap.size (fun k => I k ∧ k < w.heap.size) ns (usedL ns) :=
          ⟨HR1.out, ⟨_, hbox, HS.out.same HK0.out⟩, by omega, fun k hk => by omega, by have := usedL_length ns; omega, hn⟩
        have HC := sort_any wr _ _ _ _ _ _ _ _ HM (usedL_lt ns) (fun x hx => (mem_usedL.1 hx).1)
        clear HM hnil hlt hbox
        generalize (usedL ns).length = un at *
        go_wp2_with fail
        refine HC.mono ?_
        rintro e w2 ⟨⟨vv, rfl⟩, d', p1, s1, hm1, hk1⟩
        have HN : Hid (New w w2 (.slice (some ⟨g, 0, none⟩) un cap2) (ris ns)) := hid (by
          refine ⟨?_, HK0.out.then hk1 (fun x hx e => by omega)⟩
          rw [← ris_eq s1 p1]
          exact RowE.base hm1.row (by omega))
        clear p1 s1 hm1 hk1 HC
        go_wp2_with fail
        go_ret
        exact ⟨_, rfl, HN.out⟩

end Go.Proofs.YtofhlnpbflkdlaaDoor

/-
  Slices of integers that came in, as the walks want them.
-/
namespace Go.Proofs.YtofhlnpbflkdlaaDoor
open Go.ChangeShapes Go.WideShapes Go.ChangeAt Go.RowKit

/-- A slice of integers that came in: nil, or a row of 'cap' cells. -/
def IsRow (k : IntKind) (w : World) (a : Option Addr) (len cap : Nat) (zs : List Int) : Prop :=
  (a = none ∧ len = 0 ∧ cap = 0 ∧ zs = []) ∨
  ∃ x, a = some x ∧ len ≤ cap ∧ cap ≤ maxLen ∧ zs.length = cap ∧ (∀ i, i < zs.length → w.cell? (x.add i) = some (.int k (zs.getD i 0))) ∧ ∀ n ∈ zs, (Lit.int k n).wf = true

theorem spot_none {w : World} {x : Addr} {v : Value} (h : w.cell? (x.add 0) = some v) : x = ⟨x.block, x.off, none⟩ := by
  have e : x.add 0 = x := by unfold Addr.add; simp
  rw [e] at h
  cases hx : x.spot with
  | none => cases x; simp_all
  | some n =>
    exfalso
    simp only [World.cell?] at h
    split at h
    · rw [if_pos (by simp [hx])] at h; cases h
    · cases h

theorem IsRow.len_le {k : IntKind} {w : World} {a : Option Addr} {len cap : Nat} {zs : List Int} (h : IsRow k w a len cap zs) : len ≤ zs.length := by
  rcases h with ⟨_, rfl, _, rfl⟩ | ⟨x, _, h1, _, h2, _⟩
  · simp
  · omega

theorem IsRow.max {k : IntKind} {w : World} {a : Option Addr} {len cap : Nat} {zs : List Int} (h : IsRow k w a len cap zs) : len ≤ maxLen := by
  rcases h with ⟨_, rfl, _, rfl⟩ | ⟨x, _, h1, h3, h2, _⟩
  · exact Nat.zero_le _
  · omega

/-- Its cells, one by one. -/
theorem IsRow.at {k : IntKind} {w : World} {a : Option Addr} {len cap : Nat} {zs : List Int} (h : IsRow k w a len cap zs) (j : Nat) (hj : j < len) : ∃ b o, a = some ⟨b, o, none⟩ ∧ w.cell? ⟨b, o + j, none⟩ = some (.int k (zs.getD j 0)) := by
  have hl := h.len_le
  rcases h with ⟨_, rfl, _, rfl⟩ | ⟨x, rfl, h1, h3, h2, h4, _⟩
  · omega
  · have hc := h4 j (by omega)
    have hx := spot_none (h4 0 (by omega))
    refine ⟨x.block, x.off, by rw [← hx], ?_⟩
    rw [hx, addAt] at hc
    exact hc

theorem IsRow.src {w : World} {a : Option Addr} {len cap : Nat} {zs : List Int} (h : IsRow .u8 w a len cap zs) : ∃ bs, Src w (fun k => k < w.heap.size) (.slice a len cap) bs ∧ bs.length = len ∧ ∀ b ∈ bs, b < 256 := by
  have hl := h.len_le
  have hwf : ∀ n ∈ zs, 0 ≤ n ∧ n < 256 := by
    intro n hn
    rcases h with ⟨_, rfl, _, rfl⟩ | ⟨x, rfl, h1, h3, h2, h4, h5⟩
    · cases hn
    · have := bounds_u8 (h5 n hn); omega
  refine ⟨(zs.take len).map Int.toNat, ⟨a, cap, by simp; omega, fun hne => ?_⟩, by simp; omega, ?_⟩
  · have hlen : 0 < len := by
      rcases Nat.eq_zero_or_pos len with e | e
      · subst e; simp at hne
      · exact e
    obtain ⟨b, o, rfl, hc⟩ := h.at 0 hlen
    refine ⟨b, o, rfl, World.block_lt_of_cell? w _ hc, fun j hj => ?_⟩
    have hj' : j < len := by simp at hj; omega
    obtain ⟨b', o', e, hc'⟩ := h.at j hj'
    simp only [Option.some.injEq, Addr.mk.injEq, and_true] at e
    obtain ⟨rfl, rfl⟩ := e
    rw [hc']
    have hz : j < zs.length := by omega
    have hb := hwf _ (List.getElem_mem hz)
    simp only [List.getElem_map, List.getElem_take]
    simp only [List.getD_eq_getElem?_getD, List.getElem?_eq_getElem hz, Option.getD_some]
    congr 2
    omega
  · intro b hb
    obtain ⟨n, hn, rfl⟩ := List.mem_map.1 hb
    have := hwf n (List.mem_of_mem_take hn)
    omega

end Go.Proofs.YtofhlnpbflkdlaaDoor

/-
  Slices of ints that came in.
-/
namespace Go.Proofs.YtofhlnpbflkdlaaDoor
open Go.RowKit

theorem Same.bel {w w' : World} (h : Same w w') : Below w.heap.size w w' := Kept.below h (Nat.le_refl _) (fun _ _ e => e)

theorem IsRow.ints {w : World} {a : Option Addr} {len cap : Nat} {zs : List Int} (h : IsRow .i64 w a len cap zs) : SrcE intV w (fun k => k < w.heap.size) (.slice a len cap) (zs.take len) ∧ (zs.take len).length = len := by
  have hl := h.len_le
  have hlen : (zs.take len).length = len := by simp; omega
  refine ⟨⟨a, cap, by rw [hlen], ?_, fun hne => ?_⟩, hlen⟩
  · rw [hlen]
    rcases h with ⟨_, rfl, _, _⟩ | ⟨x, _, h1, _⟩
    · exact Nat.zero_le _
    · exact h1
  · have hpos : 0 < len := by
      rcases Nat.eq_zero_or_pos len with e | e
      · subst e; simp at hne
      · exact e
    obtain ⟨b, o, rfl, hc⟩ := h.at 0 hpos
    refine ⟨b, o, rfl, World.block_lt_of_cell? w _ hc, fun j hj => ?_⟩
    obtain ⟨b', o', e, hc'⟩ := h.at j (by omega)
    simp only [Option.some.injEq, Addr.mk.injEq, and_true] at e
    obtain ⟨rfl, rfl⟩ := e
    rw [hc']
    have hz : j < zs.length := by omega
    simp [intV, List.getD, hz]

end Go.Proofs.YtofhlnpbflkdlaaDoor

/-
  all and Check: lists of lengths that may be.
-/
namespace Go.Proofs.YtofhlnpbflkdlaaDoor
open Go.RowKit

/-- Whether an int lies outside. -/
def badI (lo hi z : Int) : Bool := decide (z < lo) || decide (hi < z)

set_option maxHeartbeats 1000000 in
theorem wrong_any (w : World) (p q : Nat) (lo hi z : Int) (hp : w.cell? ⟨p, 0, none⟩ = some (.int .i64 lo)) (hq : w.cell? ⟨q, 0, none⟩ = some (.int .i64 hi)) :
    Calls Tryd.prog 85 #[.int .i64 z, .pointer (some ⟨p, 0, none⟩), .pointer (some ⟨q, 0, none⟩)] w fun e w' => e = .returned (.bool (badI lo hi z)) ∧ ∃ m, w' = w.drewN m := by
  go_enter Tryd.func85, Tryd.ntmps85
  by_cases h : z < lo
  · go_wp2_with fail
    go_ret
    exact ⟨by simp [badI, h], 0, rfl⟩
  · go_wp2_with fail
    go_ret
    have h' : decide (z < lo) = false := by simp; omega
    exact ⟨by simp only [badI, h', Bool.false_or]; rfl, 0, rfl⟩

abbrev wrongV (p q : Nat) : Value := .func (.func 85) #[] #[.pointer (some ⟨p, 0, none⟩), .pointer (some ⟨q, 0, none⟩)]

set_option maxHeartbeats 1000000 in
theorem index_any (w : World) (v : Value) (I : Nat → Prop) (zs : List Int) (p q : Nat) (lo hi : Int) (hs : SrcE intV w I v zs) (hn : zs.length ≤ 1000000) (hp : w.cell? ⟨p, 0, none⟩ = some (.int .i64 lo)) (hq : w.cell? ⟨q, 0, none⟩ = some (.int .i64 hi)) :
    Calls Tryd.prog 55 #[v, wrongV p q] w fun e w' => (∃ z : Int, e = .returned (.int .i64 z) ∧ decide (0 ≤ z) = zs.any (badI lo hi)) ∧ Same w w' := by
  obtain ⟨ao, cap, rfl, _, _⟩ := id hs
  have HS : Hid (SrcE intV w I (.slice ao zs.length cap) zs) := hs
  clear hs
  go_enter Tryd.func55, Tryd.ntmps55
  go_wp2_with fail
  go_loopg [8] zs.length (fun k z wr => ∃ i : Nat, zs.length - i ≤ k ∧ i ≤ zs.length ∧ z = .int .i64 (i : Nat) ∧ Hid ((zs.take i).any (badI lo hi) = false) ∧ Hid (Same w wr))
  case atStart => exact ⟨0, by omega, by omega, rfl, hid (by simp), Kept.refl _ _⟩
  case round =>
    obtain ⟨i, hk, hil, rfl, HF, HK⟩ := hrel
    by_cases hlt : i < zs.length
    · obtain ⟨b, o, cap2, e, _, _, hc⟩ := (HS.out.same HK.out).get i hlt
      simp only [Value.slice.injEq] at e
      obtain ⟨rfl, _, rfl⟩ := e
      obtain ⟨x, hx⟩ : ∃ x, x = zs[i] := ⟨_, rfl⟩
      rw [← hx] at hc
      unfold intV at hc
      have HX : Hid (x = zs[i]) := hx
      have HC := wrong_any wr p q lo hi x (HK.out.cell hp (fun h => h)) (HK.out.cell hq (fun h => h))
      clear hx
      cases hb : badI lo hi x with
      | true =>
        rw [hb] at HC
        have HB : Hid (badI lo hi x = true) := hb
        clear hb
        go_wp2_with fail
        refine HC.mono ?_
        rintro e w2 ⟨rfl, m, rfl⟩
        go_wp2_with fail
        go_ret
        refine ⟨⟨_, rfl, ?_⟩, HK.out.drewN _⟩
        have h1 : zs.any (badI lo hi) = true := List.any_eq_true.2 ⟨x, by rw [HX.out]; exact List.getElem_mem _, HB.out⟩
        rw [h1]; simp
      | false =>
        rw [hb] at HC
        have HB : Hid (badI lo hi x = false) := hb
        clear hb
        go_wp2_with fail
        refine HC.mono ?_
        rintro e w2 ⟨rfl, m, rfl⟩
        go_wp2_with fail
        go_roundg (gk - 1)
        case measure => omega
        case rel =>
          refine ⟨i + 1, by omega, by omega, by go_num, hid ?_, HK.out.drewN _⟩
          rw [List.take_succ_eq_append_getElem hlt, List.any_append, HF.out, ← HX.out]
          simp [HB.out]
    · have : i = zs.length := by omega
      subst this
      go_wp2_with fail
      go_ret
      refine ⟨⟨_, rfl, ?_⟩, HK.out⟩
      have h := HF.out
      rw [List.take_of_length_le (Nat.le_refl _)] at h
      rw [h]; simp

set_option maxHeartbeats 1000000 in
theorem contains_any (w : World) (v : Value) (I : Nat → Prop) (zs : List Int) (p q : Nat) (lo hi : Int) (hs : SrcE intV w I v zs) (hn : zs.length ≤ 1000000) (hp : w.cell? ⟨p, 0, none⟩ = some (.int .i64 lo)) (hq : w.cell? ⟨q, 0, none⟩ = some (.int .i64 hi)) :
    Calls Tryd.prog 34 #[v, wrongV p q] w fun e w' => e = .returned (.bool (zs.any (badI lo hi))) ∧ Same w w' := by
  have H := index_any w v I zs p q lo hi hs hn hp hq
  clear hs hp hq
  go_enter Tryd.func34, Tryd.ntmps34
  go_wp2_with fail
  refine H.mono ?_
  rintro e w2 ⟨⟨z, rfl, hz⟩, hk⟩
  have HZ : Hid (decide (0 ≤ z) = zs.any (badI lo hi)) := hz
  have HK : Hid (Same w w2) := hk
  clear hz hk H
  go_wp2_with fail
  go_ret
  refine ⟨?_, HK.out⟩
  rw [← HZ.out]; rfl

/-- As many numbers as symbols may be, each from lo to hi. -/
def okAll (zs : List Int) (lo hi : Int) : Bool := decide (0 < zs.length) && decide (zs.length ≤ 288) && !(zs.any (badI lo hi))

set_option maxHeartbeats 1000000 in
theorem all_any (w : World) (v : Value) (I : Nat → Prop) (zs : List Int) (lo hi : Int) (hs : SrcE intV w I v zs) (hn : zs.length ≤ 1000000) :
    Calls Tryd.prog 74 #[v, .int .i64 lo, .int .i64 hi] w fun e w' => e = .returned (.bool (okAll zs lo hi)) ∧ Same w w' := by
  obtain ⟨ao, cap, rfl, _, _⟩ := id hs
  have hk0 : Same w ((w.alloc (.cells #[.int .i64 lo] 3)).alloc (.cells #[.int .i64 hi] 3)) := ((Kept.refl _ w).alloc _).alloc _
  have HC := contains_any ((w.alloc (.cells #[.int .i64 lo] 3)).alloc (.cells #[.int .i64 hi] 3)) _ I zs w.heap.size (w.heap.size + 1) lo hi (hs.same hk0) hn (by simp) (by
    have := World.size_alloc w (.cells #[.int .i64 lo] 3)
    rw [← this]; simp)
  have HK0 : Hid (Same w ((w.alloc (.cells #[.int .i64 lo] 3)).alloc (.cells #[.int .i64 hi] 3))) := hk0
  clear hs hk0
  go_enter Tryd.func74, Tryd.ntmps74
  by_cases h0 : 0 < zs.length
  · by_cases h1 : zs.length ≤ 288
    · have h0' : decide (0 < zs.length) = true := by simp [h0]
      have h1' : decide (zs.length ≤ 288) = true := by simp [h1]
      go_wp2_with fail
      refine HC.mono ?_
      rintro e w2 ⟨rfl, hk⟩
      have HK : Hid (Same w w2) := hid (HK0.out.trans hk)
      clear hk HC
      go_wp2_with fail
      go_ret
      exact ⟨by simp [okAll, h0, h1], HK.out⟩
    · go_wp2_with fail
      go_ret
      exact ⟨by simp [okAll, h1], HK0.out⟩
  · go_wp2_with fail
    go_ret
    exact ⟨by simp [okAll, h0], HK0.out⟩

/-- A length's part of the measure. -/
def unit (n : Nat) : Nat := if n = 0 then 0 else 2 ^ (15 - n)
def measure (ns : List Nat) : Nat := (ns.map unit).sum
def usedN (ns : List Nat) : Nat := ns.countP (fun n => n != 0)

/-- Check's answer at lengths from 0 to 15. -/
def chkN (ns : List Nat) : Nat := if 32768 < measure ns then 30 else if measure ns = 32768 then 0 else if usedN ns = 1 ∧ measure ns = 16384 then 0 else 31

/-- Check's answer. -/
def chk (zs : List Int) : Nat := if okAll zs 0 15 = true then chkN (zs.map Int.toNat) else 1

theorem okAll_nat {zs : List Int} {hi : Int} (h : okAll zs 0 hi = true) : ((zs.map Int.toNat).map natV = zs.map intV) ∧ 0 < zs.length ∧ zs.length ≤ 288 ∧ ∀ n ∈ zs.map Int.toNat, (n : Int) ≤ hi := by
  simp only [okAll, Bool.and_eq_true, decide_eq_true_eq, Bool.not_eq_true', List.any_eq_false] at h
  obtain ⟨⟨h1, h2⟩, h3⟩ := h
  have h4 : ∀ z ∈ zs, 0 ≤ z ∧ z ≤ hi := fun z hz => by have := h3 z hz; simp [badI] at this; omega
  refine ⟨?_, h1, h2, ?_⟩
  · rw [List.map_map]
    refine List.map_congr_left (fun z hz => ?_)
    simp only [Function.comp, natV, intV]
    rw [Int.toNat_of_nonneg (h4 z hz).1]
  · intro n hn
    obtain ⟨z, hz, rfl⟩ := List.mem_map.1 hn
    have := h4 z hz
    omega

theorem measure_snoc (ns : List Nat) (n : Nat) : measure (ns ++ [n]) = measure ns + unit n := by simp [measure]
theorem usedN_snoc (ns : List Nat) (n : Nat) : usedN (ns ++ [n]) = usedN ns + (if n = 0 then 0 else 1) := by
  by_cases h : n = 0 <;> simp [usedN, h]
theorem unit_le (n : Nat) : unit n ≤ 16384 := by
  unfold unit
  split
  · omega
  · exact Nat.le_trans (Nat.pow_le_pow_right (by omega) (show 15 - n ≤ 14 by omega)) (by decide)
theorem measure_le (ns : List Nat) : measure ns ≤ 16384 * ns.length := by
  induction ns with
  | nil => simp [measure]
  | cons a r ih => have := unit_le a; simp [measure] at *; omega
theorem usedN_le (ns : List Nat) : usedN ns ≤ ns.length := List.countP_le_length

theorem unit_shift {n : Nat} (h0 : n ≠ 0) (h : n ≤ 15) : unit n = 32768 / 2 ^ n := by
  unfold unit
  rw [if_neg h0, show (32768 : Nat) = 2 ^ 15 by rfl, Nat.pow_div h (by omega)]

set_option maxRecDepth 100000 in
set_option maxHeartbeats 2000000 in
theorem check_any (w : World) (v : Value) (I : Nat → Prop) (zs : List Int) (hs : SrcE intV w I v zs) (hn : zs.length ≤ 1000000) :
    Calls Tryd.prog 78 #[v] w fun e w' => e = .returned (.int .i64 (chk zs : Nat)) ∧ Same w w' := by
  obtain ⟨ao, cap, rfl, _, _⟩ := id hs
  have HC := all_any w _ I zs 0 15 hs hn
  have HS : Hid (SrcE intV w I (.slice ao zs.length cap) zs) := hs
  clear hs
  go_enter Tryd.func78, Tryd.ntmps78
  go_wp2_with fail
  refine HC.mono ?_
  rintro e w2 ⟨rfl, hk⟩
  have HK : Hid (Same w w2) := hk
  clear hk HC
  cases hok : okAll zs 0 15 with
  | false =>
    go_wp2_with fail
    go_ret
    exact ⟨by simp [chk, hok], HK.out⟩
  | true =>
    obtain ⟨e1, h0, h288, h15⟩ := okAll_nat hok
    have HCH : Hid (chk zs = chkN (zs.map Int.toNat)) := hid (by simp [chk, hok])
    have hl : (zs.map Int.toNat).length = zs.length := by simp
    have HS2 : Hid (SrcE natV w I (.slice ao zs.length cap) (zs.map Int.toNat)) := hid (SrcE.recode HS.out e1)
    generalize zs.map Int.toNat = ns at *
    rw [← hl] at HS2 h288 h0 ⊢
    clear hl hok e1 HS hn
    have H15 : Hid (∀ n ∈ ns, (n : Int) ≤ 15) := h15
    clear h15
    go_wp2_with fail
    go_loopg [3, 4, 13] ns.length (fun q zm zu zi wr => ∃ (i m u : Nat), ns.length - i ≤ q ∧ i ≤ ns.length ∧ m ≤ 16384 * 288 ∧ u ≤ 288 ∧ zi = .int .i64 (i : Nat) ∧ zm = .int .i64 (m : Nat) ∧ zu = .int .i64 (u : Nat) ∧ wr = w2 ∧ Hid (m = measure (ns.take i) ∧ u = usedN (ns.take i)))
    case atStart => exact ⟨0, 0, 0, by omega, by omega, by omega, by omega, rfl, rfl, rfl, rfl, ⟨rfl, rfl⟩⟩
    case round =>
      obtain ⟨i, m, u, hq, hi, hm, hu, rfl, rfl, rfl, rfl, HF⟩ := hrel
      by_cases hlt : i < ns.length
      · obtain ⟨b, o, cap2, e, _, _, hc⟩ := (HS2.out.same HK.out).get i hlt
        simp only [Value.slice.injEq] at e
        obtain ⟨rfl, _, rfl⟩ := e
        obtain ⟨x, hx⟩ : ∃ x, x = ns[i] := ⟨_, rfl⟩
        rw [← hx] at hc
        unfold natV at hc
        have hx15 : x ≤ 15 := by have := H15.out x (by rw [hx]; exact List.getElem_mem _); omega
        have hm2 : measure (ns.take (i + 1)) = measure (ns.take i) + unit x := by rw [List.take_succ_eq_append_getElem hlt, measure_snoc, hx]
        have hu2 : usedN (ns.take (i + 1)) = usedN (ns.take i) + (if x = 0 then 0 else 1) := by rw [List.take_succ_eq_append_getElem hlt, usedN_snoc, hx]
        have hb1 : measure (ns.take (i + 1)) ≤ 16384 * 288 := Nat.le_trans (measure_le _) (Nat.mul_le_mul_left _ (by simp; omega))
        have hb2 : usedN (ns.take (i + 1)) ≤ 288 := Nat.le_trans (usedN_le _) (by simp; omega)
        clear hx
        by_cases hx0 : x = 0
        · rw [if_pos hx0] at hu2
          have hun : unit x = 0 := by simp [unit, hx0]
          rw [hun] at hm2
          have HF2 : Hid (measure (ns.take (i + 1)) = measure (ns.take i) ∧ usedN (ns.take (i + 1)) = usedN (ns.take i)) := ⟨hm2, hu2⟩
          clear hm2 hu2 hun hb1 hb2
          rw [hx0] at hc
          go_wp2_with fail
          go_roundg (gk - 1)
          case measure => omega
          case rel => exact ⟨i + 1, m, u, by omega, by omega, hm, hu, by go_num, rfl, rfl, rfl, hid (by rw [HF2.out.1, HF2.out.2]; exact HF.out)⟩
        · rw [if_neg hx0] at hu2
          have hpos : 0 < x := by omega
          have hsh : ((32768 : Int) / 2 ^ x) = ((unit x : Nat) : Int) := by rw [unit_shift hx0 hx15]; simp
          have HF2 : Hid (measure (ns.take (i + 1)) = m + unit x ∧ usedN (ns.take (i + 1)) = u + 1) := hid ⟨by rw [hm2, HF.out.1], by rw [hu2, HF.out.2]⟩
          have hb3 : m + unit x ≤ 16384 * 288 := by rw [← HF2.out.1]; exact hb1
          have hb4 : u + 1 ≤ 288 := by rw [← HF2.out.2]; exact hb2
          clear hm2 hu2 hb1 hb2 hx0
          generalize unit x = ux at *
          go_wp2_with fail
          go_roundg (gk - 1)
          case measure => omega
          case rel => exact ⟨i + 1, m + ux, u + 1, by omega, by omega, hb3, hb4, by go_num, by go_num, by go_num, rfl, hid ⟨HF2.out.1.symm, HF2.out.2.symm⟩⟩
      · have : i = ns.length := by omega
        subst this
        have hmm : m = measure ns := by have := HF.out.1; rw [List.take_of_length_le (Nat.le_refl _)] at this; exact this
        have huu : u = usedN ns := by have := HF.out.2; rw [List.take_of_length_le (Nat.le_refl _)] at this; exact this
        have HU : Hid (m = measure ns ∧ u = usedN ns) := ⟨hmm, huu⟩
        clear hmm huu HF
        by_cases hover : 32768 < m
        · by_cases hu1 : u = 1
          · go_wp2_with fail
            go_ret
            refine ⟨?_, HK.out⟩
            rw [HCH.out, chkN, ← HU.out.1, if_pos hover]; rfl
          · have hd : ((u : Int) == 1) = false := by simp; omega
            go_wp2_with fail
            go_ret
            refine ⟨?_, HK.out⟩
            rw [HCH.out, chkN, ← HU.out.1, if_pos hover]; rfl
        · by_cases hun : m < 32768
          · by_cases hu1 : u = 1
            · by_cases hh : m = 16384
              · go_wp2_with fail
                go_ret
                refine ⟨?_, HK.out⟩
                rw [HCH.out, chkN, ← HU.out.1, ← HU.out.2, if_neg hover, if_neg (by omega), if_pos ⟨hu1, hh⟩]; rfl
              · have hd : ((m : Int) == 16384) = false := by simp; omega
                have HV : Hid (chkN ns = 31) := hid (by rw [chkN, ← HU.out.1, ← HU.out.2, if_neg hover, if_neg (by omega), if_neg (fun h => hh h.2)])
                have b1 : decide ((32768 : Int) < (m : Int)) = false := by simp; omega
                have b2 : decide ((m : Int) < 32768) = true := by simp; omega
                clear hh hun hover
                go_wp2_with fail
                go_ret
                refine ⟨?_, HK.out⟩
                rw [HCH.out, HV.out]; rfl
            · have hd : ((u : Int) == 1) = false := by simp; omega
              have HV : Hid (chkN ns = 31) := hid (by rw [chkN, ← HU.out.1, ← HU.out.2, if_neg hover, if_neg (by omega), if_neg (fun h => hu1 h.1)])
              have b1 : decide ((32768 : Int) < (m : Int)) = false := by simp; omega
              have b2 : decide ((m : Int) < 32768) = true := by simp; omega
              clear hun hover hu1
              go_wp2_with fail
              go_ret
              refine ⟨?_, HK.out⟩
              rw [HCH.out, HV.out]; rfl
          · have hm3 : m = 32768 := by omega
            by_cases hu1 : u = 1
            · go_wp2_with fail
              go_ret
              refine ⟨?_, HK.out⟩
              rw [HCH.out, chkN, ← HU.out.1, ← HU.out.2, if_neg hover, if_pos hm3]; rfl
            · have hd : ((u : Int) == 1) = false := by simp; omega
              go_wp2_with fail
              go_ret
              refine ⟨?_, HK.out⟩
              rw [HCH.out, chkN, ← HU.out.1, ← HU.out.2, if_neg hover, if_pos hm3]; rfl

end Go.Proofs.YtofhlnpbflkdlaaDoor

/-
  The reference's power, used, Measure, Check; what the law lends and gets back.
-/
namespace Go.Proofs.YtofhlnpbflkdlaaDoor
open Go.RowKit

set_option maxHeartbeats 1000000 in
theorem power_any (w : World) (n : Nat) (hn : n ≤ 15) : Calls Tryd.prog 67 #[.int .i64 (n : Nat)] w fun e w' => e = .returned (.int .i64 ((2 ^ n : Nat) : Int)) ∧ w' = w := by
  go_enter Tryd.func67, Tryd.ntmps67
  go_wp2_with fail
  go_loopg [3, 4] n (fun q zp zi wr => ∃ (i p : Nat), n - i ≤ q ∧ i ≤ n ∧ p ≤ 32768 ∧ zi = .int .i64 (i : Nat) ∧ zp = .int .i64 (p : Nat) ∧ wr = w ∧ Hid (p = 2 ^ i))
  case atStart => exact ⟨0, 1, by omega, by omega, by omega, rfl, rfl, rfl, hid rfl⟩
  case round =>
    obtain ⟨i, p, hq, hi, hp, rfl, rfl, rfl, HP⟩ := hrel
    by_cases hlt : i < n
    · have hp2 : 2 * p ≤ 32768 := by
        rw [HP.out]
        have h2 : 2 ^ (i + 1) ≤ 2 ^ 15 := Nat.pow_le_pow_right (by omega) (by omega)
        rw [Nat.pow_succ] at h2
        have h3 : (2 : Nat) ^ 15 = 32768 := by decide
        omega
      go_wp2_with fail
      go_roundg (gk - 1)
      case measure => omega
      case rel => exact ⟨i + 1, 2 * p, by omega, by omega, hp2, by go_num, by congr 1 <;> omega, rfl, hid (by rw [HP.out, Nat.pow_succ]; omega)⟩
    · have hin : i = n := by omega
      subst hin
      go_wp2_with fail
      go_ret
      exact ⟨by rw [← HP.out]; rfl, rfl⟩

set_option maxHeartbeats 1000000 in
theorem used_any (w : World) (v : Value) (I : Nat → Prop) (ns : List Nat) (hs : SrcE natV w I v ns) (hn : ns.length ≤ 1000000) :
    Calls Tryd.prog 66 #[v] w fun e w' => e = .returned (.int .i64 (usedN ns : Nat)) ∧ w' = w := by
  obtain ⟨ao, cap, rfl, hx1, hx2⟩ := id hs
  clear hx1 hx2
  have HS : Hid (SrcE natV w I (.slice ao ns.length cap) ns) := hs
  clear hs
  go_enter Tryd.func66, Tryd.ntmps66
  go_wp2_with fail
  go_loopg [3, 4] ns.length (fun q zn zi wr => ∃ (i c : Nat), ns.length - i ≤ q ∧ i ≤ ns.length ∧ c ≤ i ∧ zi = .int .i64 (i : Nat) ∧ zn = .int .i64 (c : Nat) ∧ wr = w ∧ Hid (c = usedN (ns.take i)))
  case atStart => exact ⟨0, 0, by omega, by omega, by omega, rfl, rfl, rfl, hid rfl⟩
  case round =>
    obtain ⟨i, c, hq, hi, hc, rfl, rfl, rfl, HC⟩ := hrel
    by_cases hlt : i < ns.length
    · obtain ⟨b, o, cap', e, _, _, cx⟩ := HS.out.get i hlt
      simp only [Value.slice.injEq] at e
      obtain ⟨rfl, hxe, rfl⟩ := e
      clear hxe
      obtain ⟨x, hx⟩ : ∃ x, x = ns[i] := ⟨_, rfl⟩
      rw [← hx] at cx
      unfold natV at cx
      have hu : usedN (ns.take (i + 1)) = usedN (ns.take i) + (if x = 0 then 0 else 1) := by rw [List.take_succ_eq_append_getElem hlt, usedN_snoc, hx]
      have HU : Hid (usedN (ns.take (i + 1)) = usedN (ns.take i) + (if x = 0 then 0 else 1)) := hu
      clear hx hu
      by_cases h0 : x = 0
      · have HZ : Hid (x = 0) := h0
        rw [h0] at cx
        clear h0
        go_wp2_with fail
        go_roundg (gk - 1)
        case measure => omega
        case rel => exact ⟨i + 1, c, by omega, by omega, by omega, by go_num, rfl, rfl, hid (by rw [HU.out, if_pos HZ.out, HC.out]; rfl)⟩
      · have hpos : 0 < x := by omega
        have HZ : Hid (¬ x = 0) := h0
        clear h0
        go_wp2_with fail
        go_roundg (gk - 1)
        case measure => omega
        case rel => exact ⟨i + 1, c + 1, by omega, by omega, by omega, by go_num, by go_num, rfl, hid (by rw [HU.out, if_neg HZ.out, HC.out])⟩
    · have hin : i = ns.length := by omega
      subst hin
      go_wp2_with fail
      go_ret
      have h := HC.out
      rw [List.take_of_length_le (Nat.le_refl _)] at h
      exact ⟨by rw [← h]; rfl, rfl⟩

set_option maxHeartbeats 1000000 in
theorem measure_any (w : World) (v : Value) (I : Nat → Prop) (ns : List Nat) (hs : SrcE natV w I v ns) (hn : ns.length ≤ 288) (h15 : ∀ n ∈ ns, n ≤ 15) :
    Calls Tryd.prog 65 #[v] w fun e w' => e = .returned (.int .i64 (measure ns : Nat)) ∧ w' = w := by
  obtain ⟨ao, cap, rfl, hx1, hx2⟩ := id hs
  clear hx1 hx2
  have HS : Hid (SrcE natV w I (.slice ao ns.length cap) ns) := hs
  have H15 : Hid (∀ n ∈ ns, n ≤ 15) := h15
  clear hs h15
  go_enter Tryd.func65, Tryd.ntmps65
  go_wp2_with fail
  go_loopg [3, 4] ns.length (fun q zn zi wr => ∃ (i c : Nat), ns.length - i ≤ q ∧ i ≤ ns.length ∧ c ≤ 16384 * 288 ∧ zi = .int .i64 (i : Nat) ∧ zn = .int .i64 (c : Nat) ∧ wr = w ∧ Hid (c = measure (ns.take i)))
  case atStart => exact ⟨0, 0, by omega, by omega, by omega, rfl, rfl, rfl, hid rfl⟩
  case round =>
    obtain ⟨i, c, hq, hi, hc, rfl, rfl, rfl, HC⟩ := hrel
    by_cases hlt : i < ns.length
    · obtain ⟨b, o, cap', e, _, _, cx⟩ := HS.out.get i hlt
      simp only [Value.slice.injEq] at e
      obtain ⟨rfl, hxe, rfl⟩ := e
      clear hxe
      obtain ⟨x, hx⟩ : ∃ x, x = ns[i] := ⟨_, rfl⟩
      rw [← hx] at cx
      unfold natV at cx
      have hx15 : x ≤ 15 := by rw [hx]; exact H15.out _ (List.getElem_mem _)
      have hu : measure (ns.take (i + 1)) = measure (ns.take i) + unit x := by rw [List.take_succ_eq_append_getElem hlt, measure_snoc, hx]
      have hb1 : measure (ns.take (i + 1)) ≤ 16384 * 288 := Nat.le_trans (measure_le _) (Nat.mul_le_mul_left _ (by simp; omega))
      have HU : Hid (measure (ns.take (i + 1)) = c + unit x) := hid (by rw [hu, HC.out])
      have hb2 : c + unit x ≤ 16384 * 288 := by rw [← HU.out]; exact hb1
      clear hx hu hb1
      by_cases h0 : x = 0
      · have HZ : Hid (unit x = 0) := hid (by simp [unit, h0])
        rw [h0] at cx
        clear h0 hb2
        go_wp2_with fail
        go_roundg (gk - 1)
        case measure => omega
        case rel => exact ⟨i + 1, c, by omega, by omega, by omega, by go_num, rfl, rfl, hid (by rw [HU.out, HZ.out]; rfl)⟩
      · have hpos : 0 < x := by omega
        have hux : unit x = 2 ^ (15 - x) := by rw [unit, if_neg h0]
        have HP := power_any wr (15 - x) (by omega)
        rw [← hux] at HP
        have hsub : ((15 : Int) - (x : Int)) = ((15 - x : Nat) : Int) := by omega
        generalize unit x = ux at *
        clear h0 hux
        go_wp2_with fail
        refine HP.mono ?_
        rintro e w2 ⟨rfl, rfl⟩
        clear HP
        go_wp2_with fail
        go_roundg (gk - 1)
        case measure => omega
        case rel => exact ⟨i + 1, c + ux, by omega, by omega, hb2, by go_num, by go_num, rfl, hid HU.out.symm⟩
    · have hin : i = ns.length := by omega
      subst hin
      go_wp2_with fail
      go_ret
      have h := HC.out
      rw [List.take_of_length_le (Nat.le_refl _)] at h
      exact ⟨by rw [← h]; rfl, rfl⟩

set_option maxRecDepth 100000 in
set_option maxHeartbeats 2000000 in
theorem rcheck_any (w : World) (v : Value) (I : Nat → Prop) (zs : List Int) (hs : SrcE intV w I v zs) (hn : zs.length ≤ 1000000) :
    Calls Tryd.prog 49 #[v] w fun e w' => e = .returned (.int .i64 (chk zs : Nat)) ∧ w' = w := by
  obtain ⟨ao, cap, rfl, hx1, hx2⟩ := id hs
  clear hx1 hx2
  have HS : Hid (SrcE intV w I (.slice ao zs.length cap) zs) := hs
  clear hs
  by_cases h0 : zs.length < 1
  · have HE : Hid (chk zs = 1) := hid (by simp [chk, okAll]; omega)
    have b0 : decide ((zs.length : Int) < 1) = true := by simp; omega
    go_enter Tryd.func49, Tryd.ntmps49
    go_wp2_with fail
    go_ret
    exact ⟨by rw [HE.out]; rfl, rfl⟩
  · have b0 : decide ((zs.length : Int) < 1) = false := by simp; omega
    by_cases h288 : 288 < zs.length
    · have HE : Hid (chk zs = 1) := hid (by simp [chk, okAll]; omega)
      have b1 : decide ((288 : Int) < (zs.length : Int)) = true := by simp; omega
      clear h0
      go_enter Tryd.func49, Tryd.ntmps49
      go_wp2_with fail
      go_ret
      exact ⟨by rw [HE.out]; rfl, rfl⟩
    · have b1 : decide ((288 : Int) < (zs.length : Int)) = false := by simp; omega
      go_enter Tryd.func49, Tryd.ntmps49
      go_wp2_with fail
      clear b0 b1
      go_loopg [3] zs.length (fun q zi wr => ∃ (i : Nat), zs.length - i ≤ q ∧ i ≤ zs.length ∧ zi = .int .i64 (i : Nat) ∧ wr = w ∧ Hid ((zs.take i).any (badI 0 15) = false))
      case atStart => exact ⟨0, by omega, by omega, rfl, rfl, hid (by simp)⟩
      case round =>
        obtain ⟨i, hq, hi, rfl, rfl, HF⟩ := hrel
        by_cases hlt : i < zs.length
        · obtain ⟨b, o, cap', e, _, _, cx⟩ := HS.out.get i hlt
          simp only [Value.slice.injEq] at e
          obtain ⟨rfl, hxe, rfl⟩ := e
          clear hxe
          obtain ⟨x, hx⟩ : ∃ x, x = zs[i] := ⟨_, rfl⟩
          rw [← hx] at cx
          unfold intV at cx
          have HX : Hid (x = zs[i]) := hx
          have HBAD : Hid (badI 0 15 x = true → chk zs = 1) := hid (fun h => by
            have : zs.any (badI 0 15) = true := List.any_eq_true.2 ⟨x, by rw [hx]; exact List.getElem_mem _, h⟩
            simp [chk, okAll, this])
          clear hx
          by_cases hneg : x < 0
          · have HE : Hid (chk zs = 1) := hid (HBAD.out (by simp [badI]; omega))
            go_wp2_with fail
            go_ret
            exact ⟨by rw [HE.out]; rfl, rfl⟩
          · by_cases hbig : 15 < x
            · have HE : Hid (chk zs = 1) := hid (HBAD.out (by simp [badI]; omega))
              go_wp2_with fail
              go_ret
              exact ⟨by rw [HE.out]; rfl, rfl⟩
            · have HOKX : Hid (badI 0 15 x = false) := hid (by simp [badI]; omega)
              go_wp2_with fail
              go_roundg (gk - 1)
              case measure => omega
              case rel => exact ⟨i + 1, by omega, by omega, by go_num, rfl, hid (by rw [List.take_succ_eq_append_getElem hlt, List.any_append, HF.out, ← HX.out]; simp [HOKX.out])⟩
        · have hin : i = zs.length := by omega
          have hany : zs.any (badI 0 15) = false := by have h := HF.out; rw [hin, List.take_of_length_le (Nat.le_refl _)] at h; exact h
          have hok : okAll zs 0 15 = true := by simp [okAll, hany]; omega
          obtain ⟨eN, h0', h288', h15⟩ := okAll_nat hok
          have HCH : Hid (chk zs = chkN (zs.map Int.toNat)) := hid (by simp [chk, hok])
          have hsn := HS.out.recode eN
          have hnl : (zs.map Int.toNat).length = zs.length := by simp
          generalize zs.map Int.toNat = ns at *
          have HME := measure_any wr _ I ns hsn (by omega) (fun n hn => by have := h15 n hn; omega)
          have HUS := used_any wr _ I ns hsn (by omega)
          have hml := measure_le ns
          obtain ⟨m, hm⟩ : ∃ m, m = measure ns := ⟨_, rfl⟩
          obtain ⟨u, hu⟩ : ∃ u, u = usedN ns := ⟨_, rfl⟩
          rw [← hm] at HME hml
          rw [← hu] at HUS
          have HMU : Hid (chkN ns = if 32768 < m then 30 else if m = 32768 then 0 else if u = 1 ∧ m = 16384 then 0 else 31) := hid (by rw [chkN, hm, hu])
          clear hsn hm hu hok hany h15 hin
          go_wp2_with fail
          refine HME.mono ?_
          rintro e w2 ⟨rfl, rfl⟩
          clear HME
          by_cases hover : 32768 < m
          · have HE : Hid (chk zs = 30) := hid (by rw [HCH.out, HMU.out, if_pos hover])
            have b3 : decide ((32768 : Int) < (m : Int)) = true := by simp; omega
            clear hover
            go_wp2_with fail
            go_ret
            exact ⟨by rw [HE.out]; rfl, rfl⟩
          · have b3 : decide ((32768 : Int) < (m : Int)) = false := by simp; omega
            by_cases hfull : m = 32768
            · have HE : Hid (chk zs = 0) := hid (by rw [HCH.out, HMU.out, if_neg hover, if_pos hfull])
              have b4 : ((m : Int) == 32768) = true := by simp; omega
              clear hover hfull
              go_wp2_with fail
              go_ret
              exact ⟨by rw [HE.out]; rfl, rfl⟩
            · have b4 : ((m : Int) == 32768) = false := by simp; omega
              by_cases hu1 : u = 1
              · by_cases hm2 : m = 16384
                · have HE : Hid (chk zs = 0) := hid (by rw [HCH.out, HMU.out, if_neg hover, if_neg hfull, if_pos ⟨hu1, hm2⟩])
                  have b5 : ((u : Int) == 1) = true := by simp; omega
                  have b6 : ((m : Int) == 16384) = true := by simp; omega
                  clear hover hfull hu1 hm2
                  go_wp2_with fail
                  refine HUS.mono ?_
                  rintro e w3 ⟨rfl, rfl⟩
                  go_wp2_with fail
                  go_ret
                  exact ⟨by rw [HE.out]; rfl, rfl⟩
                · have HE : Hid (chk zs = 31) := hid (by rw [HCH.out, HMU.out, if_neg hover, if_neg hfull, if_neg (fun h => hm2 h.2)])
                  have b5 : ((u : Int) == 1) = true := by simp; omega
                  have b6 : ((m : Int) == 16384) = false := by simp; omega
                  clear hover hfull hu1 hm2
                  go_wp2_with fail
                  refine HUS.mono ?_
                  rintro e w3 ⟨rfl, rfl⟩
                  go_wp2_with fail
                  go_ret
                  exact ⟨by rw [HE.out]; rfl, rfl⟩
              · have HE : Hid (chk zs = 31) := hid (by rw [HCH.out, HMU.out, if_neg hover, if_neg hfull, if_neg (fun h => hu1 h.1)])
                have b5 : ((u : Int) == 1) = false := by simp; omega
                clear hover hfull hu1
                go_wp2_with fail
                refine HUS.mono ?_
                rintro e w3 ⟨rfl, rfl⟩
                go_wp2_with fail
                go_ret
                exact ⟨by rw [HE.out]; rfl, rfl⟩

end Go.Proofs.YtofhlnpbflkdlaaDoor

/-
  keep's Ints; what the law lends and gets back.
-/
namespace Go.Proofs.YtofhlnpbflkdlaaDoor
open Go.RowKit

set_option maxHeartbeats 1000000 in
theorem keepInts_any (va vb : Value) (I J : Nat → Prop) (xs ys : List Int) (w : World) (ha : SrcE intV w I va xs) (hb : SrcE intV w J vb ys) (hx : xs.length ≤ 10000000) (hy : ys.length ≤ 10000000) :
    Calls Tryd.prog 17 #[va, vb] w fun e w' => e = .returned (.bool (decide (xs = ys))) ∧ Same w w' := by
  obtain ⟨ao, ca, rfl, hxa, hsa⟩ := id ha
  obtain ⟨bo, cb, rfl, hxb, hsb⟩ := id hb
  clear hxa hxb hsa hsb
  have HA : Hid (SrcE intV w I (.slice ao xs.length ca) xs) := ha
  have HB : Hid (SrcE intV w J (.slice bo ys.length cb) ys) := hb
  clear ha hb
  by_cases hl : xs.length = ys.length
  · have HL : Hid (xs.length = ys.length) := hl
    have hd : ((xs.length : Int) != (ys.length : Int)) = false := by simp [hl]
    clear hl
    go_enter Tryd.func17, Tryd.ntmps17
    go_wp2
    clear hd
    go_loopg [5] xs.length (fun k i wr => ∃ j : Nat, j ≤ xs.length ∧ xs.length - j ≤ k ∧ i = .int .i64 (j : Nat) ∧ Hid (Same w wr) ∧ Hid (xs.take j = ys.take j))
    case atStart => exact ⟨0, by omega, by omega, rfl, Kept.refl _ _, hid (by simp)⟩
    case round =>
      obtain ⟨j, hj, hjk, rfl, HK, HT⟩ := hrel
      by_cases hlt : j < xs.length
      · have hlt2 : j < ys.length := by have := HL.out; omega
        obtain ⟨a, oa, ca', ea, _, _, hc1⟩ := (HA.out.same HK.out).get j hlt
        obtain ⟨b, ob, cb', eb, _, _, hc2⟩ := (HB.out.same HK.out).get j hlt2
        simp only [Value.slice.injEq] at ea eb
        obtain ⟨rfl, hxe, rfl⟩ := ea
        obtain ⟨rfl, hxf, rfl⟩ := eb
        clear hxe hxf
        obtain ⟨x, hx1⟩ : ∃ x, x = xs[j] := ⟨_, rfl⟩
        obtain ⟨y, hy1⟩ : ∃ y, y = ys[j] := ⟨_, rfl⟩
        rw [← hx1] at hc1
        rw [← hy1] at hc2
        unfold intV at hc1 hc2
        have HX : Hid (x = xs[j]) := hx1
        have HY : Hid (y = ys[j]) := hy1
        clear hx1 hy1
        by_cases he : x = y
        · have hd : (x != y) = false := by simp [he]
          have HE : Hid (x = y) := he
          clear he
          go_wp2
          go_quiet (fail)
          go_wp2
          go_roundg (gk - 1)
          case measure => omega
          case rel => exact ⟨j + 1, by omega, by omega, by go_num, hid (HK.out.drewN _), hid (by rw [List.take_succ_eq_append_getElem hlt, List.take_succ_eq_append_getElem hlt2, HT.out, ← HX.out, ← HY.out, HE.out])⟩
        · have hd : (x != y) = true := by simp [he]
          have HE : Hid (¬ x = y) := he
          clear he
          go_wp2
          go_quiet (fail)
          go_wp2
          go_ret
          refine ⟨?_, HK.out.drewN _⟩
          have hne : ¬ xs = ys := by
            intro e
            subst e
            exact HE.out (HX.out.trans HY.out.symm)
          simp [hne]
      · have hjl : j = xs.length := by omega
        subst hjl
        go_wp2
        go_ret
        refine ⟨?_, HK.out⟩
        have h1 := HT.out
        rw [List.take_of_length_le (Nat.le_refl _), List.take_of_length_le (by have := HL.out; omega)] at h1
        simp [h1]
  · have hd : ((xs.length : Int) != (ys.length : Int)) = true := by simp; omega
    have HNE : Hid (¬ xs = ys) := hid (fun e => hl (by rw [e]))
    clear hl
    go_enter Tryd.func17, Tryd.ntmps17
    go_wp2
    go_ret
    exact ⟨by simp [HNE.out], Kept.refl _ _⟩

/-- copy(dst, src) of ints into a row of one's own. -/
theorem wpList_copy_ints {ops : Array Oper} {rest : List Oper} {o : Oper} {a : Act} {Q : Exit → Act → World → Prop} (w : World) (B : Nat) (hgd : o.guard = none) (d s : Operand) (ho : o.op = .call { callee := .builtin .copy, args := #[d, s], argTypes := #[22, 22] })
    (g n cap : Nat) (sp : Option Addr) (m c : Nat) (ds cs : List Int) (I : Nat → Prop) (hd : a.eval d = .slice (some ⟨g, 0, none⟩) n cap) (hs : a.eval s = .slice sp m c)
    (hrow : IRow B w (.slice (some ⟨g, 0, none⟩) n cap) ds) (hsrc : SrcE intV w I (.slice sp m c) cs) (hle : cs.length ≤ ds.length)
    (hK : ∀ w', IRow B w' (.slice (some ⟨g, 0, none⟩) n cap) (cs ++ ds.drop cs.length) → w.grownBy w' (some g) → wpList Tryd.prog ops Q rest (a.put o.dst (goInt cs.length)) w') : wpList Tryd.prog ops Q (o :: rest) a w := by
  obtain ⟨rfl, hat⟩ := hsrc.at
  have hsz : (Tryd.prog.info? 3).map (·.size) = some 1 := by kernel_rfl
  rcases hrow.2 with ⟨h', _⟩ | ⟨g', cap', cur, h', hb, hgg, hnc, hcm, hcs, htake⟩
  · simp at h'
  · simp only [Value.slice.injEq, Option.some.injEq, Addr.mk.injEq, and_true] at h'
    obtain ⟨rfl, rfl, rfl⟩ := h'
    by_cases h0 : cs = []
    · subst h0
      refine wpList_copy_nothing hgd d s _ _ ho 3 Tryd.underlying22 hsz _ _ _ _ _ _ hd hs (by simp) ?_
      exact hK w (by simpa using hrow) (World.grownBy.refl _ _)
    · obtain ⟨ad, rfl, hbytes⟩ := hat h0
      refine wpList_copy_own hgd d s _ _ ho 3 Tryd.underlying22 hsz g 0 _ _ ad _ _ hd hs cur 3 hgg (cs.map intV) (by rw [List.length_map]; exact (Nat.min_eq_left hle).symm) hbytes (by simp; omega) (intV_one _) ?_
      rw [show (goInt (cs.map intV).length) = goInt cs.length by simp]
      have e1 : (cs ++ ds.drop cs.length).length = ds.length := by simp; omega
      refine hK _ ?_ ⟨rfl, rfl, rfl, by simp, fun k _ hk => setRow_other w g k _ (fun e => hk (by simp [e]))⟩
      unfold IRow RowE
      rw [e1]
      refine ⟨by simp; omega, .inr ⟨g, cap, _, rfl, hb, setRow_heap w g cur _ 3 _ hgg, hnc, hcm, ?_, ?_⟩⟩
      · simp; omega
      · simp only [Nat.mul_one] at htake ⊢
        simp only [List.take_zero, List.nil_append, Nat.zero_add, List.length_map]
        rw [List.map_append, List.map_drop, ← htake, List.drop_take, List.take_append, List.take_of_length_le (by simpa using hle)]
        simp

/-- What is lent: the numbers, and a mark behind them. -/
structure Lent (w : World) (g : Nat) (zs : List Int) : Prop where
  row : IRow 0 w (.slice (some ⟨g, 0, none⟩) (zs.length + 1) (zs.length + 1)) (zs ++ [-77])

theorem Lent.kept {F : Nat → Prop} {w w' : World} {g : Nat} {zs : List Int} (h : Lent w g zs) (hk : Kept F w w') (hF : ¬ F g) : Lent w' g zs := ⟨h.row.kept hk (fun k e f => by simp [Value.ownBlock] at e; subst e; exact hF f)⟩

/-- The slice that is handed out. -/
theorem Lent.src {w : World} {g : Nat} {zs : List Int} (h : Lent w g zs) : SrcE intV w (fun k => k = g) (.slice (some ⟨g, 0, none⟩) zs.length (zs.length + 1)) zs :=
  (SrcE.ofRow (RowE.cut h.row)).mono (fun k e => by simp [Value.ownBlock] at e; exact e.symm)

set_option maxHeartbeats 1000000 in
theorem lent_any (w : World) (v : Value) (I : Nat → Prop) (zs : List Int) (hsrc : SrcE intV w I v zs) (hlen : zs.length ≤ 10000000) :
    Calls Tryd.prog 10 #[v] w fun e w' => ∃ g, e = .returned (.slice (some ⟨g, 0, none⟩) zs.length (zs.length + 1)) ∧ Lent w' g zs ∧ Same w w' ∧ w.heap.size ≤ g ∧ g < w'.heap.size := by
  obtain ⟨ao, cap, rfl, hx1, hx2⟩ := id hsrc
  clear hx1 hx2
  have HS : Hid (SrcE intV w I (.slice ao zs.length cap) zs) := hsrc
  clear hsrc
  go_enter Tryd.func10, Tryd.ntmps10
  go_wp2_with (first | (at_make; refine wpList_make_e _ intV 0 0 22 3 8 Tryd.underlying22 Tryd.infoI rfl (by decide) rfl _ _ rfl _ _ _ _ (zs.length + 1) rfl rfl (by omega) (by omega) (by omega) (Nat.zero_le _) ?_; intro w1 hr1 hg1 hs1; have HR : Hid (IRow 0 w1 (.slice (some ⟨w.heap.size, 0, none⟩) (zs.length + 1) (zs.length + 1)) (List.replicate (zs.length + 1) 0)) := hr1; have HK : Hid (Same w w1) := (Kept.refl _ w).grown hg1 (by simp); clear hr1 hg1) | (with_reducible refine atCopy ?_; refine wpList_copy_ints _ 0 rfl (.tmp 8) (.tmp 9) rfl w.heap.size (zs.length + 1) (zs.length + 1) ao zs.length cap (List.replicate (zs.length + 1) 0) zs I rfl rfl HR.out (HS.out.same HK.out) (by simp) ?_))
  intro w2 hr2 hg2
  have hr3 : IRow 0 w2 (.slice (some ⟨w.heap.size, 0, none⟩) (zs.length + 1) (zs.length + 1)) (zs ++ [0]) := by simpa using hr2
  have c1 : w2.cell? ⟨w.heap.size, zs.length, none⟩ = some (.int .i64 0) := by
    rw [hr3.cell zs.length (by simp)]; simp [intV]
  have f1 : w2.frozen? ⟨w.heap.size, zs.length, none⟩ = false := hr3.frozen _
  have HR2 : Hid (IRow 0 w2 (.slice (some ⟨w.heap.size, 0, none⟩) (zs.length + 1) (zs.length + 1)) (zs ++ [0])) := hr3
  have HK2 : Hid (Same w w2) := HK.out.grown hg2 (fun k e => .inr (by simp at e; omega))
  clear hr2 hr3 hg2 HR HK
  go_wp2_with fail
  go_ret
  refine ⟨w.heap.size, rfl, ⟨?_⟩, HK2.out.setCell _ _ (.inr (Nat.le_refl _)), Nat.le_refl _, ?_⟩
  · have h := HR2.out.lay zs.length (-77)
    rw [List.set_append_right _ _ (Nat.le_refl _), Nat.sub_self, List.set_cons_zero] at h
    exact h
  · have := HR2.out.lt (k := w.heap.size) rfl
    simpa [World.setCell] using this



end Go.Proofs.YtofhlnpbflkdlaaDoor

/-
  Bits that are turned round: math/bits.Reverse32.
-/
namespace Go.Proofs.YtofhlnpbflkdlaaDoor
open Go.RowKit

/-- Neighbouring groups of s bits change places. -/
def sw (s m x : Nat) : Nat := (x / 2 ^ s &&& m) ||| ((x &&& m) * 2 ^ s % 4294967296)

def swAt (s i : Nat) : Nat := if i % (2 * s) < s then i + s else i - s

theorem sw_bit (s m x i : Nat) (hi : i < 32) (hs : s = 1 ∨ s = 2 ∨ s = 4 ∨ s = 8) (hm : ∀ j, j < 32 → m.testBit j = decide (j % (2 * s) < s)) : (sw s m x).testBit i = x.testBit (swAt s i) := by
  unfold sw swAt
  rw [Nat.testBit_or, Nat.testBit_and, Nat.testBit_div_two_pow, show (4294967296 : Nat) = 2 ^ 32 by rfl, Nat.testBit_mod_two_pow, Nat.testBit_mul_two_pow, Nat.testBit_and, hm i hi]
  by_cases h : i % (2 * s) < s
  · have h2 : ¬ (s ≤ i ∧ (i - s) % (2 * s) < s) := by rcases hs with rfl | rfl | rfl | rfl <;> omega
    by_cases h3 : s ≤ i
    · rw [hm (i - s) (by omega)]
      have h4 : ¬ (i - s) % (2 * s) < s := fun h => h2 ⟨h3, h⟩
      simp [h, h4]
    · simp [h, h3]
  · have h2 : s ≤ i ∧ (i - s) % (2 * s) < s := by rcases hs with rfl | rfl | rfl | rfl <;> omega
    rw [hm (i - s) (by omega)]
    simp [h, h2.1, h2.2, hi]

theorem sw_lt (s m x : Nat) (hx : x < 4294967296) : sw s m x < 4294967296 := by
  unfold sw
  rw [show (4294967296 : Nat) = 2 ^ 32 by rfl] at *
  refine Nat.or_lt_two_pow ?_ (Nat.mod_lt _ (by decide))
  exact Nat.lt_of_le_of_lt Nat.and_le_left (Nat.lt_of_le_of_lt (Nat.div_le_self _ _) hx)

def half (x : Nat) : Nat := x / 2 ^ 16 ||| x * 2 ^ 16 % 4294967296

theorem half_bit (x i : Nat) (hi : i < 32) (hx : x < 4294967296) : (half x).testBit i = x.testBit (if i < 16 then i + 16 else i - 16) := by
  unfold half
  rw [Nat.testBit_or, Nat.testBit_div_two_pow, show (4294967296 : Nat) = 2 ^ 32 by rfl, Nat.testBit_mod_two_pow, Nat.testBit_mul_two_pow]
  by_cases h : i < 16
  · simp [h, show ¬ 16 ≤ i by omega]
  · have hz : x.testBit (i + 16) = false := Nat.testBit_lt_two_pow (Nat.lt_of_lt_of_le hx (Nat.pow_le_pow_right (n := 2) (by omega) (show 32 ≤ i + 16 by omega)))
    simp [h, show 16 ≤ i by omega, hi, hz]

def rev32 (x : Nat) : Nat := half (sw 8 16711935 (sw 4 252645135 (sw 2 858993459 (sw 1 1431655765 x))))

theorem rev32_bit (x i : Nat) (hi : i < 32) (hx : x < 4294967296) : (rev32 x).testBit i = x.testBit (31 - i) := by
  unfold rev32
  have e : ∀ i, i < 32 → swAt 1 (swAt 2 (swAt 4 (swAt 8 (if i < 16 then i + 16 else i - 16)))) = 31 - i := by decide
  have l0 : ∀ i, i < 32 → (if i < 16 then i + 16 else i - 16) < 32 := by decide
  have l8 : ∀ i, i < 32 → swAt 8 i < 32 := by decide
  have l4 : ∀ i, i < 32 → swAt 4 i < 32 := by decide
  have l2 : ∀ i, i < 32 → swAt 2 i < 32 := by decide
  rw [half_bit _ i hi (sw_lt _ _ _ (sw_lt _ _ _ (sw_lt _ _ _ (sw_lt _ _ _ hx)))),
    sw_bit 8 _ _ _ (l0 i hi) (by omega) (by decide), sw_bit 4 _ _ _ (l8 _ (l0 i hi)) (by omega) (by decide), sw_bit 2 _ _ _ (l4 _ (l8 _ (l0 i hi))) (by omega) (by decide),
    sw_bit 1 _ _ _ (l2 _ (l4 _ (l8 _ (l0 i hi)))) (by omega) (by decide), e i hi]

theorem half_lt (x : Nat) (hx : x < 4294967296) : half x < 4294967296 := by
  unfold half
  rw [show (4294967296 : Nat) = 2 ^ 32 by rfl] at *
  exact Nat.or_lt_two_pow (Nat.lt_of_le_of_lt (Nat.div_le_self _ _) hx) (Nat.mod_lt _ (by decide))

theorem rev32_lt (x : Nat) (hx : x < 4294967296) : rev32 x < 4294967296 := half_lt _ (sw_lt _ _ _ (sw_lt _ _ _ (sw_lt _ _ _ (sw_lt _ _ _ hx))))

/-- The lowest n bits of a number, turned round. -/
def rv : Nat → Nat → Nat
  | 0, _ => 0
  | n + 1, c => c % 2 * 2 ^ n + rv n (c / 2)

theorem rv_lt (n c : Nat) : rv n c < 2 ^ n := by
  induction n generalizing c with
  | zero => simp [rv]
  | succ n ih =>
    have h1 := ih (c / 2)
    have h2 : c % 2 * 2 ^ n ≤ 1 * 2 ^ n := Nat.mul_le_mul_right _ (by omega)
    simp only [rv, Nat.pow_succ]
    omega

theorem rv_bit (n c k : Nat) : (rv n c).testBit k = (decide (k < n) && c.testBit (n - 1 - k)) := by
  induction n generalizing c k with
  | zero => simp [rv]
  | succ n ih =>
    simp only [rv]
    rw [Nat.mul_comm, Nat.testBit_two_pow_mul_add _ (rv_lt n (c / 2)), ih]
    by_cases h : k < n
    · rw [if_pos h, Nat.testBit_div_two]
      simp [h, show k < n + 1 by omega, show n - 1 - k + 1 = n - k by omega]
    · rw [if_neg h]
      by_cases h2 : k = n
      · subst h2
        simp [Nat.testBit_zero]
      · have : (c % 2).testBit (k - n) = false := Nat.testBit_lt_two_pow (Nat.lt_of_lt_of_le (Nat.mod_lt _ (by decide)) (by
          have := Nat.pow_le_pow_right (n := 2) (by omega) (show 1 ≤ k - n by omega); omega))
        rw [this]; simp; omega

theorem rev32_rv (x n : Nat) (hx : x < 4294967296) (hn : n ≤ 32) : rev32 x / 2 ^ (32 - n) = rv n x := by
  refine Nat.eq_of_testBit_eq (fun k => ?_)
  rw [Nat.testBit_div_two_pow, rv_bit]
  by_cases h : k < n
  · rw [rev32_bit x _ (by omega) hx]
    simp [h, show 31 - (k + (32 - n)) = n - 1 - k by omega]
  · have : (rev32 x).testBit (k + (32 - n)) = false := Nat.testBit_lt_two_pow (Nat.lt_of_lt_of_le (rev32_lt x hx) (Nat.pow_le_pow_right (n := 2) (by omega) (show 32 ≤ k + (32 - n) by omega)))
    rw [this]; simp [h]

theorem sw_int (s m x : Nat) (hx : x < 4294967296) (hm : m < 4294967296) (_hs : s ≤ 8) :
    bits .or .u32 (bits .and .u32 ((x : Int) / 2 ^ s) (m : Int)) (bits .and .u32 (x : Int) (m : Int) * 2 ^ s % 4294967296) = ((sw s m x : Nat) : Int) := by
  have e1 : ((x : Int) / 2 ^ s) = ((x / 2 ^ s : Nat) : Int) := by simp
  have hd : x / 2 ^ s < 4294967296 := Nat.lt_of_le_of_lt (Nat.div_le_self _ _) hx
  rw [e1, u32_and_nat _ _ hd hm, u32_and_nat _ _ hx hm]
  have e2 : ((x &&& m : Nat) : Int) * 2 ^ s % 4294967296 = (((x &&& m) * 2 ^ s % 4294967296 : Nat) : Int) := by simp
  rw [e2, u32_or_nat _ _ (Nat.lt_of_le_of_lt Nat.and_le_left hd) (Nat.mod_lt _ (by decide))]
  rfl

set_option maxHeartbeats 1000000 in
theorem revBytes_any (w : World) (x : Nat) (hx : x < 4294967296) : Calls Tryd.prog 91 #[.int .u32 (x : Nat)] w fun e w' => e = .returned (.int .u32 ((half (sw 8 16711935 x) : Nat) : Int)) ∧ w' = w := by
  obtain ⟨y, hy⟩ : ∃ y, y = sw 8 16711935 x := ⟨_, rfl⟩
  have hyl : y < 4294967296 := by rw [hy]; exact sw_lt 8 16711935 x hx
  have e1 : bits .or .u32 (bits .and .u32 ((x : Int) / 256) 16711935) (bits .and .u32 (x : Int) 16711935 * 256 % 4294967296) = (y : Int) := by
    have h := sw_int 8 16711935 x hx (by decide) (by decide)
    rw [← hy] at h
    exact h
  have e2 : bits .or .u32 ((y : Int) / 65536) ((y : Int) * 65536 % 4294967296) = ((half y : Nat) : Int) := by
    have d1 : (y : Int) / 65536 = ((y / 2 ^ 16 : Nat) : Int) := by omega
    have d2 : (y : Int) * 65536 % 4294967296 = ((y * 2 ^ 16 % 4294967296 : Nat) : Int) := by omega
    rw [d1, d2, u32_or_nat _ _ (Nat.lt_of_le_of_lt (Nat.div_le_self _ _) hyl) (Nat.mod_lt _ (by decide))]
    rfl
  have HY : Hid (y = sw 8 16711935 x) := hy
  clear hy hyl hx
  go_enter Tryd.func91, Tryd.ntmps91
  go_wp2_with fail
  go_ret
  exact ⟨by rw [← HY.out]; rfl, rfl⟩

set_option maxHeartbeats 1000000 in
theorem reverse_any (w : World) (x : Nat) (hx : x < 4294967296) : Calls Tryd.prog 79 #[.int .u32 (x : Nat)] w fun e w' => e = .returned (.int .u32 ((rev32 x : Nat) : Int)) ∧ w' = w := by
  obtain ⟨y, hy⟩ : ∃ y, y = sw 1 1431655765 x := ⟨_, rfl⟩
  have hyl : y < 4294967296 := by rw [hy]; exact sw_lt 1 1431655765 x hx
  obtain ⟨z, hz⟩ : ∃ z, z = sw 2 858993459 y := ⟨_, rfl⟩
  have hzl : z < 4294967296 := by rw [hz]; exact sw_lt 2 858993459 y hyl
  obtain ⟨t, ht⟩ : ∃ t, t = sw 4 252645135 z := ⟨_, rfl⟩
  have htl : t < 4294967296 := by rw [ht]; exact sw_lt 4 252645135 z hzl
  have e1 : bits .or .u32 (bits .and .u32 ((x : Int) / 2) 1431655765) (bits .and .u32 (x : Int) 1431655765 * 2 % 4294967296) = (y : Int) := by
    have h := sw_int 1 1431655765 x hx (by decide) (by decide)
    rw [← hy] at h
    exact h
  have e2 : bits .or .u32 (bits .and .u32 ((y : Int) / 4) 858993459) (bits .and .u32 (y : Int) 858993459 * 4 % 4294967296) = (z : Int) := by
    have h := sw_int 2 858993459 y hyl (by decide) (by decide)
    rw [← hz] at h
    exact h
  have e3 : bits .or .u32 (bits .and .u32 ((z : Int) / 16) 252645135) (bits .and .u32 (z : Int) 252645135 * 16 % 4294967296) = (t : Int) := by
    have h := sw_int 4 252645135 z hzl (by decide) (by decide)
    rw [← ht] at h
    exact h
  have HC := revBytes_any w t htl
  have HV : Hid (rev32 x = half (sw 8 16711935 t)) := hid (by rw [rev32, ← hy, ← hz, ← ht])
  generalize half (sw 8 16711935 t) = r at HC HV
  clear hy hz ht hyl hzl htl hx
  go_enter Tryd.func79, Tryd.ntmps79
  go_wp2_with fail
  refine HC.mono ?_
  rintro e w2 ⟨rfl, rfl⟩
  clear HC
  go_wp2_with fail
  go_ret
  exact ⟨by rw [HV.out]; rfl, rfl⟩

end Go.Proofs.YtofhlnpbflkdlaaDoor

/-
  The codes of a list of lengths: where each begins, and Codes.
-/
namespace Go.Proofs.YtofhlnpbflkdlaaDoor
open Go.RowKit

/-- A symbol's part of the measure. -/
def uk (ns : List Nat) (s : Nat) : Nat := unit (key ns s)

/-- What the symbols ahead of a symbol measure together. -/
def startOf (ns : List Nat) (s : Nat) : Nat := (((ris ns).filter (fun t => decide (Lt ns t s))).map (uk ns)).sum

/-- What the first k symbols measure. -/
def sumTo (ns : List Nat) (k : Nat) : Nat := (((ris ns).take k).map (uk ns)).sum

theorem sumTo_succ (ns : List Nat) (k : Nat) (h : k < (ris ns).length) : sumTo ns (k + 1) = sumTo ns k + uk ns (ris ns)[k] := by
  unfold sumTo
  rw [List.take_succ_eq_append_getElem h, List.map_append, List.sum_append]
  simp only [List.map_cons, List.map_nil, List.sum_cons, List.sum_nil, Nat.add_zero]

theorem start_at (ns : List Nat) (k : Nat) (h : k < (ris ns).length) : startOf ns (ris ns)[k] = sumTo ns k := by
  unfold startOf sumTo
  congr 2
  have hs := ris_sorted ns
  have hsplit : (ris ns) = (ris ns).take k ++ (ris ns)[k] :: (ris ns).drop (k + 1) := by
    rw [← List.drop_eq_getElem_cons h, List.take_append_drop]
  generalize (ris ns)[k] = x at *
  generalize hA : (ris ns).take k = A at *
  generalize (ris ns).drop (k + 1) = B at *
  rw [hsplit] at hs ⊢
  rw [List.filter_append, List.filter_cons_of_neg (by simp [Lt.irrefl])]
  have h1 : A.filter (fun t => decide (Lt ns t x)) = A := List.filter_eq_self.2 (fun a ha => by simpa using Sorted.cross hs a ha x (by simp))
  have h2 : B.filter (fun t => decide (Lt ns t x)) = [] := List.filter_eq_nil_iff.2 (fun b hb => by
    have := (List.pairwise_cons.1 (Sorted.right hs)).1 b hb
    simpa using this.asymm)
  rw [h1, h2, List.append_nil]

theorem usedTo_sum (ns : List Nat) (i : Nat) (hi : i ≤ ns.length) : ((usedTo ns i).map (uk ns)).sum = measure (ns.take i) := by
  induction i with
  | zero => simp [usedTo, measure]
  | succ i ih =>
    have hlt : i < ns.length := hi
    rw [usedTo_succ, List.map_append, List.sum_append, ih (by omega), List.take_succ_eq_append_getElem hlt, measure_snoc, ← key_get hlt]
    congr 1
    by_cases h : key ns i = 0
    · simp [h, unit]
    · simp [h, uk]

theorem sum_perm {a b : List Nat} (f : Nat → Nat) (h : a.Perm b) : (a.map f).sum = (b.map f).sum := (h.map f).sum_nat

theorem sumTo_all (ns : List Nat) : sumTo ns (ris ns).length = measure ns := by
  unfold sumTo
  rw [List.take_of_length_le (Nat.le_refl _), sum_perm _ (ris_perm ns)]
  have := usedTo_sum ns ns.length (Nat.le_refl _)
  rw [List.take_of_length_le (Nat.le_refl _)] at this
  exact this

theorem sumTo_mono (ns : List Nat) (k : Nat) : sumTo ns k ≤ measure ns := by
  rw [← sumTo_all]
  unfold sumTo
  rw [List.take_of_length_le (Nat.le_refl _)]
  conv => rhs; rw [← List.take_append_drop k (ris ns)]
  rw [List.map_append, List.sum_append]
  omega

theorem dvd_list (d : Nat) (l : List Nat) (h : ∀ x ∈ l, d ∣ x) : d ∣ l.sum := by
  induction l with
  | nil => simp
  | cons a r ih =>
    rw [List.sum_cons]
    exact Nat.dvd_add (h a (by simp)) (ih (fun x hx => h x (List.mem_cons_of_mem _ hx)))

/-- A symbol's code as a number, its first bit the highest. -/
def codeOf (ns : List Nat) (s : Nat) : Nat := startOf ns s / 2 ^ (15 - key ns s)

theorem code_start (ns : List Nat) (s : Nat) : codeOf ns s * 2 ^ (15 - key ns s) = startOf ns s := by
  refine Nat.div_mul_cancel (dvd_list _ _ (fun x hx => ?_))
  obtain ⟨t, ht, rfl⟩ := List.mem_map.1 hx
  have hlt : Lt ns t s := by simpa using (List.mem_filter.1 ht).2
  have h0 := (mem_ris.1 (List.mem_filter.1 ht).1).2
  unfold uk unit
  rw [if_neg h0]
  exact Nat.pow_dvd_pow 2 (by unfold Lt at hlt; omega)

/-- A symbol's code as Codes tells it. -/
def cdOf (ns : List Nat) (s : Nat) : Nat := if key ns s = 0 then 0 else rv (key ns s) (codeOf ns s)

def codesL (ns : List Nat) : List Nat := (List.range ns.length).map (cdOf ns)

theorem codesL_length (ns : List Nat) : (codesL ns).length = ns.length := by simp [codesL]

/-- The list of codes when the first k symbols have theirs. -/
def outAt (ns : List Nat) (k : Nat) : List Nat := (List.range ns.length).map (fun s => if s ∈ (ris ns).take k then cdOf ns s else 0)

theorem outAt_zero (ns : List Nat) : outAt ns 0 = List.replicate ns.length 0 := by
  unfold outAt
  simp [List.map_const']

theorem outAt_all (ns : List Nat) : outAt ns (ris ns).length = codesL ns := by
  unfold outAt codesL
  rw [List.take_of_length_le (Nat.le_refl _)]
  refine List.map_congr_left (fun s hs => ?_)
  by_cases h : s ∈ ris ns
  · rw [if_pos h]
  · rw [if_neg h]
    have : key ns s = 0 := by
      have h2 := mt mem_ris.2 h
      simp at hs
      exact Classical.byContradiction (fun h3 => h2 ⟨hs, h3⟩)
    simp [cdOf, this]

theorem outAt_succ (ns : List Nat) (k : Nat) (h : k < (ris ns).length) : (outAt ns k).set (ris ns)[k] (cdOf ns (ris ns)[k]) = outAt ns (k + 1) := by
  unfold outAt
  refine List.ext_getElem (by simp) (fun j h1 h2 => ?_)
  have hm : j ∈ (ris ns).take (k + 1) ↔ j ∈ (ris ns).take k ∨ j = (ris ns)[k] := by rw [List.take_succ_eq_append_getElem h, List.mem_append, List.mem_singleton]
  simp only [List.getElem_set, List.getElem_map, List.getElem_range, hm]
  by_cases e : (ris ns)[k] = j
  · subst e; simp
  · have e2 : ¬ j = (ris ns)[k] := fun h => e h.symm
    simp [e, e2]

theorem outAt_length (ns : List Nat) (k : Nat) : (outAt ns k).length = ns.length := by simp [outAt]

example : codesL [2, 1, 3, 3] = [1, 0, 3, 7] := by decide

/-- Lengths that pass Check. -/
structure Good (zs : List Int) (ns : List Nat) : Prop where
  eq : ns.map natV = zs.map intV
  len : ns.length = zs.length
  pos : 0 < ns.length
  max : ns.length ≤ 288
  le : ∀ n ∈ ns, n ≤ 15
  ok : chkN ns = 0
  int : zs = ns.map (fun (n : Nat) => (n : Int))

theorem good_of {zs : List Int} (h : chk zs = 0) : Good zs (zs.map Int.toNat) := by
  unfold chk at h
  split at h
  · rename_i hok
    obtain ⟨e, h1, h2, h3⟩ := okAll_nat hok
    refine ⟨e, by simp, by simpa using h1, by simpa using h2, fun n hn => by have := h3 n hn; omega, h, ?_⟩
    have e2 := congrArg (List.map (fun v : Value => match v with | .int _ z => z | _ => 0)) e
    simp only [List.map_map] at e2
    rw [List.map_map]
    have e3 : zs.map ((fun v : Value => match v with | .int _ z => z | _ => 0) ∘ intV) = zs := by
      conv => rhs; rw [← List.map_id zs]
      refine List.map_congr_left (fun z _ => rfl)
    rw [e3] at e2
    exact e2.symm.trans (List.map_congr_left (fun z _ => rfl))
  · omega

theorem Good.measure_le {zs : List Int} {ns : List Nat} (h : Good zs ns) : measure ns ≤ 32768 := by
  have := h.ok
  unfold chkN at this
  split at this
  · omega
  · omega

theorem Good.key_le {zs : List Int} {ns : List Nat} (h : Good zs ns) (s : Nat) : key ns s ≤ 15 := by
  by_cases hs : s < ns.length
  · rw [key_get hs]; exact h.le _ (List.getElem_mem _)
  · simp [key, hs]

theorem codes_bad (w : World) (v : Value) (I : Nat → Prop) (zs : List Int) (hs : SrcE intV w I v zs) (hn : zs.length ≤ 1000000) (hb : chk zs ≠ 0) :
    Calls Tryd.prog 63 #[v] w fun e w' => e = .returned (.tuple #[.slice none 0 0, .int .i64 (chk zs : Nat)]) ∧ Same w w' := by
  have HC := check_any w v I zs hs hn
  generalize chk zs = c at HC hb
  have hd : ((c : Int) != 0) = true := by simp; omega
  clear hs hb
  go_enter Tryd.func63, Tryd.ntmps63
  go_wp2_with fail
  refine HC.mono ?_
  rintro e w2 ⟨rfl, hk⟩
  have HK : Hid (Same w w2) := hk
  clear hk HC
  go_wp2_with fail
  first
    | (go_ret2; exact ⟨rfl, HK.out⟩)
    | (go_quiet (fail); go_wp2_with fail; go_ret2; exact ⟨rfl, HK.out.drewN _⟩)

set_option maxHeartbeats 2000000 in
theorem codes_good (w : World) (v : Value) (I : Nat → Prop) (zs : List Int) (ns : List Nat) (hs : SrcE intV w I v zs) (hg : Good zs ns) (hb : chk zs = 0) :
    Calls Tryd.prog 63 #[v] w fun e w' => (∃ g n cap, e = .returned (.tuple #[.slice (some ⟨g, 0, none⟩) n cap, .int .i64 0]) ∧ WRow w.heap.size w' (.slice (some ⟨g, 0, none⟩) n cap) (codesL ns)) ∧ Same w w' := by
  obtain ⟨ao, cap, rfl, hx1, hx2⟩ := id hs
  clear hx1 hx2
  have HC := check_any w _ I zs hs (by have := hg.len; have := hg.max; omega)
  rw [hb] at HC
  have HG : Hid (Good zs ns) := hg
  have HS : Hid (SrcE natV w I (.slice ao zs.length cap) ns) := hid (hs.recode hg.eq)
  have HL : Hid (zs.length = ns.length) := hg.len.symm
  have h288 : zs.length ≤ 288 := by have := hg.len; have := hg.max; omega
  clear hs hg hb
  generalize zs.length = n at *
  go_enter Tryd.func63, Tryd.ntmps63
  go_wp2_with fail
  refine HC.mono ?_
  rintro e w2 ⟨rfl, hk⟩
  have HK : Hid (Same w w2) := hk
  clear hk HC
  go_wp2_with (at_make; refine wpList_make_e _ wordV 0 w.heap.size 96 40 4 Tryd.underlying96 Tryd.infoW rfl (by decide) rfl _ _ rfl _ _ _ _ n rfl rfl rfl rfl (by omega) HK.out.size ?_; intro w3 hr3 hg3 hs3)
  have HR3 : Hid (WRow w.heap.size w3 (.slice (some ⟨w2.heap.size, 0, none⟩) n n) (outAt ns 0)) := hid (by rw [outAt_zero, ← HL.out]; exact hr3)
  have HK3 : Hid (Same w2 w3) := hid ((Kept.refl _ w2).grown hg3 (by simp))
  have HK03 : Hid (Same w w3) := hid (HK.out.trans HK3.out)
  have hsz := HK.out.size
  clear hr3 hg3
  have HRI := rising_any w3 _ I ns (HS.out.same HK03.out) (by have := HL.out; omega)
  go_wp2_with fail
  refine HRI.mono ?_
  rintro e w4 ⟨v4, rfl, hn4⟩
  have HN4 : Hid (New w3 w4 v4 (ris ns)) := hn4
  have HK4 : Hid (Kept (· = w2.heap.size) w w4) := hid ((HK03.out.trans hn4.same).mono (fun _ _ h => h.elim))
  have HR4 : Hid (WRow w.heap.size w4 (.slice (some ⟨w2.heap.size, 0, none⟩) n n) (outAt ns 0)) := hid (HR3.out.same hn4.same)
  obtain ⟨ao4, cap4, rfl, hsh4, _⟩ := hn4.row.shape
  have hsz4 := hn4.same.size
  have hls : (ris ns).length ≤ 288 := Nat.le_trans (ris_length ns) (by have := HL.out; omega)
  clear hn4 HRI HR3
  obtain ⟨rl, hrl⟩ : ∃ rl, rl = (ris ns).length := ⟨_, rfl⟩
  have HRL : Hid (rl = (ris ns).length) := hrl
  rw [← hrl] at hls ⊢
  clear hrl hsh4
  go_wp2_with fail
  go_loopg [6, 7, 21] rl (fun q znx zlg zk wr => ∃ (k nx lg : Nat), rl - k ≤ q ∧ k ≤ rl ∧ nx ≤ 32769 ∧ lg ≤ 15 ∧ znx = .int .u32 (nx : Nat) ∧ zlg = .int .i64 (lg : Nat) ∧ zk = .int .i64 (k : Nat) ∧
      Hid (nx * 2 ^ (15 - lg) = sumTo ns k ∧ (k = 0 ∧ lg = 0 ∨ 0 < k ∧ ∃ h : k - 1 < (ris ns).length, lg = key ns (ris ns)[k - 1])) ∧ Hid (WRow w.heap.size wr (.slice (some ⟨w2.heap.size, 0, none⟩) n n) (outAt ns k)) ∧ Hid (Kept (· = w2.heap.size) w4 wr))
  case atStart => exact ⟨0, 0, 0, by omega, by omega, by omega, by omega, rfl, rfl, rfl, hid ⟨by simp [sumTo], .inl ⟨rfl, rfl⟩⟩, HR4.out, Kept.refl _ _⟩
  case round =>
    obtain ⟨k, nx, lg, hq, hk, hnx, hlg, rfl, rfl, rfl, HF, HR5, HK5⟩ := hrel
    clear HR4
    by_cases hlt : k < rl
    · have hkl : k < (ris ns).length := by have := HRL.out; omega
      have hrow5 : NRow w3.heap.size wr (.slice ao4 (ris ns).length cap4) (ris ns) := HN4.out.row.kept HK5.out (fun j hj e => by have := HN4.out.row.ge hj; omega)
      obtain ⟨b4, o4, cap4', e4, _, _, c4⟩ := (SrcE.ofRow hrow5).get k hkl
      simp only [Value.slice.injEq] at e4
      obtain ⟨rfl, _, rfl⟩ := e4
      obtain ⟨s, hs⟩ : ∃ s, s = (ris ns)[k] := ⟨_, rfl⟩
      rw [← hs] at c4
      unfold natV at c4
      have hsr : s < ns.length ∧ key ns s ≠ 0 := mem_ris.1 (by rw [hs]; exact List.getElem_mem _)
      have hsn : s < n := by have := HL.out; omega
      have hsrc : SrcE natV wr (fun j => I j ∧ j < w.heap.size) (.slice ao n cap) ns := SrcE.kept (SrcE.kept HS.out.low HK4.out (fun j hj _ e => by omega)) HK5.out (fun j hj _ e => by omega)
      obtain ⟨b, o, cap', e5, _, _, c5⟩ := hsrc.get s hsr.1
      simp only [Value.slice.injEq] at e5
      obtain ⟨rfl, hxe, rfl⟩ := e5
      clear hxe
      rw [← key_get hsr.1] at c5
      unfold natV at c5
      obtain ⟨l, hl⟩ : ∃ l, l = key ns s := ⟨_, rfl⟩
      rw [← hl] at c5
      have hl15 : l ≤ 15 := by rw [hl]; exact HG.out.key_le s
      have hl0 : 0 < l := by omega
      have hlgl : lg ≤ l := by
        rcases HF.out.2 with ⟨_, h⟩ | ⟨h0, h1, h2⟩
        · omega
        · have := Sorted.at (ris_sorted ns) (show k - 1 < k by omega) hkl
          unfold Lt at this
          rw [h2, hl, hs]; omega
      obtain ⟨nx2, hnx2⟩ : ∃ nx2, nx2 = nx * 2 ^ (l - lg) := ⟨_, rfl⟩
      have hst : nx2 * 2 ^ (15 - l) = sumTo ns k := by
        rw [hnx2, Nat.mul_assoc, ← Nat.pow_add, show l - lg + (15 - l) = 15 - lg by omega]
        exact HF.out.1
      have hnx2l : nx2 ≤ 32768 := by
        have h1 := sumTo_mono ns k
        have h2 := HG.out.measure_le
        have h3 : nx2 * 1 ≤ nx2 * 2 ^ (15 - l) := Nat.mul_le_mul_left _ (Nat.two_pow_pos _)
        omega
      have hcode : codeOf ns s = nx2 := by
        have h1 := code_start ns s
        rw [hs, start_at ns k hkl, ← hs, ← hst, ← hl] at h1
        exact Nat.eq_of_mul_eq_mul_right (Nat.two_pow_pos _) h1
      have hcd : cdOf ns s = rv l nx2 := by rw [cdOf, if_neg hsr.2, hcode, ← hl]
      have hrv : rev32 nx2 / 2 ^ (32 - l) = rv l nx2 := rev32_rv nx2 l (by omega) (by omega)
      obtain ⟨cr, hcr⟩ : ∃ cr, cr = cdOf ns s := ⟨_, rfl⟩
      have HREV := fun (wx : World) => reverse_any wx nx2 (by omega)
      have hshift : ((rev32 nx2 : Nat) : Int) / 2 ^ (32 - l) = (cr : Int) := by rw [hcr, hcd, ← hrv]; simp
      have hrevl : rev32 nx2 < 4294967296 := rev32_lt nx2 (by omega)
      generalize rev32 nx2 = rr at HREV hshift hrevl
      have hmulI : (nx : Int) * 2 ^ (l - lg) % 4294967296 = (nx2 : Int) := by
        have h1 : ((nx * 2 ^ (l - lg) : Nat) : Int) = (nx2 : Int) := by rw [hnx2]
        rw [Int.natCast_mul, Int.natCast_pow] at h1
        rw [show ((2 : Nat) : Int) = 2 from rfl] at h1
        rw [h1]; omega
      have hsub1 : ((l : Int) - (lg : Int)) = ((l - lg : Nat) : Int) := by omega
      have hsub2 : ((32 : Int) - (l : Int)) = ((32 - l : Nat) : Int) := by omega
      have hso : s < (outAt ns k).length := by rw [outAt_length]; exact hsr.1
      obtain ⟨y, cy⟩ : ∃ y : Nat, wr.cell? ⟨w2.heap.size, s, none⟩ = some (.int .u32 (y : Nat)) := ⟨_, HR5.out.cell s hso⟩
      have fy := HR5.out.frozen s
      have HR6 : Hid (WRow w.heap.size (wr.setCell ⟨w2.heap.size, s, none⟩ (.int .u32 (cr : Nat))) (.slice (some ⟨w2.heap.size, 0, none⟩) n n) (outAt ns (k + 1))) := hid (by
        have h := HR5.out.lay s (cdOf ns s)
        rw [hs, outAt_succ ns k hkl, ← hs, ← hcr] at h
        exact h)
      have HF2 : Hid ((nx2 + 1) * 2 ^ (15 - l) = sumTo ns (k + 1) ∧ (k + 1 = 0 ∧ l = 0 ∨ 0 < k + 1 ∧ ∃ h : k + 1 - 1 < (ris ns).length, l = key ns (ris ns)[k + 1 - 1])) := hid (by
        refine ⟨?_, .inr ⟨by omega, by simpa using hkl, by simpa [← hs] using hl⟩⟩
        rw [sumTo_succ ns k hkl, Nat.add_mul, hst, ← hs, uk, unit, if_neg hsr.2, ← hl]; omega)
      clear hs hsr hsrc hl hst hnx2 hcode hcd hrv hcr hso HF hrow5
      go_wp2_with fail
      refine (HREV _).mono ?_
      rintro e w6 ⟨rfl, rfl⟩
      clear HREV
      go_wp2_with fail
      go_roundg (gk - 1)
      case measure => omega
      case rel => exact ⟨k + 1, nx2 + 1, l, by omega, by omega, by omega, hl15, by congr 1 <;> omega, rfl, by go_num, HF2, HR6, HK5.out.setCell _ _ (.inl rfl)⟩
    · have hk2 : k = rl := by omega
      subst hk2
      go_wp2_with fail
      first
        | go_ret2
        | (go_quiet (fail); go_wp2_with fail; go_ret2)
      refine ⟨⟨_, _, _, rfl, ?_⟩, ?_⟩
      · have h := HR5.out
        rw [HRL.out, outAt_all] at h
        exact h
      · have h1 := HK4.out.trans HK5.out (H := (· = w2.heap.size)) (fun _ _ h => h) (fun _ _ h => h)
        exact Same.of h1 (fun j hj e => by omega)

end Go.Proofs.YtofhlnpbflkdlaaDoor

/-
  How a code is found: the places of the symbols of one length; bits read as numbers.
-/
namespace Go.Proofs.YtofhlnpbflkdlaaDoor

theorem rv_succ_low (n R : Nat) : rv (n + 1) R = 2 * rv n R + R / 2 ^ n % 2 := by
  refine Nat.eq_of_testBit_eq (fun k => ?_)
  rw [rv_bit, show 2 * rv n R + R / 2 ^ n % 2 = 2 ^ 1 * rv n R + R / 2 ^ n % 2 by rw [Nat.pow_one], Nat.testBit_two_pow_mul_add _ (by rw [Nat.pow_one]; exact Nat.mod_lt _ (by decide)), rv_bit]
  by_cases h : k < 1
  · have : k = 0 := by omega
    subst this
    rw [if_pos h, Nat.testBit_zero, show R / 2 ^ n % 2 % 2 = R / 2 ^ n % 2 by omega]
    simp [Nat.testBit_eq_decide_div_mod_eq]
  · rw [if_neg h]
    by_cases h2 : k < n + 1
    · simp [h2, show k - 1 < n by omega, show n - 1 - (k - 1) = n - k by omega]
    · simp [h2, show ¬ k - 1 < n by omega]

theorem rv_div (l m Z : Nat) (h : l ≤ m) : rv m Z / 2 ^ (m - l) = rv l Z := by
  refine Nat.eq_of_testBit_eq (fun k => ?_)
  rw [Nat.testBit_div_two_pow, rv_bit, rv_bit]
  by_cases h2 : k < l
  · simp [h2, show k + (m - l) < m by omega, show m - 1 - (k + (m - l)) = l - 1 - k by omega]
  · simp [h2, show ¬ k + (m - l) < m by omega]

theorem rv_mod (l h Z : Nat) (hl : l ≤ h) : rv l (Z % 2 ^ h) = rv l Z := by
  refine Nat.eq_of_testBit_eq (fun k => ?_)
  rw [rv_bit, rv_bit, Nat.testBit_mod_two_pow]
  by_cases h2 : k < l
  · simp [h2, show l - 1 - k < h by omega]
  · simp [h2]

theorem rv_rv (l c : Nat) : rv l (rv l c) = c % 2 ^ l := by
  refine Nat.eq_of_testBit_eq (fun k => ?_)
  rw [rv_bit, rv_bit, Nat.testBit_mod_two_pow]
  by_cases h2 : k < l
  · simp [h2, show l - 1 - k < l by omega, show l - 1 - (l - 1 - k) = k by omega]
  · simp [h2]

/-- Bits that are not there are read as 0. -/
theorem rv_pad (h m Z : Nat) (hz : Z < 2 ^ h) (hm : h ≤ m) : rv m Z = rv h Z * 2 ^ (m - h) := by
  refine Nat.eq_of_testBit_eq (fun k => ?_)
  rw [rv_bit, Nat.testBit_mul_two_pow, rv_bit]
  by_cases h1 : m - h ≤ k
  · by_cases h2 : k < m
    · simp [h1, h2, show k - (m - h) < h by omega, show h - 1 - (k - (m - h)) = m - 1 - k by omega]
    · simp [h2, show ¬ k - (m - h) < h by omega]
  · have : Z.testBit (m - 1 - k) = false := Nat.testBit_lt_two_pow (Nat.lt_of_lt_of_le hz (Nat.pow_le_pow_right (n := 2) (by omega) (by omega)))
    simp [h1, this]

/-- In a list where what fits stands ahead, the places that fit are the first ones. -/
theorem countP_index (p : Nat → Bool) (l : List Nat) (h : l.Pairwise (fun a b => p b = true → p a = true)) (k : Nat) (hk : k < l.length) : p l[k] = true ↔ k < l.countP p := by
  induction l generalizing k with
  | nil => simp at hk
  | cons a r ih =>
    have hp := List.pairwise_cons.1 h
    by_cases ha : p a = true
    · rw [List.countP_cons_of_pos ha]
      cases k with
      | zero => simp [ha]
      | succ k =>
        have := ih hp.2 k (by simpa using hk)
        simp only [List.getElem_cons_succ]
        rw [this]; omega
    · rw [List.countP_cons_of_neg ha]
      have h0 : r.countP p = 0 := List.countP_eq_zero.2 (fun b hb hpb => ha (hp.1 b hb hpb))
      rw [h0]
      cases k with
      | zero => simp [ha]
      | succ k =>
        simp only [List.getElem_cons_succ]
        have : ¬ p (r[k]'(by simpa using hk)) = true := fun e => ha (hp.1 _ (List.getElem_mem _) e)
        simp [this]

/-- How many symbols have a length up to n; of the length m. -/
def upN (ns : List Nat) (n : Nat) : Nat := (ris ns).countP (fun t => decide (key ns t ≤ n))
def ofN (ns : List Nat) (m : Nat) : Nat := (ris ns).countP (fun t => decide (key ns t = m))

theorem upN_index (ns : List Nat) (n k : Nat) (hk : k < (ris ns).length) : key ns (ris ns)[k] ≤ n ↔ k < upN ns n := by
  have h := countP_index (fun t => decide (key ns t ≤ n)) (ris ns) ((ris_sorted ns).imp (fun {a b} hab hb => by simp at hb ⊢; unfold Lt at hab; omega)) k hk
  simpa [upN] using h

theorem upN_zero (ns : List Nat) : upN ns 0 = 0 := by
  refine List.countP_eq_zero.2 (fun t ht h => ?_)
  have := (mem_ris.1 ht).2
  simp at h; exact this h

theorem upN_succ (ns : List Nat) (n : Nat) : upN ns (n + 1) = upN ns n + ofN ns (n + 1) := by
  unfold upN ofN
  generalize ris ns = l
  induction l with
  | nil => simp
  | cons a r ih =>
    rw [List.countP_cons, List.countP_cons, List.countP_cons, ih]
    by_cases h1 : key ns a ≤ n
    · simp [h1, show key ns a ≤ n + 1 by omega, show ¬ key ns a = n + 1 by omega]; omega
    · by_cases h2 : key ns a = n + 1
      · simp [h2, show ¬ n + 1 ≤ n by omega]; omega
      · simp [h1, h2, show ¬ key ns a ≤ n + 1 by omega]

theorem upN_le (ns : List Nat) (n : Nat) : upN ns n ≤ (ris ns).length := List.countP_le_length

/-- The symbols of the length n + 1, one by one. -/
theorem sumTo_block (ns : List Nat) (n i : Nat) (hn : n < 15) (hi : i ≤ ofN ns (n + 1)) : sumTo ns (upN ns n + i) = sumTo ns (upN ns n) + i * 2 ^ (15 - (n + 1)) := by
  induction i with
  | zero => simp
  | succ i ih =>
    have h1 := upN_succ ns n
    have h2 := upN_le ns (n + 1)
    have hk : upN ns n + i < (ris ns).length := by omega
    have k1 := (upN_index ns (n + 1) _ hk).2 (by omega)
    have k2 := mt (upN_index ns n _ hk).1 (by omega)
    have hkey : key ns (ris ns)[upN ns n + i] = n + 1 := by omega
    rw [show upN ns n + (i + 1) = (upN ns n + i) + 1 by omega, sumTo_succ ns _ hk, ih (by omega), uk, hkey, unit, if_neg (by omega), Nat.add_mul, Nat.one_mul]
    omega

theorem key_block (ns : List Nat) (n i : Nat) (hi : i < ofN ns (n + 1)) : ∃ hk : upN ns n + i < (ris ns).length, key ns (ris ns)[upN ns n + i] = n + 1 := by
  have h1 := upN_succ ns n
  have h2 := upN_le ns (n + 1)
  have hk : upN ns n + i < (ris ns).length := by omega
  have k1 := (upN_index ns (n + 1) _ hk).2 (by omega)
  have k2 := mt (upN_index ns n _ hk).1 (by omega)
  exact ⟨hk, by omega⟩

/-- The longest length. -/
def mxL (ns : List Nat) : Nat := ns.foldl max 0

theorem foldl_max (l : List Nat) (a : Nat) : a ≤ l.foldl max a ∧ (∀ x ∈ l, x ≤ l.foldl max a) ∧ (l.foldl max a = a ∨ l.foldl max a ∈ l) := by
  induction l generalizing a with
  | nil => simp
  | cons b r ih =>
    obtain ⟨h1, h2, h3⟩ := ih (max a b)
    simp only [List.foldl_cons]
    refine ⟨by omega, ?_, ?_⟩
    · intro x hx
      rcases List.mem_cons.1 hx with rfl | hx
      · omega
      · exact h2 x hx
    · rcases h3 with h | h
      · rw [h]
        by_cases hab : a ≤ b
        · right; rw [Nat.max_eq_right hab]; simp
        · left; omega
      · right; exact List.mem_cons_of_mem _ h

theorem key_le_mx (ns : List Nat) (s : Nat) : key ns s ≤ mxL ns := by
  by_cases h : s < ns.length
  · rw [key_get h]; exact (foldl_max ns 0).2.1 _ (List.getElem_mem _)
  · simp [key, h]

theorem mx_le (ns : List Nat) (b : Nat) (h : ∀ n ∈ ns, n ≤ b) : mxL ns ≤ b := by
  rcases (foldl_max ns 0).2.2 with h1 | h1
  · unfold mxL; omega
  · exact h _ h1

theorem upN_all (ns : List Nat) : upN ns (mxL ns) = (ris ns).length := List.countP_eq_length.2 (fun t _ => by simpa using key_le_mx ns t)

/-- How many codes have the length 1, 2, ..., when k symbols were counted. -/
def cntTo (ns : List Nat) (k : Nat) : List Nat := (List.range (mxL ns)).map (fun j => ((ris ns).take k).countP (fun t => decide (key ns t = j + 1)))
def cntL (ns : List Nat) : List Nat := (List.range (mxL ns)).map (fun j => ofN ns (j + 1))

theorem cntTo_all (ns : List Nat) : cntTo ns (ris ns).length = cntL ns := by
  unfold cntTo cntL ofN
  rw [List.take_of_length_le (Nat.le_refl _)]

theorem cntTo_zero (ns : List Nat) : cntTo ns 0 = List.replicate (mxL ns) 0 := by
  unfold cntTo
  simp [List.map_const']

theorem cntTo_length (ns : List Nat) (k : Nat) : (cntTo ns k).length = mxL ns := by simp [cntTo]

theorem cntTo_succ (ns : List Nat) (k : Nat) (hk : k < (ris ns).length) (hl : key ns (ris ns)[k] - 1 < (cntTo ns k).length) :
    (cntTo ns k).set (key ns (ris ns)[k] - 1) ((cntTo ns k)[key ns (ris ns)[k] - 1] + 1) = cntTo ns (k + 1) := by
  have h0 := (mem_ris.1 (List.getElem_mem hk)).2
  unfold cntTo at *
  refine List.ext_getElem (by simp) (fun j h1 h2 => ?_)
  have hc : ((ris ns).take (k + 1)).countP (fun t => decide (key ns t = j + 1)) = ((ris ns).take k).countP (fun t => decide (key ns t = j + 1)) + (if key ns (ris ns)[k] = j + 1 then 1 else 0) := by
    rw [List.take_succ_eq_append_getElem hk, List.countP_append]
    by_cases h : key ns (ris ns)[k] = j + 1 <;> simp [h]
  simp only [List.getElem_set, List.getElem_map, List.getElem_range, hc]
  by_cases e : key ns (ris ns)[k] - 1 = j
  · have e2 : key ns (ris ns)[k] = j + 1 := by omega
    subst e
    rw [if_pos rfl, if_pos e2]
  · have e2 : ¬ key ns (ris ns)[k] = j + 1 := by omega
    rw [if_neg e, if_neg e2]; rfl

/-- What a search answers: the row R of h bits. -/
def Ans (ns : List Nat) (h R sym long e : Nat) : Prop :=
  (e = 0 ∧ sym ∈ ris ns ∧ long = key ns sym ∧ long ≤ h ∧ rv long R = codeOf ns sym) ∨
  (e = 10 ∧ sym = 0 ∧ long = 0 ∧ h < mxL ns ∧ sumTo ns (upN ns h) ≤ rv h R * 2 ^ (15 - h)) ∨
  (e = 32 ∧ sym = 0 ∧ long = 0 ∧ h = mxL ns ∧ measure ns ≤ rv h R * 2 ^ (15 - h))

/-- What is known when no code up to the length n fits. -/
structure Seek (ns : List Nat) (R n place ahead : Nat) : Prop where
  ah : ahead = upN ns n
  pl : (place * 2 ^ (15 - n)) + sumTo ns (upN ns n) = rv n R * 2 ^ (15 - n)

theorem Seek.start (ns : List Nat) (R : Nat) : Seek ns R 0 0 0 := ⟨(upN_zero ns).symm, by rw [upN_zero]; simp [rv, sumTo]⟩

theorem Seek.bit {ns : List Nat} {R n place ahead : Nat} (h : Seek ns R n place ahead) (hn : n < 15) : (2 * place + R / 2 ^ n % 2) * 2 ^ (15 - (n + 1)) + sumTo ns (upN ns n) = rv (n + 1) R * 2 ^ (15 - (n + 1)) := by
  have h1 := h.pl
  have e : 2 ^ (15 - n) = 2 * 2 ^ (15 - (n + 1)) := by rw [show 15 - n = (15 - (n + 1)) + 1 by omega, Nat.pow_succ]; omega
  rw [e] at h1
  rw [rv_succ_low, Nat.add_mul, Nat.add_mul]
  have e2 : 2 * place * 2 ^ (15 - (n + 1)) = place * (2 * 2 ^ (15 - (n + 1))) := by rw [Nat.mul_comm 2 place, Nat.mul_assoc]
  have e3 : 2 * rv n R * 2 ^ (15 - (n + 1)) = rv n R * (2 * 2 ^ (15 - (n + 1))) := by rw [Nat.mul_comm 2 (rv n R), Nat.mul_assoc]
  omega

theorem Seek.found {ns : List Nat} {R n place ahead : Nat} (h : Seek ns R n place ahead) (hn : n < 15) (hp : 2 * place + R / 2 ^ n % 2 < ofN ns (n + 1)) :
    ∃ hk : ahead + (2 * place + R / 2 ^ n % 2) < (ris ns).length, key ns (ris ns)[ahead + (2 * place + R / 2 ^ n % 2)] = n + 1 ∧ rv (n + 1) R = codeOf ns (ris ns)[ahead + (2 * place + R / 2 ^ n % 2)] := by
  have hb := h.bit hn
  have ha := h.ah
  subst ha
  generalize 2 * place + R / 2 ^ n % 2 = i at *
  obtain ⟨hk, hkey⟩ := key_block ns n i hp
  refine ⟨hk, hkey, ?_⟩
  have h1 := code_start ns (ris ns)[upN ns n + i]
  rw [start_at ns _ hk, hkey, sumTo_block ns n i hn (by omega)] at h1
  have h2 : rv (n + 1) R * 2 ^ (15 - (n + 1)) = codeOf ns (ris ns)[upN ns n + i] * 2 ^ (15 - (n + 1)) := by omega
  exact Nat.eq_of_mul_eq_mul_right (Nat.two_pow_pos _) h2

theorem Seek.next {ns : List Nat} {R n place ahead : Nat} (h : Seek ns R n place ahead) (hn : n < 15) (hp : ¬ 2 * place + R / 2 ^ n % 2 < ofN ns (n + 1)) :
    Seek ns R (n + 1) (2 * place + R / 2 ^ n % 2 - ofN ns (n + 1)) (ahead + ofN ns (n + 1)) := by
  have hb := h.bit hn
  have hs := upN_succ ns n
  refine ⟨by rw [h.ah, hs], ?_⟩
  generalize 2 * place + R / 2 ^ n % 2 = i at *
  have h1 := sumTo_block ns n (ofN ns (n + 1)) hn (Nat.le_refl _)
  rw [hs, h1, Nat.sub_mul]
  have h2 : ofN ns (n + 1) * 2 ^ (15 - (n + 1)) ≤ i * 2 ^ (15 - (n + 1)) := Nat.mul_le_mul_right _ (by omega)
  omega

/-- Where a symbol stands. -/
theorem place_of {ns : List Nat} {s : Nat} (h : s ∈ ris ns) : ∃ k, ∃ hk : k < (ris ns).length, (ris ns)[k] = s ∧ startOf ns s = sumTo ns k ∧ sumTo ns (k + 1) = startOf ns s + 2 ^ (15 - key ns s) := by
  obtain ⟨k, hk, rfl⟩ := List.getElem_of_mem h
  refine ⟨k, hk, rfl, start_at ns k hk, ?_⟩
  rw [sumTo_succ ns k hk, start_at ns k hk, uk, unit, if_neg (mem_ris.1 h).2]

theorem sumTo_le {ns : List Nat} {i j : Nat} (h : i ≤ j) : sumTo ns i ≤ sumTo ns j := by
  unfold sumTo
  have e : (ris ns).take i = ((ris ns).take j).take i := by rw [List.take_take, Nat.min_eq_left h]
  rw [e]
  conv => rhs; rw [← List.take_append_drop i ((ris ns).take j)]
  rw [List.map_append, List.sum_append]
  omega

/-- A code that fits is one that bits, read as 15 of them, fall into. -/
theorem fits_iff {ns : List Nat} {s Z : Nat} (_hs : s ∈ ris ns) (h15 : key ns s ≤ 15) : rv (key ns s) Z = codeOf ns s ↔ startOf ns s ≤ rv 15 Z ∧ rv 15 Z < startOf ns s + 2 ^ (15 - key ns s) := by
  rw [← rv_div (key ns s) 15 Z h15, ← code_start ns s]
  have hp : 0 < 2 ^ (15 - key ns s) := Nat.two_pow_pos _
  have hd := Nat.div_add_mod (rv 15 Z) (2 ^ (15 - key ns s))
  have hm := Nat.mod_lt (rv 15 Z) hp
  constructor
  · intro e
    rw [← e]
    have : rv 15 Z / 2 ^ (15 - key ns s) * 2 ^ (15 - key ns s) = 2 ^ (15 - key ns s) * (rv 15 Z / 2 ^ (15 - key ns s)) := Nat.mul_comm _ _
    omega
  · rintro ⟨h1, h2⟩
    refine Nat.le_antisymm ?_ ?_
    · have h3 : rv 15 Z < (codeOf ns s + 1) * 2 ^ (15 - key ns s) := by rw [Nat.add_mul, Nat.one_mul]; exact h2
      have := (Nat.div_lt_iff_lt_mul hp).2 h3
      omega
    · exact (Nat.le_div_iff_mul_le hp).2 h1

theorem fits_one {ns : List Nat} {s t Z : Nat} (hs : s ∈ ris ns) (ht : t ∈ ris ns) (h15 : ∀ x, key ns x ≤ 15) (h1 : rv (key ns s) Z = codeOf ns s) (h2 : rv (key ns t) Z = codeOf ns t) : s = t := by
  have e1 := (fits_iff hs (h15 s)).1 h1
  have e2 := (fits_iff ht (h15 t)).1 h2
  obtain ⟨i, hi, rfl, a1, a2⟩ := place_of hs
  obtain ⟨j, hj, rfl, b1, b2⟩ := place_of ht
  rcases Nat.lt_trichotomy i j with h | h | h
  · have := sumTo_le (ns := ns) (show i + 1 ≤ j from h); omega
  · subst h; rfl
  · have := sumTo_le (ns := ns) (show j + 1 ≤ i from h); omega

/-- If some code fits, the answer is its symbol. -/
theorem Ans.unique {ns : List Nat} {Z left sym long e s : Nat} (h15 : ∀ x, key ns x ≤ 15) (hZ : Z < 2 ^ left) (ha : Ans ns (min left (mxL ns)) (Z % 2 ^ (min left (mxL ns))) sym long e) (hm : mxL ns ≤ 15)
    (hs : s ∈ ris ns) (hl : key ns s ≤ left) (hf : rv (key ns s) Z = codeOf ns s) : e = 0 ∧ sym = s ∧ long = key ns s := by
  have hmx := key_le_mx ns s
  have h1 := (fits_iff hs (h15 s)).1 hf
  obtain ⟨k, hk, rfl, a1, a2⟩ := place_of hs
  rcases ha with ⟨e0, hsym, hlong, hlh, hr⟩ | ⟨_, _, _, hh, hsum⟩ | ⟨_, _, _, hh, hsum⟩
  · rw [rv_mod _ _ _ hlh, hlong] at hr
    have := fits_one hsym hs h15 hr hf
    exact ⟨e0, this, by rw [hlong, this]⟩
  · exfalso
    have hmin : min left (mxL ns) = left := by omega
    rw [hmin, rv_mod _ _ _ (Nat.le_refl _), ← rv_pad left 15 Z hZ (by omega)] at hsum
    have h2 := (upN_index ns left k hk).1 hl
    have h3 := sumTo_le (ns := ns) (show k + 1 ≤ upN ns left from h2)
    omega
  · exfalso
    rw [hh, rv_mod _ _ _ (Nat.le_refl _), ← rv_div (mxL ns) 15 Z hm] at hsum
    have h2 := Nat.div_mul_le_self (rv 15 Z) (2 ^ (15 - mxL ns))
    have h3 := sumTo_mono ns (k + 1)
    omega

end Go.Proofs.YtofhlnpbflkdlaaDoor

/-
  The reference's Rows: each symbol's code as a row of bits.
-/
namespace Go.Proofs.YtofhlnpbflkdlaaDoor
open Go.RowKit

/-- A number's lowest n bits, the highest one first. -/
def rowB : Nat → Nat → List Nat
  | 0, _ => []
  | n + 1, c => rowB n (c / 2) ++ [c % 2]

theorem rowB_length (n c : Nat) : (rowB n c).length = n := by
  induction n generalizing c with
  | zero => rfl
  | succ n ih => simp [rowB, ih]

theorem rowB_n2 (n c : Nat) : n2 (rowB n c) = rv n c := by
  induction n generalizing c with
  | zero => rfl
  | succ n ih =>
    simp only [rowB, rv]
    rw [n2_append, ih, rowB_length]
    simp [n2, Nat.mul_comm]
    omega

theorem rowB_bit (n c : Nat) : ∀ b ∈ rowB n c, b < 2 := by
  induction n generalizing c with
  | zero => simp [rowB]
  | succ n ih =>
    intro b hb
    rcases List.mem_append.1 hb with hb | hb
    · exact ih _ b hb
    · have : b = c % 2 := by simpa using hb
      omega

/-- What has come ahead of the symbol i on the round of the length n. -/
def pre (ns : List Nat) (n i t : Nat) : Prop := key ns t < n ∨ key ns t = n ∧ t < i
instance (ns : List Nat) (n i t : Nat) : Decidable (pre ns n i t) := inferInstanceAs (Decidable (_ ∨ _))

def sumP (ns : List Nat) (n i : Nat) : Nat := (((ris ns).filter (fun t => decide (pre ns n i t))).map (uk ns)).sum

theorem sumP_start (ns : List Nat) : sumP ns 1 0 = 0 := by
  unfold sumP
  rw [List.filter_eq_nil_iff.2]
  · rfl
  · intro t ht h
    have := (mem_ris.1 ht).2
    simp [pre] at h
    omega

theorem sumP_miss (ns : List Nat) (n i : Nat) (h : key ns i ≠ n) : sumP ns n (i + 1) = sumP ns n i := by
  unfold sumP
  congr 2
  refine List.filter_congr (fun t _ => decide_eq_decide.2 ?_)
  unfold pre
  constructor
  · rintro (h1 | ⟨h1, h2⟩)
    · exact .inl h1
    · refine .inr ⟨h1, ?_⟩
      by_cases e : t = i
      · subst e; exact absurd h1 h
      · omega
  · rintro (h1 | ⟨h1, h2⟩)
    · exact .inl h1
    · exact .inr ⟨h1, by omega⟩

theorem sumP_round (ns : List Nat) (n : Nat) : sumP ns n ns.length = sumP ns (n + 1) 0 := by
  unfold sumP
  congr 2
  refine List.filter_congr (fun t ht => decide_eq_decide.2 ?_)
  have := (mem_ris.1 ht).1
  unfold pre
  omega

theorem sumP_hit (ns : List Nat) (i : Nat) : sumP ns (key ns i) i = startOf ns i := by
  unfold sumP startOf
  congr 2

theorem sumP_next (ns : List Nat) (i : Nat) (hi : i ∈ ris ns) : sumP ns (key ns i) (i + 1) = startOf ns i + 2 ^ (15 - key ns i) := by
  obtain ⟨k, hk, rfl, a1, a2⟩ := place_of hi
  rw [← a2]
  unfold sumP sumTo
  congr 2
  have hs := ris_sorted ns
  have hsplit : (ris ns) = (ris ns).take k ++ (ris ns)[k] :: (ris ns).drop (k + 1) := by
    rw [← List.drop_eq_getElem_cons hk, List.take_append_drop]
  rw [List.take_succ_eq_append_getElem hk]
  generalize hx : (ris ns)[k] = x at *
  generalize hA : (ris ns).take k = A at *
  generalize (ris ns).drop (k + 1) = B at *
  rw [hsplit] at hs ⊢
  rw [List.filter_append, List.filter_cons_of_pos (by simp [pre])]
  have h1 : A.filter (fun t => decide (pre ns (key ns x) (x + 1) t)) = A := List.filter_eq_self.2 (fun a ha => by
    have := Sorted.cross hs a ha x (by simp)
    refine decide_eq_true ?_
    unfold pre
    unfold Lt at this
    omega)
  have h2 : B.filter (fun t => decide (pre ns (key ns x) (x + 1) t)) = [] := List.filter_eq_nil_iff.2 (fun b hb => by
    have := (List.pairwise_cons.1 (Sorted.right hs)).1 b hb
    intro hc
    have hc := of_decide_eq_true hc
    unfold pre at hc
    unfold Lt at this
    omega)
  rw [h1, h2]

/-- Rows of bytes and rows of slices of bytes lie apart. -/
abbrev BRow (B : Nat) := RowE B 43 slV

theorem BRow.apart {B : Nat} {w : World} {v v' : Value} {bs : List Nat} {vs : List (Option Addr × Nat × Nat)} (h : Row w v bs) (h' : BRow B w v' vs) {j g : Nat} (hj : v.ownBlock = some j) (hg : v'.ownBlock = some g) : j ≠ g := by
  rintro rfl
  rcases h.2 with ⟨rfl, _⟩ | ⟨g1, c1, cur1, rfl, _, e1, _⟩
  · simp [Value.ownBlock] at hj
  · rcases h'.2 with ⟨rfl, _⟩ | ⟨g2, c2, cur2, rfl, _, e2, _⟩
    · simp [Value.ownBlock] at hg
    · simp [Value.ownBlock] at hj hg
      subst hj hg
      rw [e1] at e2
      simp at e2

theorem Tryd.infoB : (Tryd.prog.info? 43).map (fun i => (i.zero, i.size, i.bytes)) = some (some (slV (none, 0, 0)), 1, 24) := by kernel_rfl

/-- Rows that lie in a row of slices: of the symbols that p tells. -/
structure RW (w0 w' : World) (go n : Nat) (ns : List Nat) (p : Nat → Prop) (rs : List (Option Addr × Nat × Nat)) : Prop where
  row : BRow w0.heap.size w' (.slice (some ⟨go, 0, none⟩) n n) rs
  have' : ∀ s (h : s < rs.length), p s → Row w' (slV rs[s]) (rowB (key ns s) (codeOf ns s)) ∧ ∀ k, (slV rs[s]).ownBlock = some k → w0.heap.size ≤ k
  none' : ∀ s (h : s < rs.length), ¬ p s → rs[s] = (none, 0, 0)
  same : Same w0 w'

theorem RW.mono {w0 w' : World} {go n : Nat} {ns : List Nat} {p q : Nat → Prop} {rs : List (Option Addr × Nat × Nat)} (h : RW w0 w' go n ns p rs) (hpq : ∀ s, s < rs.length → (p s ↔ q s)) : RW w0 w' go n ns q rs :=
  ⟨h.row, fun s hs hq => h.have' s hs ((hpq s hs).2 hq), fun s hs hq => h.none' s hs (fun hp => hq ((hpq s hs).1 hp)), h.same⟩

theorem RW.later {w0 w' w2 : World} {go n : Nat} {ns : List Nat} {p : Nat → Prop} {rs : List (Option Addr × Nat × Nat)} (h : RW w0 w' go n ns p rs) (hk : Same w' w2) : RW w0 w2 go n ns p rs :=
  ⟨h.row.same hk, fun s hs hp => ⟨(h.have' s hs hp).1.kept hk (fun _ _ f => f), (h.have' s hs hp).2⟩, h.none', Same.trans h.same hk⟩

/-- One row more. -/
theorem RW.put {w0 w' : World} {go n : Nat} {ns : List Nat} {p : Nat → Prop} {rs : List (Option Addr × Nat × Nat)} (h : RW w0 w' go n ns p rs) (i : Nat) (a : Option Addr) (l c : Nat) (_hi : i < rs.length) (hrow : Row w' (.slice a l c) (rowB (key ns i) (codeOf ns i))) (hb : ∀ k, (Value.slice a l c).ownBlock = some k → w0.heap.size ≤ k) :
    RW w0 (w'.setCell ⟨go, i, none⟩ (.slice a l c)) go n ns (fun s => s = i ∨ p s) (rs.set i (a, l, c)) := by
  have hk : Kept (· = go) w' (w'.setCell ⟨go, i, none⟩ (.slice a l c)) := (Kept.refl (· = go) w').setCell ⟨go, i, none⟩ _ (.inl rfl)
  have hgo : w0.heap.size ≤ go := h.row.ge rfl
  refine ⟨h.row.lay i (a, l, c), fun s hs hp => ?_, fun s hs hp => ?_, Same.then h.same hk (fun x hx e => by omega)⟩
  · rw [List.length_set] at hs
    by_cases e : i = s
    · subst e
      simp only [List.getElem_set_self]
      exact ⟨hrow.kept hk (fun k hk' e => BRow.apart hrow h.row hk' rfl e), hb⟩
    · simp only [List.getElem_set_ne e]
      have hp2 : p s := by rcases hp with h1 | h1; exact absurd h1.symm e; exact h1
      have h2 := h.have' s hs hp2
      exact ⟨h2.1.kept hk (fun k hk' e => BRow.apart h2.1 h.row hk' rfl e), h2.2⟩
  · rw [List.length_set] at hs
    have e : i ≠ s := fun e => hp (.inl e.symm)
    simp only [List.getElem_set_ne e]
    exact h.none' s hs (fun h1 => hp (.inr h1))

end Go.Proofs.YtofhlnpbflkdlaaDoor

/-
  Rows of bits, as the reference has them: plain arithmetic.
-/
namespace Go.Proofs.YtofhlnpbflkdlaaDoor

/-- The n lowest bits of v, the lowest first. -/
def bitsOf (v : Nat) : Nat → List Nat
  | 0 => []
  | n + 1 => bitsOf v n ++ [v / 2 ^ n % 2]

theorem bitsOf_length (v n : Nat) : (bitsOf v n).length = n := by
  induction n with
  | zero => rfl
  | succ n ih => simp [bitsOf, ih]

theorem bitsOf_lt (v n : Nat) : ∀ b ∈ bitsOf v n, b < 2 := by
  induction n with
  | zero => simp [bitsOf]
  | succ n ih =>
    intro b hb
    rcases List.mem_append.1 hb with h | h
    · exact ih b h
    · simp at h; omega

theorem bitsOf_n2 (v n : Nat) : n2 (bitsOf v n) = v % 2 ^ n := by
  induction n with
  | zero => simp [bitsOf, n2, Nat.mod_one]
  | succ n ih =>
    rw [more_bits v n 1, bitsOf, n2_append, ih, bitsOf_length]
    simp [n2]

theorem n2_zeros (n : Nat) : n2 (List.replicate n 0) = 0 := by
  induction n with
  | zero => rfl
  | succ n ih => simp [List.replicate_succ, n2, ih]

theorem n2_put (ls : List Nat) (v n : Nat) (h : v < 2 ^ n) : n2 (ls ++ bitsOf v n) = n2 ls + v * 2 ^ ls.length := by
  rw [n2_append, bitsOf_n2, Nat.mod_eq_of_lt h, Nat.mul_comm]

theorem n2_align (ls : List Nat) (n : Nat) : n2 (ls ++ List.replicate n 0) = n2 ls := by
  rw [n2_append, n2_zeros]; simp

theorem n2_take_succ (l : List Nat) (t : Nat) (h : t < l.length) : n2 (l.take (t + 1)) = n2 (l.take t) + l[t] * 2 ^ t := by
  rw [List.take_succ_eq_append_getElem h, n2_append]
  simp [n2, Nat.mul_comm, Nat.min_eq_left (Nat.le_of_lt h)]

/-- The first j bytes of bits. -/
def outOf (ls : List Nat) : Nat → List Nat
  | 0 => []
  | j + 1 => outOf ls j ++ [n2 ((ls.drop (8 * j)).take 8)]

theorem outOf_length (ls : List Nat) (j : Nat) : (outOf ls j).length = j := by
  induction j with
  | zero => rfl
  | succ j ih => simp [outOf, ih]

theorem n2_take_lt (ls : List Nat) (h : ∀ b ∈ ls, b < 2) (i t : Nat) : n2 ((ls.drop i).take t) < 2 ^ t := by
  have h1 := n2_lt ((ls.drop i).take t) (fun b hb => h b (List.mem_of_mem_drop (List.mem_of_mem_take hb)))
  exact Nat.lt_of_lt_of_le h1 (Nat.pow_le_pow_right (by omega) (List.length_take_le _ _))

theorem outOf_lt (ls : List Nat) (h : ∀ b ∈ ls, b < 2) (j : Nat) : ∀ b ∈ outOf ls j, b < 256 := by
  induction j with
  | zero => simp [outOf]
  | succ j ih =>
    intro b hb
    rcases List.mem_append.1 hb with h' | h'
    · exact ih b h'
    · simp at h'; subst h'; exact n2_take_lt ls h _ 8

theorem outOf_n256 (ls : List Nat) (j : Nat) (hj : 8 * j ≤ ls.length + 7) : n256 (outOf ls j) = n2 (ls.take (8 * j)) := by
  induction j with
  | zero => simp [outOf, n256, n2]
  | succ j ih =>
    have e : ls.take (8 * (j + 1)) = ls.take (8 * j) ++ (ls.drop (8 * j)).take 8 := by
      rw [Nat.mul_succ, List.take_add]
    rw [e, n2_append, outOf, n256_append, ih (by omega), outOf_length, List.length_take, Nat.min_eq_left (by omega), pow8]
    simp [n256]

/-- All bytes. -/
theorem outOf_all (ls : List Nat) (j : Nat) (h1 : ls.length ≤ 8 * j) (h2 : 8 * j ≤ ls.length + 7) : n256 (outOf ls j) = n2 ls := by
  rw [outOf_n256 ls j h2, List.take_of_length_le h1]

/-- The bits of bytes: of each byte, from the first on, its eight bits. -/
def ofBytes : List Nat → List Nat
  | [] => []
  | b :: r => bitsOf b 8 ++ ofBytes r

theorem ofBytes_append (a b : List Nat) : ofBytes (a ++ b) = ofBytes a ++ ofBytes b := by
  induction a with
  | nil => rfl
  | cons x r ih => simp [ofBytes, ih]

theorem ofBytes_length (l : List Nat) : (ofBytes l).length = 8 * l.length := by
  induction l with
  | nil => rfl
  | cons x r ih => simp [ofBytes, ih, bitsOf_length]; omega

theorem ofBytes_lt (l : List Nat) : ∀ b ∈ ofBytes l, b < 2 := by
  induction l with
  | nil => simp [ofBytes]
  | cons x r ih =>
    intro b hb
    rcases List.mem_append.1 hb with h | h
    · exact bitsOf_lt x 8 b h
    · exact ih b h

theorem ofBytes_n2 (l : List Nat) (h : ∀ b ∈ l, b < 256) : n2 (ofBytes l) = n256 l := by
  induction l with
  | nil => rfl
  | cons x r ih =>
    have h1 := h x (by simp)
    rw [ofBytes, n2_append, bitsOf_n2, bitsOf_length, ih (fun b hb => h b (by simp [hb])), n256, show (2 : Nat) ^ 8 = 256 from rfl, Nat.mod_eq_of_lt h1]

/-- Some bits of a row, as a number. -/
theorem n2_part (ls : List Nat) (h : ∀ b ∈ ls, b < 2) (a n : Nat) (hl : a + n ≤ ls.length) : n2 ((ls.drop a).take n) = n2 ls / 2 ^ a % 2 ^ n := by
  have e1 : n2 ls = n2 (ls.take a) + 2 ^ a * n2 (ls.drop a) := by
    have := n2_append (ls.take a) (ls.drop a)
    rw [List.take_append_drop, List.length_take, Nat.min_eq_left (by omega)] at this
    exact this
  have h1 : n2 (ls.take a) < 2 ^ a := by
    have := n2_lt (ls.take a) (fun b hb => h b (List.mem_of_mem_take hb))
    rw [List.length_take, Nat.min_eq_left (by omega)] at this
    exact this
  have e2 : n2 (ls.drop a) = n2 ((ls.drop a).take n) + 2 ^ n * n2 ((ls.drop a).drop n) := by
    have := n2_append ((ls.drop a).take n) ((ls.drop a).drop n)
    rw [List.take_append_drop, List.length_take, List.length_drop, Nat.min_eq_left (by omega)] at this
    exact this
  have h2 := n2_take_lt ls h a n
  rw [e1, Nat.add_mul_div_left _ _ (Nat.two_pow_pos _), Nat.div_eq_of_lt h1, Nat.zero_add, e2, Nat.add_mul_mod_self_left, Nat.mod_eq_of_lt (show n2 (List.take n (List.drop a ls)) < 2 ^ n from h2)]

end Go.Proofs.YtofhlnpbflkdlaaDoor

/-
  What the reference's Next answers, and that it is what the search answers.
-/
namespace Go.Proofs.YtofhlnpbflkdlaaDoor

theorem n2_inj (a b : List Nat) (hl : a.length = b.length) (ha : ∀ x ∈ a, x < 2) (hb : ∀ x ∈ b, x < 2) (h : n2 a = n2 b) : a = b := by
  induction a generalizing b with
  | nil => cases b with
    | nil => rfl
    | cons y r => simp at hl
  | cons x l ih => cases b with
    | nil => simp at hl
    | cons y r =>
      have hx := ha x (by simp)
      have hy := hb y (by simp)
      simp only [n2] at h
      have e1 : x = y := by omega
      have e2 : n2 l = n2 r := by omega
      rw [e1, ih r (by simpa using hl) (fun z hz => ha z (by simp [hz])) (fun z hz => hb z (by simp [hz])) e2]

theorem code_lt2 {ns : List Nat} {s : Nat} (hm : measure ns ≤ 32768) (hs : s ∈ ris ns) (h15 : key ns s ≤ 15) : codeOf ns s < 2 ^ key ns s := by
  obtain ⟨k, hk, rfl, a1, a2⟩ := place_of hs
  have h1 := sumTo_mono ns (k + 1)
  have h2 := code_start ns (ris ns)[k]
  have h3 : (codeOf ns (ris ns)[k] + 1) * 2 ^ (15 - key ns (ris ns)[k]) ≤ 2 ^ key ns (ris ns)[k] * 2 ^ (15 - key ns (ris ns)[k]) := by
    rw [← Nat.pow_add, show key ns (ris ns)[k] + (15 - key ns (ris ns)[k]) = 15 by omega, Nat.add_mul, Nat.one_mul]
    have : (2 : Nat) ^ 15 = 32768 := by decide
    omega
  have := Nat.le_of_mul_le_mul_right h3 (Nat.two_pow_pos _)
  omega

/-- A symbol's row; whether it stands at the head of what is left; whether what is left stands at its head. -/
def rowOf (ns : List Nat) (s : Nat) : List Nat := rowB (key ns s) (codeOf ns s)
def Fit (ns t : List Nat) (s : Nat) : Prop := key ns s ≠ 0 ∧ rowOf ns s <+: t
def Beg (ns t : List Nat) (s : Nat) : Prop := key ns s ≠ 0 ∧ t <+: rowOf ns s

/-- What the reference's Next answers. -/
def RNext (ns t : List Nat) (is k g : Nat) : Prop :=
  (g = 0 ∧ is < ns.length ∧ Fit ns t is ∧ k = key ns is ∧ ∀ s, s < is → ¬ Fit ns t s) ∨
  (g = 10 ∧ is = 0 ∧ k = 0 ∧ (∀ s, s < ns.length → ¬ Fit ns t s) ∧ ∃ s, s < ns.length ∧ Beg ns t s) ∨
  (g = 32 ∧ is = 0 ∧ k = 0 ∧ (∀ s, s < ns.length → ¬ Fit ns t s) ∧ ∀ s, s < ns.length → ¬ Beg ns t s)

theorem rowOf_length (ns : List Nat) (s : Nat) : (rowOf ns s).length = key ns s := rowB_length _ _
theorem rowOf_n2 (ns : List Nat) (s : Nat) : n2 (rowOf ns s) = rv (key ns s) (codeOf ns s) := rowB_n2 _ _
theorem rowOf_bit (ns : List Nat) (s : Nat) : ∀ b ∈ rowOf ns s, b < 2 := rowB_bit _ _

/-- The number of what is left. -/
theorem left_n2 (bs : List Nat) (hb : ∀ b ∈ bs, b < 256) (c n : Nat) (h : c + n ≤ 8 * bs.length) : n2 (((ofBytes bs).drop c).take n) = n256 bs / 2 ^ c % 2 ^ n := by
  rw [n2_part (ofBytes bs) (ofBytes_lt bs) c n (by rw [ofBytes_length]; exact h), ofBytes_n2 bs hb]

theorem left_length (bs : List Nat) (c : Nat) : ((ofBytes bs).drop c).length = 8 * bs.length - c := by rw [List.length_drop, ofBytes_length]

theorem fit_iff {ns : List Nat} {s : Nat} (hm : measure ns ≤ 32768) (hs : s ∈ ris ns) (h15 : key ns s ≤ 15) (bs : List Nat) (hb : ∀ b ∈ bs, b < 256) (c : Nat) (hc : c ≤ 8 * bs.length) :
    Fit ns ((ofBytes bs).drop c) s ↔ key ns s ≤ 8 * bs.length - c ∧ rv (key ns s) (n256 bs / 2 ^ c) = codeOf ns s := by
  have hlen := left_length bs c
  have hcl := code_lt2 hm hs h15
  unfold Fit
  rw [List.prefix_iff_eq_take, rowOf_length]
  constructor
  · rintro ⟨_, h⟩
    have hl := congrArg List.length h
    rw [rowOf_length, List.length_take, hlen] at hl
    have hk : key ns s ≤ 8 * bs.length - c := by omega
    refine ⟨hk, ?_⟩
    have h2 := congrArg n2 h
    rw [rowOf_n2, left_n2 bs hb c _ (by omega)] at h2
    rw [← rv_mod (key ns s) (key ns s) _ (Nat.le_refl _), ← h2, rv_rv, Nat.mod_eq_of_lt hcl]
  · rintro ⟨hk, h⟩
    refine ⟨(mem_ris.1 hs).2, ?_⟩
    refine n2_inj _ _ (by rw [rowOf_length, List.length_take, hlen]; omega) (rowOf_bit ns s) (fun x hx => ofBytes_lt bs x (List.mem_of_mem_drop (List.mem_of_mem_take hx))) ?_
    rw [rowOf_n2, left_n2 bs hb c _ (by omega), ← h, rv_rv]

/-- Bits that are fewer than a code's, and that read with noughts behind them as this code, begin it. -/
theorem beg_of {ns : List Nat} {s : Nat} (hs : s ∈ ris ns) (bs : List Nat) (hb : ∀ b ∈ bs, b < 256) (c : Nat) (hc : c ≤ 8 * bs.length) (hk : 8 * bs.length - c < key ns s) (h : rv (key ns s) (n256 bs / 2 ^ c) = codeOf ns s) (hZ : n256 bs / 2 ^ c < 2 ^ (8 * bs.length - c)) : Beg ns ((ofBytes bs).drop c) s := by
  refine ⟨(mem_ris.1 hs).2, ?_⟩
  have hlen := left_length bs c
  have e : rowOf ns s = (ofBytes bs).drop c ++ List.replicate (key ns s - (8 * bs.length - c)) 0 := by
    refine n2_inj _ _ (by rw [rowOf_length, List.length_append, hlen, List.length_replicate]; omega) (rowOf_bit ns s) ?_ ?_
    · intro x hx
      rcases List.mem_append.1 hx with hx | hx
      · exact ofBytes_lt bs x (List.mem_of_mem_drop hx)
      · have := List.eq_of_mem_replicate hx; omega
    · have h1 := left_n2 bs hb c (8 * bs.length - c) (by omega)
      rw [List.take_of_length_le (by omega), Nat.mod_eq_of_lt hZ] at h1
      rw [n2_align, h1, rowOf_n2, ← h, rv_rv, Nat.mod_eq_of_lt (Nat.lt_of_lt_of_le hZ (Nat.pow_le_pow_right (by omega) (by omega)))]
  rw [e]
  exact List.prefix_append _ _

theorem find_place (ns : List Nat) (X n : Nat) (hn : n ≤ (ris ns).length) (h : X < sumTo ns n) : ∃ k, k < n ∧ sumTo ns k ≤ X ∧ X < sumTo ns (k + 1) := by
  induction n with
  | zero => simp [sumTo] at h
  | succ n ih =>
    by_cases h1 : X < sumTo ns n
    · obtain ⟨k, hk, h2⟩ := ih (by omega) h1
      exact ⟨k, by omega, h2⟩
    · exact ⟨n, by omega, by omega, h⟩

/-- One symbol alone has the length 1. -/
theorem alone_mx {ns : List Nat} (hu : (ris ns).length = 1) (hm : measure ns = 16384) (h15 : ∀ s, key ns s ≤ 15) : mxL ns ≤ 1 := by
  rcases (foldl_max ns 0).2.2 with h | h
  · unfold mxL; omega
  · obtain ⟨s, hs, e⟩ := List.getElem_of_mem h
    have ek : key ns s = mxL ns := by rw [key_get hs]; exact e
    by_cases h0 : mxL ns = 0
    · omega
    · have hr : s ∈ ris ns := mem_ris.2 ⟨hs, by omega⟩
      obtain ⟨k, hk, rfl, a1, a2⟩ := place_of hr
      have hk0 : k = 0 := by omega
      subst hk0
      have h1 := sumTo_all ns
      rw [hu] at h1
      have h2 : sumTo ns 0 = 0 := by simp [sumTo]
      have h3 : 2 ^ (15 - key ns (ris ns)[0]) = 16384 := by
        have : sumTo ns (0 + 1) = measure ns := h1
        omega
      have h4 := h15 (ris ns)[0]
      refine Classical.byContradiction (fun hc => ?_)
      have h5 : 2 ^ (15 - key ns (ris ns)[0]) ≤ 2 ^ 13 := Nat.pow_le_pow_right (by omega) (by omega)
      have h6 : (2 : Nat) ^ 13 = 8192 := by decide
      omega

theorem usedN_ris2 (ns : List Nat) : usedN ns = (ris ns).length := by
  have h : ∀ i, i ≤ ns.length → usedN (ns.take i) = (usedTo ns i).length := by
    intro i
    induction i with
    | zero => intro _; simp [usedN, usedTo]
    | succ i ih =>
      intro hi
      rw [List.take_succ_eq_append_getElem (by omega), usedN_snoc, ih (by omega), usedTo_succ, List.length_append, ← key_get (by omega)]
      by_cases h : key ns i = 0 <;> simp [h]
  have h2 := h ns.length (Nat.le_refl _)
  rw [List.take_length] at h2
  rw [h2, (ris_perm ns).length_eq]
  rfl

/-- The two answers are the same. -/
theorem next_same {zs : List Int} {ns : List Nat} (hg : Good zs ns) (bs : List Nat) (hb : ∀ b ∈ bs, b < 256) (c : Nat) (hc : c ≤ 8 * bs.length) (hZ : n256 bs / 2 ^ c < 2 ^ (8 * bs.length - c)) {sym long er is k g : Nat}
    (ha : Ans ns (min (8 * bs.length - c) (mxL ns)) (n256 bs / 2 ^ c % 2 ^ (min (8 * bs.length - c) (mxL ns))) sym long er) (hr : RNext ns ((ofBytes bs).drop c) is k g) : is = sym ∧ k = long ∧ g = er := by
  have h15 := hg.key_le
  have hm := hg.measure_le
  have hmx : mxL ns ≤ 15 := mx_le ns 15 hg.le
  have hlen := left_length bs c
  have hfit0 : ∀ s, s < ns.length → Fit ns ((ofBytes bs).drop c) s → er = 0 ∧ sym = s ∧ long = key ns s := by
    intro s hs hf
    have hsr : s ∈ ris ns := mem_ris.2 ⟨hs, hf.1⟩
    obtain ⟨h1, h2⟩ := (fit_iff hm hsr (h15 s) bs hb c hc).1 hf
    exact Ans.unique h15 hZ ha hmx hsr h1 h2
  have hok0 : er = 0 → ∃ s, s < ns.length ∧ Fit ns ((ofBytes bs).drop c) s := by
    intro e0
    rcases ha with ⟨_, hs, hlong, hle, hrv⟩ | ⟨e, _⟩ | ⟨e, _⟩
    · refine ⟨sym, (mem_ris.1 hs).1, (fit_iff hm hs (h15 sym) bs hb c hc).2 ⟨by omega, ?_⟩⟩
      rw [rv_mod _ _ _ hle, hlong] at hrv
      exact hrv
    · omega
    · omega
  have hbeg10 : er = 10 → ∃ s, s < ns.length ∧ Beg ns ((ofBytes bs).drop c) s := by
    intro e10
    rcases ha with ⟨e, _⟩ | ⟨_, _, _, hlt, hsum⟩ | ⟨e, _⟩
    · omega
    · have hmin : min (8 * bs.length - c) (mxL ns) = 8 * bs.length - c := by omega
      rw [hmin, rv_mod _ _ _ (Nat.le_refl _), ← rv_pad _ 15 _ hZ (by omega)] at hsum
      rw [hmin] at hlt
      have hX : rv 15 (n256 bs / 2 ^ c) < measure ns := by
        have hk := hg.ok
        unfold chkN at hk
        have hall : rv 15 (n256 bs / 2 ^ c) < 32768 := rv_lt 15 _
        split at hk
        · omega
        · split at hk
          · omega
          · split at hk
            · rename_i _ _ h3
              have h4 := alone_mx (by rw [← usedN_ris2]; exact h3.1) h3.2 h15
              have h5 : 8 * bs.length - c = 0 := by omega
              rw [rv_pad _ 15 _ hZ (by omega), h5]
              simp [rv, h3.2]
            · omega
      rw [← sumTo_all] at hX
      obtain ⟨i, hi, h1, h2⟩ := find_place ns _ _ (Nat.le_refl _) hX
      have hmem : (ris ns)[i] ∈ ris ns := List.getElem_mem hi
      have hkey : 8 * bs.length - c < key ns (ris ns)[i] := by
        refine Classical.byContradiction (fun hcon => ?_)
        have h3 := (upN_index ns (8 * bs.length - c) i hi).1 (by omega)
        have h4 := sumTo_le (ns := ns) (show i + 1 ≤ upN ns (8 * bs.length - c) from h3)
        omega
      refine ⟨(ris ns)[i], (mem_ris.1 hmem).1, beg_of hmem bs hb c hc hkey ?_ hZ⟩
      refine (fits_iff hmem (h15 _)).2 ?_
      rw [start_at ns i hi]
      have h5 := sumTo_succ ns i hi
      rw [uk, unit, if_neg (mem_ris.1 hmem).2] at h5
      omega
    · omega
  have hno32 : er = 32 → ∀ s, s < ns.length → ¬ Beg ns ((ofBytes bs).drop c) s := by
    intro e32 s hs hbg
    rcases ha with ⟨e, _⟩ | ⟨e, _⟩ | ⟨_, _, _, hh, _⟩
    · omega
    · omega
    · have h1 := hbg.2.length_le
      rw [rowOf_length, hlen] at h1
      have h2 := key_le_mx ns s
      have e1 : (ofBytes bs).drop c = rowOf ns s := hbg.2.eq_of_length (by rw [rowOf_length, hlen]; omega)
      have h3 := hfit0 s hs ⟨hbg.1, by rw [e1]; exact List.prefix_refl _⟩
      omega
  have hcases : er = 0 ∨ (er = 10 ∧ sym = 0 ∧ long = 0) ∨ (er = 32 ∧ sym = 0 ∧ long = 0) := by
    rcases ha with ⟨e, _⟩ | ⟨e, e1, e2, _⟩ | ⟨e, e1, e2, _⟩
    · exact .inl e
    · exact .inr (.inl ⟨e, e1, e2⟩)
    · exact .inr (.inr ⟨e, e1, e2⟩)
  rcases hr with ⟨rfl, hi, hf, rfl, _⟩ | ⟨rfl, rfl, rfl, hnf, ⟨s, hs, hbg⟩⟩ | ⟨rfl, rfl, rfl, hnf, hnb⟩
  · obtain ⟨h1, h2, h3⟩ := hfit0 is hi hf
    exact ⟨h2.symm, h3.symm, h1.symm⟩
  · rcases hcases with h | ⟨h1, h2, h3⟩ | ⟨h1, _⟩
    · obtain ⟨t, ht, hf⟩ := hok0 h
      exact absurd hf (hnf t ht)
    · exact ⟨h2.symm, h3.symm, h1.symm⟩
    · exact absurd hbg (hno32 h1 s hs)
  · rcases hcases with h | ⟨h1, _⟩ | ⟨h1, h2, h3⟩
    · obtain ⟨t, ht, hf⟩ := hok0 h
      exact absurd hf (hnf t ht)
    · obtain ⟨s, hs, hbg⟩ := hbeg10 h1
      exact absurd hbg (hnb s hs)
    · exact ⟨h2.symm, h3.symm, h1.symm⟩

/-- The same as a function. -/
def fitB (ns t : List Nat) (s : Nat) : Bool := key ns s != 0 && (rowOf ns s).isPrefixOf t
def begB (ns t : List Nat) (s : Nat) : Bool := key ns s != 0 && t.isPrefixOf (rowOf ns s)
def nextF (ns t : List Nat) : Nat × Nat × Nat :=
  match (List.range ns.length).find? (fitB ns t) with
  | some s => (s, key ns s, 0)
  | none => if (List.range ns.length).any (begB ns t) = true then (0, 0, 10) else (0, 0, 32)

theorem fitB_iff (ns t : List Nat) (s : Nat) : fitB ns t s = true ↔ Fit ns t s := by simp [fitB, Fit, List.isPrefixOf_iff_prefix]
theorem begB_iff (ns t : List Nat) (s : Nat) : begB ns t s = true ↔ Beg ns t s := by simp [begB, Beg, List.isPrefixOf_iff_prefix]

theorem nextF_is (ns t : List Nat) : RNext ns t (nextF ns t).1 (nextF ns t).2.1 (nextF ns t).2.2 := by
  unfold nextF
  split
  · rename_i s h
    rw [List.find?_range_eq_some] at h
    obtain ⟨h1, h2, h3⟩ := h
    refine .inl ⟨rfl, by simpa using h2, (fitB_iff ns t s).1 h1, rfl, fun j hj hf => ?_⟩
    have := h3 j hj
    rw [(fitB_iff ns t j).2 hf] at this
    cases this
  · rename_i h
    rw [List.find?_range_eq_none] at h
    have hnf : ∀ s, s < ns.length → ¬ Fit ns t s := fun s hs hf => by
      have := h s hs
      rw [(fitB_iff ns t s).2 hf] at this
      cases this
    split
    · rename_i h2
      obtain ⟨s, hs, hb⟩ := List.any_eq_true.1 h2
      exact .inr (.inl ⟨rfl, rfl, rfl, hnf, s, by simpa using hs, (begB_iff ns t s).1 hb⟩)
    · rename_i h2
      refine .inr (.inr ⟨rfl, rfl, rfl, hnf, fun s hs hb => h2 ?_⟩)
      exact List.any_eq_true.2 ⟨s, by simpa using hs, (begB_iff ns t s).2 hb⟩

theorem RNext.one {ns t : List Nat} {a b c a' b' c' : Nat} (h : RNext ns t a b c) (h' : RNext ns t a' b' c') : a = a' ∧ b = b' ∧ c = c' := by
  rcases h with ⟨rfl, h1, h2, rfl, h3⟩ | ⟨rfl, rfl, rfl, h1, h2⟩ | ⟨rfl, rfl, rfl, h1, h2⟩ <;> rcases h' with ⟨rfl, k1, k2, rfl, k3⟩ | ⟨rfl, rfl, rfl, k1, k2⟩ | ⟨rfl, rfl, rfl, k1, k2⟩
  · have e : a = a' := by
      rcases Nat.lt_trichotomy a a' with h | h | h
      · exact absurd h2 (k3 a h)
      · exact h
      · exact absurd k2 (h3 a' h)
    subst e
    exact ⟨rfl, rfl, rfl⟩
  · exact absurd h2 (k1 a h1)
  · exact absurd h2 (k1 a h1)
  · exact absurd k2 (h1 a' k1)
  · exact ⟨rfl, rfl, rfl⟩
  · obtain ⟨s, hs, hb⟩ := h2
    exact absurd hb (k2 s hs)
  · exact absurd k2 (h1 a' k1)
  · obtain ⟨s, hs, hb⟩ := k2
    exact absurd hb (h2 s hs)
  · exact ⟨rfl, rfl, rfl⟩

theorem nextF_of {ns t : List Nat} {is k g : Nat} (h : RNext ns t is k g) : nextF ns t = (is, k, g) := by
  obtain ⟨h1, h2, h3⟩ := (nextF_is ns t).one h
  exact Prod.ext h1 (Prod.ext h2 h3)

end Go.Proofs.YtofhlnpbflkdlaaDoor

/-
  Layer 4's answers as functions: steps that say lengths, lengths that are said in steps, heads that are read.
-/
namespace Go.Proofs.YtofhlnpbflkdlaaDoor

/-- The last one. -/
def lastN (l : List Nat) : Nat := l.getD (l.length - 1) 0

theorem lastN_mem (l : List Nat) (h : 0 < l.length) : lastN l ∈ l := by
  have hl : l.length - 1 < l.length := by omega
  have e : lastN l = l[l.length - 1] := by simp [lastN, List.getD, hl]
  rw [e]
  exact List.getElem_mem _

/-- Which length a step says, and how many times. -/
def saysM (s : Int × Int) (l : List Nat) : Option (Nat × Nat) :=
  if 0 ≤ s.1 ∧ s.1 ≤ 15 ∧ s.2 = 0 then some (s.1.toNat, 1)
  else if s.1 = 16 ∧ 0 ≤ s.2 ∧ s.2 ≤ 3 ∧ 0 < l.length then some (lastN l, s.2.toNat + 3)
  else if s.1 = 17 ∧ 0 ≤ s.2 ∧ s.2 ≤ 7 then some (0, s.2.toNat + 3)
  else if s.1 = 18 ∧ 0 ≤ s.2 ∧ s.2 ≤ 127 then some (0, s.2.toNat + 11)
  else none

theorem saysM_le {s : Int × Int} {l : List Nat} {v k : Nat} (h : saysM s l = some (v, k)) (hl : ∀ x ∈ l, x ≤ 15) : v ≤ 15 ∧ 1 ≤ k ∧ k ≤ 138 := by
  unfold saysM at h
  split at h
  · simp at h; omega
  · split at h
    · simp at h
      obtain ⟨rfl, rfl⟩ := h
      rename_i _ h2
      refine ⟨?_, by omega, by omega⟩
      exact hl _ (lastN_mem l h2.2.2.2)
    · split at h
      · simp at h; omega
      · split at h
        · simp at h; omega
        · cases h

/-- Lengths with those that a step says, n at most. -/
def withM (l : List Nat) (s : Int × Int) (n : Nat) : Option (List Nat) :=
  match saysM s l with
  | none => none
  | some (v, k) => if n < l.length + k then none else some (l ++ List.replicate k v)

theorem withM_grows {l m : List Nat} {s : Int × Int} {n : Nat} (h : withM l s n = some m) (hl : ∀ x ∈ l, x ≤ 15) : l.length < m.length ∧ m.length ≤ n ∧ ∀ x ∈ m, x ≤ 15 := by
  unfold withM at h
  split at h
  · cases h
  · rename_i v k hs
    have h1 := saysM_le hs hl
    split at h
    · cases h
    · simp only [Option.some.injEq] at h
      subst h
      rw [List.length_append, List.length_replicate]
      refine ⟨by omega, by omega, fun x hx => ?_⟩
      rcases List.mem_append.1 hx with hx | hx
      · exact hl x hx
      · have := List.eq_of_mem_replicate hx; omega

/-- Steps, one behind the other. -/
def runM (n : Nat) : List Nat → List (Int × Int) → Option (List Nat)
  | l, [] => some l
  | l, s :: r => match withM l s n with
    | none => none
    | some m => runM n m r

theorem runM_snoc (n : Nat) (l : List Nat) (ss : List (Int × Int)) (s : Int × Int) : runM n l (ss ++ [s]) = (runM n l ss).bind (fun m => withM m s n) := by
  induction ss generalizing l with
  | nil =>
    simp only [List.nil_append, runM, Option.bind_some]
    cases withM l s n <;> rfl
  | cons a r ih =>
    simp only [List.cons_append, runM]
    cases withM l a n with
    | none => rfl
    | some m => exact ih m

theorem runM_le {n : Nat} {l m : List Nat} {ss : List (Int × Int)} (h : runM n l ss = some m) (hl : ∀ x ∈ l, x ≤ 15) (hn : l.length ≤ n) : m.length ≤ n ∧ ∀ x ∈ m, x ≤ 15 := by
  induction ss generalizing l with
  | nil => simp only [runM, Option.some.injEq] at h; subst h; exact ⟨hn, hl⟩
  | cons a r ih =>
    simp only [runM] at h
    cases hw : withM l a n with
    | none => rw [hw] at h; cases h
    | some k =>
      rw [hw] at h
      have := withM_grows hw hl
      exact ih h this.2.2 this.2.1

/-- Once refused, refused. -/
theorem runM_none {n : Nat} {l : List Nat} (ss tt : List (Int × Int)) (h : runM n l ss = none) : runM n l (ss ++ tt) = none := by
  induction ss generalizing l with
  | nil => cases h
  | cons a r ih =>
    simp only [List.cons_append, runM] at h ⊢
    cases hw : withM l a n with
    | none => rfl
    | some m => rw [hw] at h; exact ih h

/-- Unpack's answer: an error, or the lengths. -/
def unpM (ss : List (Int × Int)) (n : Int) : Except Nat (List Nat) :=
  if n < 0 ∨ 316 < n then .error 1
  else match runM n.toNat [] ss with
    | none => .error 41
    | some l => if l.length < n.toNat then .error 41 else .ok l

/-- Noughts, so many; a length, so many times again. -/
def zerosM (n : Nat) : List (Int × Int) :=
  if 11 ≤ n then (18, ((min n 138 - 11 : Nat) : Int)) :: zerosM (n - min n 138)
  else if 3 ≤ n then [(17, ((n - 3 : Nat) : Int))] else List.replicate n (0, 0)
termination_by n
decreasing_by omega

def againM (v n : Nat) : List (Int × Int) :=
  if 3 ≤ n then (16, ((min n 6 - 3 : Nat) : Int)) :: againM v (n - min n 6) else List.replicate n ((v : Int), 0)
termination_by n
decreasing_by omega

/-- A length, so many times. -/
def sayM (v n : Nat) : List (Int × Int) := if v = 0 then zerosM n else ((v : Int), 0) :: againM v (n - 1)

/-- How often the first length stands. -/
def frontN (v : Nat) (l : List Nat) : Nat := (l.takeWhile (fun x => decide (x = v))).length

theorem frontN_le (v : Nat) (l : List Nat) : frontN v l ≤ l.length := by
  exact (List.takeWhile_prefix _).length_le

/-- Pack's steps. -/
def packM : List Nat → List (Int × Int)
  | [] => []
  | v :: r => sayM v (1 + frontN v r) ++ packM (r.drop (frontN v r))
termination_by l => l.length
decreasing_by simp; omega

theorem packM_cons (v : Nat) (r : List Nat) : packM (v :: r) = sayM v (1 + frontN v r) ++ packM (r.drop (frontN v r)) := by rw [packM]

/-- Pack's answer. -/
def packA (zs : List Int) : Except Nat (List (Int × Int)) :=
  if zs.length ≤ 316 ∧ ∀ z ∈ zs, 0 ≤ z ∧ z ≤ 15 then .ok (packM (zs.map Int.toNat)) else .error 1

/-- How many bits a step's number has. -/
def xbits (sym : Nat) : Nat := if sym = 16 then 2 else if sym = 17 then 3 else if sym = 18 then 7 else 0

/-- The number of so many bits at a place. -/
def numAt (ls : List Nat) (c n : Nat) : Nat := n2 ((ls.drop c).take n)

/-- One step of a head. -/
def stepF (ns ls : List Nat) (c : Nat) : Except Nat ((Nat × Nat) × Nat) :=
  if (nextF ns (ls.drop c)).2.2 ≠ 0 then .error (nextF ns (ls.drop c)).2.2
  else if ls.length < c + (nextF ns (ls.drop c)).2.1 + xbits (nextF ns (ls.drop c)).1 then .error 10
  else .ok (((nextF ns (ls.drop c)).1, numAt ls (c + (nextF ns (ls.drop c)).2.1) (xbits (nextF ns (ls.drop c)).1)), c + (nextF ns (ls.drop c)).2.1 + xbits (nextF ns (ls.drop c)).1)

/-- The steps of a head, till N lengths are said. -/
def bodyF (ns ls : List Nat) (N : Nat) : Nat → List Nat → Nat → Except Nat (List Nat × Nat)
  | 0, l, c => .ok (l, c)
  | f + 1, l, c =>
    if N ≤ l.length then .ok (l, c)
    else match stepF ns ls c with
      | .error e => .error e
      | .ok (s, c') => match withM l ((s.1 : Int), (s.2 : Int)) N with
        | none => .error 41
        | some m => bodyF ns ls N f m c'

def ord : List Nat := [16, 17, 18, 0, 8, 7, 9, 6, 10, 5, 11, 4, 12, 3, 13, 2, 14, 1, 15]

/-- The lengths of the steps' codes, when i of them are read. -/
def codesF (ls : List Nat) (c : Nat) : Nat → List Nat
  | 0 => List.replicate 19 0
  | i + 1 => (codesF ls c i).set (ord.getD i 0) (numAt ls (c + 3 * i) 3)

theorem codesF_length (ls : List Nat) (c i : Nat) : (codesF ls c i).length = 19 := by
  induction i with
  | zero => simp [codesF]
  | succ i ih => simp [codesF, ih]

theorem numAt_lt (ls : List Nat) (h : ∀ b ∈ ls, b < 2) (c n : Nat) : numAt ls c n < 2 ^ n := n2_take_lt ls h c n

theorem codesF_le (ls : List Nat) (h : ∀ b ∈ ls, b < 2) (c i : Nat) : ∀ x ∈ codesF ls c i, x ≤ 7 := by
  induction i with
  | zero => intro x hx; have := List.eq_of_mem_replicate hx; omega
  | succ i ih =>
    intro x hx
    rcases List.mem_or_eq_of_mem_set hx with hx | rfl
    · exact ih x hx
    · have := numAt_lt ls h (c + 3 * i) 3; omega

/-- A head's answer: an error, or the two lists and how many bits it has. -/
def readF (ls : List Nat) (a : Nat) : Except Nat ((List Nat × List Nat) × Nat) :=
  if ls.length < a + 14 then .error 10
  else if 286 < numAt ls a 5 + 257 ∨ 30 < numAt ls (a + 5) 5 + 1 then .error 40
  else if ls.length < a + 14 + 3 * (numAt ls (a + 10) 4 + 4) then .error 10
  else if chkN (codesF ls (a + 14) (numAt ls (a + 10) 4 + 4)) ≠ 0 then .error (chkN (codesF ls (a + 14) (numAt ls (a + 10) 4 + 4)))
  else match bodyF (codesF ls (a + 14) (numAt ls (a + 10) 4 + 4)) ls (numAt ls a 5 + 257 + (numAt ls (a + 5) 5 + 1)) (numAt ls a 5 + 257 + (numAt ls (a + 5) 5 + 1)) [] (a + 14 + 3 * (numAt ls (a + 10) 4 + 4)) with
    | .error e => .error e
    | .ok (l, c) => .ok ((l.take (numAt ls a 5 + 257), l.drop (numAt ls a 5 + 257)), c - a)

end Go.Proofs.YtofhlnpbflkdlaaDoor

/-
  Pack's steps: how many there are, and that they say the list.
-/
namespace Go.Proofs.YtofhlnpbflkdlaaDoor

theorem zerosM_big (n : Nat) (h : 11 ≤ n) : zerosM n = (18, ((min n 138 - 11 : Nat) : Int)) :: zerosM (n - min n 138) := by
  rw [zerosM, if_pos h]
theorem zerosM_mid (n : Nat) (h : n < 11) (h3 : 3 ≤ n) : zerosM n = [(17, ((n - 3 : Nat) : Int))] := by
  rw [zerosM, if_neg (by omega), if_pos h3]
theorem zerosM_few (n : Nat) (h3 : n < 3) : zerosM n = List.replicate n (0, 0) := by
  rw [zerosM, if_neg (by omega), if_neg (by omega)]
theorem againM_big (v n : Nat) (h : 3 ≤ n) : againM v n = (16, ((min n 6 - 3 : Nat) : Int)) :: againM v (n - min n 6) := by
  rw [againM, if_pos h]
theorem againM_few (v n : Nat) (h : n < 3) : againM v n = List.replicate n ((v : Int), 0) := by
  rw [againM, if_neg (by omega)]

theorem zerosM_len (n : Nat) : (zerosM n).length ≤ n := by
  induction n using Nat.strongRecOn with
  | ind n ih =>
    by_cases h : 11 ≤ n
    · rw [zerosM_big n h, List.length_cons]
      have := ih (n - min n 138) (by omega)
      omega
    · by_cases h3 : 3 ≤ n
      · rw [zerosM_mid n (by omega) h3]; simp; omega
      · rw [zerosM_few n (by omega)]; simp

theorem againM_len (v n : Nat) : (againM v n).length ≤ n := by
  induction n using Nat.strongRecOn with
  | ind n ih =>
    by_cases h : 3 ≤ n
    · rw [againM_big v n h, List.length_cons]
      have := ih (n - min n 6) (by omega)
      omega
    · rw [againM_few v n (by omega)]; simp

theorem sayM_len (v n : Nat) (h : 1 ≤ n) : (sayM v n).length ≤ n := by
  unfold sayM
  split
  · exact zerosM_len n
  · rw [List.length_cons]; have := againM_len v (n - 1); omega

theorem packM_len (l : List Nat) : (packM l).length ≤ l.length := by
  induction hn : l.length using Nat.strongRecOn generalizing l with
  | ind n ih =>
    cases l with
    | nil => simp [packM]
    | cons v r =>
      rw [packM_cons, List.length_append]
      have h1 := sayM_len v (1 + frontN v r) (by omega)
      have h2 := frontN_le v r
      have h3 := ih (r.drop (frontN v r)).length (by simp at hn ⊢; omega) _ rfl
      simp at hn h3
      omega

/-- The front is found. -/
theorem frontN_is (v : Nat) (r : List Nat) (m : Nat) (h1 : ∀ j (_ : j < r.length), j < m → r[j] = v) (hm : m ≤ r.length) (h2 : ∀ h : m < r.length, r[m] ≠ v) : frontN v r = m := by
  induction r generalizing m with
  | nil => simp at hm; subst hm; rfl
  | cons a r ih =>
    cases m with
    | zero =>
      have := h2 (by simp)
      simp at this
      simp [frontN, this]
    | succ m =>
      have ha := h1 0 (by simp) (by omega)
      simp at ha
      have h3 := ih m (fun j hj hjm => h1 (j + 1) (by simpa using hj) (by omega)) (by simpa using hm) (fun h => h2 (by simpa using h))
      unfold frontN at h3 ⊢
      rw [List.takeWhile_cons, if_pos (by simp [ha]), List.length_cons, h3]

theorem frontN_all (v : Nat) (r : List Nat) (j : Nat) (hj : j < r.length) (h : j < frontN v r) : r[j] = v := by
  induction r generalizing j with
  | nil => simp at hj
  | cons a r ih =>
    unfold frontN at h
    rw [List.takeWhile_cons] at h
    by_cases ha : a = v
    · cases j with
      | zero => simpa using ha
      | succ j =>
        rw [if_pos (by simp [ha]), List.length_cons] at h
        simpa using ih j (by simpa using hj) (by unfold frontN; omega)
    · rw [if_neg (by simp [ha])] at h
      simp at h

/-- A list's front and the rest. -/
theorem front_split (v : Nat) (r : List Nat) : v :: r = List.replicate (1 + frontN v r) v ++ r.drop (frontN v r) := by
  have h := frontN_le v r
  rw [Nat.add_comm, List.replicate_succ, List.cons_append]
  congr 1
  have e : r.take (frontN v r) = List.replicate (frontN v r) v := by
    refine List.ext_getElem (by simp; omega) (fun j h1 h2 => ?_)
    simp at h1
    rw [List.getElem_take, List.getElem_replicate, frontN_all v r j (by omega) (by omega)]
  rw [← e, List.take_append_drop]

/-- runs that say themselves. -/
theorem withM_ok {l : List Nat} {s : Int × Int} {n v k : Nat} (h : saysM s l = some (v, k)) (hf : l.length + k ≤ n) : withM l s n = some (l ++ List.replicate k v) := by
  unfold withM
  rw [h]
  simp only
  rw [if_neg (by omega)]

theorem runM_append (n : Nat) (l : List Nat) (ss tt : List (Int × Int)) : runM n l (ss ++ tt) = (runM n l ss).bind (fun m => runM n m tt) := by
  induction ss generalizing l with
  | nil => rfl
  | cons a r ih =>
    simp only [List.cons_append, runM]
    cases withM l a n with
    | none => rfl
    | some m => exact ih m

theorem runM_one (n : Nat) (l : List Nat) (s : Int × Int) : runM n l [s] = withM l s n := by
  simp only [runM]
  cases withM l s n <;> rfl

theorem says_plain (v : Nat) (l : List Nat) (h : v ≤ 15) : saysM ((v : Int), 0) l = some (v, 1) := by
  unfold saysM
  rw [if_pos ⟨by omega, by simp only; omega, rfl⟩]
  simp

theorem runM_plain (n v k : Nat) (l : List Nat) (h : v ≤ 15) (hf : l.length + k ≤ n) : runM n l (List.replicate k ((v : Int), 0)) = some (l ++ List.replicate k v) := by
  induction k generalizing l with
  | zero => simp [runM]
  | succ k ih =>
    rw [List.replicate_succ, runM, withM_ok (says_plain v l h) (by omega)]
    simp only
    rw [ih _ (by simp; omega), List.append_assoc, List.replicate_append_replicate, Nat.add_comm]

theorem runM_zeros (n m : Nat) (l : List Nat) (hf : l.length + m ≤ n) : runM n l (zerosM m) = some (l ++ List.replicate m 0) := by
  induction m using Nat.strongRecOn generalizing l with
  | ind m ih =>
    by_cases h : 11 ≤ m
    · rw [zerosM_big m h, runM]
      have hs : saysM (18, ((min m 138 - 11 : Nat) : Int)) l = some (0, min m 138) := by
        unfold saysM
        rw [if_neg (by simp), if_neg (by simp), if_neg (by simp), if_pos ⟨rfl, by omega, by omega⟩]
        simp; omega
      rw [withM_ok hs (by omega)]
      simp only
      rw [ih (m - min m 138) (by omega) _ (by simp; omega), List.append_assoc, List.replicate_append_replicate, show min m 138 + (m - min m 138) = m by omega]
    · by_cases h3 : 3 ≤ m
      · rw [zerosM_mid m (by omega) h3, runM_one]
        have hs : saysM (17, ((m - 3 : Nat) : Int)) l = some (0, m) := by
          unfold saysM
          rw [if_neg (by simp), if_neg (by simp), if_pos ⟨rfl, by omega, by omega⟩]
          simp; omega
        exact withM_ok hs hf
      · rw [zerosM_few m (by omega)]
        exact runM_plain n 0 m l (by omega) hf

theorem runM_again (n v m : Nat) (l : List Nat) (h15 : v ≤ 15) (hl : 0 < l.length) (hv : lastN l = v) (hf : l.length + m ≤ n) : runM n l (againM v m) = some (l ++ List.replicate m v) := by
  induction m using Nat.strongRecOn generalizing l with
  | ind m ih =>
    by_cases h : 3 ≤ m
    · rw [againM_big v m h, runM]
      have hs : saysM (16, ((min m 6 - 3 : Nat) : Int)) l = some (v, min m 6) := by
        unfold saysM
        rw [if_neg (by simp), if_pos ⟨rfl, by omega, by omega, hl⟩, hv]
        simp; omega
      rw [withM_ok hs (by omega)]
      simp only
      have hlast : lastN (l ++ List.replicate (min m 6) v) = v := by
        have hk : 0 < min m 6 := by omega
        generalize min m 6 = k at hk ⊢
        obtain ⟨k, rfl⟩ : ∃ j, k = j + 1 := ⟨k - 1, by omega⟩
        unfold lastN
        rw [List.replicate_succ', ← List.append_assoc]
        simp
      rw [ih (m - min m 6) (by omega) _ (by simp; omega) hlast (by simp; omega), List.append_assoc, List.replicate_append_replicate, show min m 6 + (m - min m 6) = m by omega]
    · rw [againM_few v m (by omega)]
      exact runM_plain n v m l h15 hf

theorem runM_say (n v m : Nat) (l : List Nat) (h15 : v ≤ 15) (hm : 1 ≤ m) (hf : l.length + m ≤ n) : runM n l (sayM v m) = some (l ++ List.replicate m v) := by
  unfold sayM
  split
  · rename_i h0
    subst h0
    exact runM_zeros n m l hf
  · rw [runM, withM_ok (says_plain v l h15) (by omega)]
    simp only
    have hlast : lastN (l ++ List.replicate 1 v) = v := by simp [lastN]
    rw [runM_again n v (m - 1) _ h15 (by simp) hlast (by simp; omega), List.append_assoc, List.replicate_append_replicate, show 1 + (m - 1) = m by omega]

/-- What is packed is unpacked. -/
theorem runM_pack (n : Nat) (r : List Nat) (l : List Nat) (h15 : ∀ x ∈ r, x ≤ 15) (hf : l.length + r.length ≤ n) : runM n l (packM r) = some (l ++ r) := by
  induction hn : r.length using Nat.strongRecOn generalizing r l with
  | ind k ih =>
    cases r with
    | nil => simp [packM, runM]
    | cons v r =>
      have hfr := frontN_le v r
      rw [packM_cons, runM_append, runM_say n v _ l (h15 v (by simp)) (by omega) (by simp at hf; omega)]
      simp only [Option.bind_some]
      rw [ih (r.drop (frontN v r)).length (by simp at hn ⊢; omega) _ _ (fun x hx => h15 x (List.mem_cons_of_mem _ (List.mem_of_mem_drop hx))) (by simp at hf ⊢; omega) rfl, List.append_assoc, ← front_split]

end Go.Proofs.YtofhlnpbflkdlaaDoor

/-
  Rows of some cells an element: read, written, appended to.
-/
namespace Go.Proofs.YtofhlnpbflkdlaaDoor
open Go.RowKit

/-- An element's cells: so many, each of one cell. -/
structure EncOk {α : Type} (enc : α → List Value) (k : Nat) : Prop where
  len : ∀ x, (enc x).length = k
  one : ∀ x, ∀ u ∈ enc x, u.oneCell' = true
  pos : 0 < k

theorem flat_length {α : Type} {enc : α → List Value} {k : Nat} (h : EncOk enc k) (xs : List α) : (xs.flatMap enc).length = xs.length * k := by
  induction xs with
  | nil => simp
  | cons a r ih => rw [List.flatMap_cons, List.length_append, ih, h.len, List.length_cons, Nat.succ_mul]; omega

theorem flat_get {α : Type} {enc : α → List Value} {k : Nat} (h : EncOk enc k) (xs : List α) (j i : Nat) (hj : j < xs.length) (hi : i < k) : (xs.flatMap enc)[j * k + i]? = (enc xs[j])[i]? := by
  induction xs generalizing j with
  | nil => simp at hj
  | cons a r ih =>
    rw [List.flatMap_cons]
    cases j with
    | zero =>
      rw [Nat.zero_mul, Nat.zero_add, List.getElem?_append_left (by rw [h.len]; exact hi)]
      rfl
    | succ j =>
      rw [List.getElem?_append_right (by rw [h.len, Nat.succ_mul]; omega), h.len, show (j + 1) * k + i - k = j * k + i by rw [Nat.succ_mul]; omega, ih j (by simpa using hj)]
      rfl

theorem flat_one {α : Type} {enc : α → List Value} {k : Nat} (h : EncOk enc k) (xs : List α) : ∀ u ∈ xs.flatMap enc, u.oneCell' = true := by
  intro u hu
  obtain ⟨x, _, hx⟩ := List.mem_flatMap.1 hu
  exact h.one x u hx

/-- A slice at the head of a row of its own, which lies at block B or beyond. -/
abbrev RowC {α : Type} (B : Nat) (t : TypeId) (k : Nat) (enc : α → List Value) (w : World) (v : Value) (xs : List α) : Prop := w.ownsRow B t k v xs.length (xs.flatMap enc)

/-- A slice that can be read; its block fits I. -/
def SrcC {α : Type} (k : Nat) (enc : α → List Value) (w : World) (I : Nat → Prop) (v : Value) (xs : List α) : Prop :=
  ∃ ao cap, v = .slice ao xs.length cap ∧ xs.length ≤ cap ∧ (xs ≠ [] → ∃ b o, ao = Option.some ⟨b, o, none⟩ ∧ I b ∧ ∀ j (_ : j < xs.length) i (_ : i < k), w.cell? ⟨b, o + (j * k + i), none⟩ = (enc xs[j])[i]?)

section
variable {α : Type} {B : Nat} {t k : Nat} {enc : α → List Value} {w : World} {v : Value} {xs : List α}

theorem RowC.kept {F : Nat → Prop} {w' : World} (h : RowC B t k enc w v xs) (hk : Kept F w w') (hn : ∀ j, v.ownBlock = some j → ¬ F j) : RowC B t k enc w' v xs := by
  refine ⟨h.1, ?_⟩
  rcases h.2 with hn' | ⟨g, cap, cur, rfl, hb, hgg, rest⟩
  · exact .inl hn'
  · refine .inr ⟨g, cap, cur, rfl, hb, ?_, rest⟩
    rw [hk.block g (Array.getElem?_eq_some_iff.1 hgg).1 (hn g rfl)]
    exact hgg

theorem RowC.base {B' : Nat} (h : RowC B t k enc w v xs) (hb : B' ≤ B) : RowC B' t k enc w v xs := by
  refine ⟨h.1, ?_⟩
  rcases h.2 with hn' | ⟨g, cap, cur, rfl, hb', rest⟩
  · exact .inl hn'
  · exact .inr ⟨g, cap, cur, rfl, Nat.le_trans hb hb', rest⟩

theorem RowC.nil : RowC B t k enc w (.slice none 0 0) ([] : List α) := World.ownsRow_nil w B t k

theorem RowC.lt (h : RowC B t k enc w v xs) {j : Nat} (hj : v.ownBlock = some j) : j < w.heap.size := (World.ownsRow.lt h j hj).2
theorem RowC.ge (h : RowC B t k enc w v xs) {j : Nat} (hj : v.ownBlock = some j) : B ≤ j := (World.ownsRow.lt h j hj).1

theorem RowC.shape (h : RowC B t k enc w v xs) : ∃ ao cap, v = .slice ao xs.length cap ∧ (xs ≠ [] → ∃ g, ao = some ⟨g, 0, none⟩) ∧ (ao = none → cap = 0) ∧ xs.length ≤ cap ∧ cap ≤ maxLen := by
  rcases h.2 with ⟨rfl, hn⟩ | ⟨g, cap, cur, rfl, _, _, h1, h2, _⟩
  · exact ⟨none, 0, by rw [hn], fun hb => absurd (List.eq_nil_of_length_eq_zero hn) hb, fun _ => rfl, by omega, by omega⟩
  · exact ⟨_, cap, rfl, fun _ => ⟨g, rfl⟩, (fun e => by cases e), h1, h2⟩

theorem RowC.len {g n cap : Nat} (h : RowC B t k enc w (.slice (Option.some ⟨g, 0, none⟩) n cap) xs) : xs.length = n := by
  rcases h.2 with ⟨e, _⟩ | ⟨_, _, _, e, _⟩
  · simp at e
  · injection e with _ e _; exact e.symm

theorem RowC.cell {g n cap : Nat} (ok : EncOk enc k) (h : RowC B t k enc w (.slice (Option.some ⟨g, 0, none⟩) n cap) xs) (j i : Nat) (hj : j < xs.length) (hi : i < k) : w.cell? ⟨g, j * k + i, none⟩ = (enc xs[j])[i]? := by
  have hl := h.len
  subst hl
  have hlt : j * k + i < xs.length * k := by
    have : (j + 1) * k ≤ xs.length * k := Nat.mul_le_mul_right k hj
    rw [Nat.succ_mul] at this
    omega
  rw [h.cellAt (j * k + i) hlt, flat_get ok xs j i hj hi]

theorem RowC.frozen {g n cap : Nat} (h : RowC B t k enc w (.slice (Option.some ⟨g, 0, none⟩) n cap) xs) (j : Nat) : w.frozen? ⟨g, j, none⟩ = false := by
  have hl := h.len
  subst hl
  exact World.ownsRow.frozenAt h j

theorem SrcC.ofRow (ok : EncOk enc k) (h : RowC B t k enc w v xs) : SrcC k enc w (fun j => v.ownBlock = Option.some j) v xs := by
  obtain ⟨ao, cap, hv, hg, _, hc, _⟩ := h.shape
  refine ⟨ao, cap, hv, hc, fun hne => ?_⟩
  obtain ⟨g, hg⟩ := hg hne
  subst hg hv
  refine ⟨g, 0, rfl, rfl, fun j hj i hi => ?_⟩
  rw [Nat.zero_add]
  exact RowC.cell ok h j i hj hi

theorem SrcC.mono {I J : Nat → Prop} (h : SrcC k enc w I v xs) (hJ : ∀ j, I j → J j) : SrcC k enc w J v xs := by
  obtain ⟨ao, cap, hv, hcap, hc⟩ := h
  refine ⟨ao, cap, hv, hcap, fun hne => ?_⟩
  obtain ⟨b, o, h1, h2, h3⟩ := hc hne
  exact ⟨b, o, h1, hJ b h2, h3⟩

theorem SrcC.block (ok : EncOk enc k) {I : Nat → Prop} (h : SrcC k enc w I v xs) (hne : xs ≠ []) : ∃ b o cap, v = .slice (Option.some ⟨b, o, none⟩) xs.length cap ∧ I b ∧ b < w.heap.size := by
  obtain ⟨ao, cap, hv, hcap, hc⟩ := h
  obtain ⟨b, o, rfl, h2, h3⟩ := hc hne
  have hlen : 0 < xs.length := List.length_pos_iff.2 hne
  have hc := h3 0 hlen 0 ok.pos
  have hl := ok.len xs[0]
  have hp := ok.pos
  rw [List.getElem?_eq_getElem (by omega)] at hc
  exact ⟨b, o, cap, hv, h2, World.block_lt_of_cell? w _ hc⟩

theorem SrcC.kept (ok : EncOk enc k) {F I : Nat → Prop} {w' : World} (h : SrcC k enc w I v xs) (hk : Kept F w w') (hn : ∀ j, I j → j < w.heap.size → ¬ F j) : SrcC k enc w' I v xs := by
  obtain ⟨ao, cap, hv, hcap, hc⟩ := h
  refine ⟨ao, cap, hv, hcap, fun hne => ?_⟩
  obtain ⟨b, o, h1, h2, h3⟩ := hc hne
  refine ⟨b, o, h1, h2, fun j hj i hi => ?_⟩
  have hc := h3 j hj i hi
  have hl := ok.len xs[j]
  rw [List.getElem?_eq_getElem (by omega)] at hc ⊢
  exact hk.cell hc (hn b h2 (World.block_lt_of_cell? w _ hc))

theorem SrcC.low (ok : EncOk enc k) {I : Nat → Prop} (h : SrcC k enc w I v xs) : SrcC k enc w (fun j => I j ∧ j < w.heap.size) v xs := by
  obtain ⟨ao, cap, hv, hcap, hc⟩ := h
  refine ⟨ao, cap, hv, hcap, fun hne => ?_⟩
  obtain ⟨b, o, h1, h2, h3⟩ := hc hne
  have hlen : 0 < xs.length := List.length_pos_iff.2 hne
  have hc0 := h3 0 hlen 0 ok.pos
  have hl := ok.len xs[0]
  have hp := ok.pos
  rw [List.getElem?_eq_getElem (by omega)] at hc0
  exact ⟨b, o, h1, ⟨h2, World.block_lt_of_cell? w _ hc0⟩, h3⟩

end

/-- append of such cells onto a row of one's own. -/
theorem wpList_append_c {α : Type} {ops : Array Oper} {rest : List Oper} {o : Oper} {a : Act} {Q : Exit → Act → World → Prop} (w : World) (enc : α → List Value) (k : Nat) (ok : EncOk enc k) (_hk : k ≤ 100) (B sT eT : Nat) (z : Value) (bytes : Nat)
    (hU : Tryd.prog.underlying sT = some (.slice eT)) (hI : (Tryd.prog.info? eT).map (fun i => (i.zero, i.size, i.bytes)) = some (some z, k, bytes)) (hz : z.cells.size = k) (hby : bytes ≤ 1000) (hgd : o.guard = none) (s x : Operand)
    (ho : o.op = .call { callee := .builtin .append, args := #[s, x], argTypes := #[sT, sT] })
    (v : Value) (xs : List α) (hs : a.eval s = v) (hrow : RowC B eT k enc w v xs) (ad : Addr) (m c : Nat) (cs : List α) (hx : a.eval x = .slice (some ad) m c) (hm : cs.length = m) (hcs : CellsAt w ad (cs.flatMap enc)) (hlen : xs.length + cs.length ≤ 1000000000) (hB : B ≤ w.heap.size)
    (h : ∀ v' w', RowC B eT k enc w' v' (xs ++ cs) → w.grownBy w' v.ownBlock → wpList Tryd.prog ops Q rest (a.put o.dst v') w') : wpList Tryd.prog ops Q (o :: rest) a w := by
  subst hm
  obtain ⟨i0, hi, hz0, hz1, hz2⟩ := info_parts hI
  have hmul : (xs.length + cs.length) * bytes ≤ 1000000000 * 1000 := Nat.mul_le_mul hlen hby
  refine wpList_append_own w hgd s x sT ho B eT i0 z k bytes hU hi hz0 hz1 hz2 hz ok.pos v xs.length (xs.flatMap enc) hs hrow ad cs.length c (cs.flatMap enc) hx (flat_length ok cs) hcs (flat_one ok cs) (by simp only [maxLen]; omega) (by omega) hB ?_
  intro v' w' h1 h2 _
  refine h v' w' ?_ h2
  unfold RowC
  rw [List.length_append, List.flatMap_append]
  exact h1

end Go.Proofs.YtofhlnpbflkdlaaDoor
