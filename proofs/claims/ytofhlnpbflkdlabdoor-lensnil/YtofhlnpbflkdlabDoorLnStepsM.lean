/-
  Unpack of Pack; how long a head is.
-/
import Derived.Test.YtofhlnpbflkdlabDoorLnWrM
namespace Go.Proofs.YtofhlnpbflkdlabDoor

theorem withM_mono {l m : List Nat} {s : Int × Int} {n n' : Nat} (h : n' ≤ n) (hw : withM l s n' = some m) : withM l s n = some m := by
  unfold withM at hw ⊢
  split at hw
  · cases hw
  · split at hw
    · cases hw
    · rename_i v k hs _
      rw [if_neg (by omega)]
      exact hw

theorem runM_mono {l m : List Nat} {ss : List (Int × Int)} {n n' : Nat} (h : n' ≤ n) (hr : runM n' l ss = some m) : runM n l ss = some m := by
  induction ss generalizing l with
  | nil => exact hr
  | cons a r ih =>
    simp only [runM] at hr ⊢
    cases hw : withM l a n' with
    | none => rw [hw] at hr; cases hr
    | some k =>
      rw [hw] at hr
      rw [withM_mono h hw]
      exact ih hr

theorem unp_same (l : List Nat) (h15 : ∀ x ∈ l, x ≤ 15) (hn : l.length ≤ 316) : unpM (packM l) (l.length : Int) = .ok l := by
  unfold unpM
  rw [if_neg (by omega), Int.toNat_natCast, runM_pack l.length l [] h15 (by simp)]
  simp

theorem unp_less (l : List Nat) (h15 : ∀ x ∈ l, x ≤ 15) (hn : l.length ≤ 316) (h0 : 0 < l.length) : unpM (packM l) ((l.length : Int) - 1) = .error 41 := by
  unfold unpM
  rw [if_neg (by omega)]
  have e : ((l.length : Int) - 1).toNat = l.length - 1 := by omega
  rw [e]
  cases hr : runM (l.length - 1) [] (packM l) with
  | none => rfl
  | some m =>
    exfalso
    have h1 := runM_mono (n := l.length) (by omega) hr
    rw [runM_pack l.length l [] h15 (by simp)] at h1
    simp only [List.nil_append, Option.some.injEq] at h1
    have h2 := runM_le hr (by simp) (by simp)
    rw [← h1] at h2
    omega

theorem unp_more (l : List Nat) (h15 : ∀ x ∈ l, x ≤ 15) (hn : l.length < 316) : unpM (packM l) ((l.length : Int) + 1) = .error 41 := by
  unfold unpM
  rw [if_neg (by omega)]
  have e : ((l.length : Int) + 1).toNat = l.length + 1 := by omega
  rw [e, runM_pack (l.length + 1) l [] h15 (by simp)]
  simp

theorem unp_far (ss : List (Int × Int)) (n : Int) (h : n < 0 ∨ 316 < n) : unpM ss n = .error 1 := by
  unfold unpM
  rw [if_pos h]

theorem xbits_le (s : Nat) : xbits s ≤ 7 := by
  unfold xbits
  split
  · omega
  · split
    · omega
    · split <;> omega

theorem steps_len (cs : List Nat) (h7 : ∀ x ∈ cs, x ≤ 7) (ss : List (Nat × Nat)) : (ss.flatMap (stepBits cs)).length ≤ 14 * ss.length := by
  induction ss with
  | nil => simp
  | cons s r ih =>
    rw [List.flatMap_cons, List.length_append, stepBits_length, List.length_cons]
    have h1 := xbits_le s.1
    have h2 : key cs s.1 ≤ 7 := by
      by_cases e : s.1 < cs.length
      · rw [key_get e]; exact h7 _ (List.getElem_mem e)
      · simp [key, e]
    omega

theorem head_len {lit dist : List Nat} {many : Nat} {cs : List Nat} {ss : List (Nat × Nat)} (h : HeadOk lit dist many cs ss) (hs : ss.length ≤ lit.length + dist.length) : (headBits lit.length dist.length many cs ss).length ≤ 71 + 14 * (lit.length + dist.length) := by
  rw [headBits_length]
  have h1 := steps_len cs h.c7 ss
  have h2 := h.m2
  omega

/-- Pack's steps in numbers from 0 on, and what they are. -/
def packN (l : List Nat) : List (Nat × Nat) := (packM l).map (fun s => (s.1.toNat, s.2.toNat))

/-- A step that may be. -/
def StepIs (s : Int × Int) : Prop := 0 ≤ s.1 ∧ s.1 ≤ 18 ∧ 0 ≤ s.2 ∧ s.2.toNat < 2 ^ xbits s.1.toNat

theorem zerosM_is (n : Nat) : ∀ s ∈ zerosM n, StepIs s := by
  induction n using Nat.strongRecOn with
  | ind n ih =>
    intro s hs
    by_cases h : 11 ≤ n
    · rw [zerosM_big n h] at hs
      rcases List.mem_cons.1 hs with rfl | hs
      · refine ⟨by simp, by simp, by simp only; omega, ?_⟩
        show (((min n 138 - 11 : Nat) : Int)).toNat < 2 ^ 7
        omega
      · exact ih _ (by omega) s hs
    · by_cases h3 : 3 ≤ n
      · rw [zerosM_mid n (by omega) h3] at hs
        have : s = (17, ((n - 3 : Nat) : Int)) := by simpa using hs
        subst this
        refine ⟨by simp, by simp, by simp only; omega, ?_⟩
        show (((n - 3 : Nat) : Int)).toNat < 2 ^ 3
        omega
      · rw [zerosM_few n (by omega)] at hs
        have := List.eq_of_mem_replicate hs
        subst this
        exact ⟨by simp, by simp, by simp, by decide⟩

theorem againM_is (v n : Nat) (hv : v ≤ 15) : ∀ s ∈ againM v n, StepIs s := by
  induction n using Nat.strongRecOn with
  | ind n ih =>
    intro s hs
    by_cases h : 3 ≤ n
    · rw [againM_big v n h] at hs
      rcases List.mem_cons.1 hs with rfl | hs
      · refine ⟨by simp, by simp, by simp only; omega, ?_⟩
        show (((min n 6 - 3 : Nat) : Int)).toNat < 2 ^ 2
        omega
      · exact ih _ (by omega) s hs
    · rw [againM_few v n (by omega)] at hs
      have := List.eq_of_mem_replicate hs
      subst this
      refine ⟨by simp, by simp only; omega, by simp, ?_⟩
      show (0 : Int).toNat < 2 ^ xbits _
      exact Nat.two_pow_pos _

theorem sayM_is (v n : Nat) (hv : v ≤ 15) : ∀ s ∈ sayM v n, StepIs s := by
  intro s hs
  unfold sayM at hs
  split at hs
  · exact zerosM_is n s hs
  · rcases List.mem_cons.1 hs with rfl | hs
    · refine ⟨by simp, by simp only; omega, by simp, ?_⟩
      show (0 : Int).toNat < 2 ^ xbits _
      exact Nat.two_pow_pos _
    · exact againM_is v _ hv s hs

theorem packM_is (l : List Nat) (h15 : ∀ x ∈ l, x ≤ 15) : ∀ s ∈ packM l, StepIs s := by
  induction hn : l.length using Nat.strongRecOn generalizing l with
  | ind n ih =>
    cases l with
    | nil => intro s hs; simp [packM] at hs
    | cons v r =>
      intro s hs
      rw [packM_cons] at hs
      rcases List.mem_append.1 hs with hs | hs
      · exact sayM_is v _ (h15 v (by simp)) s hs
      · exact ih (r.drop (frontN v r)).length (by simp at hn ⊢; omega) _ (fun x hx => h15 x (List.mem_cons_of_mem _ (List.mem_of_mem_drop hx))) rfl s hs

theorem packN_cast (l : List Nat) (h15 : ∀ x ∈ l, x ≤ 15) : (packN l).map (fun s => ((s.1 : Int), (s.2 : Int))) = packM l := by
  unfold packN
  rw [List.map_map]
  conv => rhs; rw [← List.map_id (packM l)]
  refine List.map_congr_left (fun s hs => ?_)
  have h := packM_is l h15 s hs
  simp only [Function.comp, id]
  rw [Int.toNat_of_nonneg h.1, Int.toNat_of_nonneg h.2.2.1]

theorem packN_length (l : List Nat) : (packN l).length ≤ l.length := by
  unfold packN
  rw [List.length_map]
  exact packM_len l

end Go.Proofs.YtofhlnpbflkdlabDoor
