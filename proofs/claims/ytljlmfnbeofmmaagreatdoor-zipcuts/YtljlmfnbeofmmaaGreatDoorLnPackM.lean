import Derived.Test.YtljlmfnbeofmmaaGreatDoorLnM
namespace Go.Proofs.YtljlmfnbeofmmaaGreatDoor

theorem zerosM_big (n : Nat) (h : 11 ≤ n) : zerosM n = (18, ((min n 138 - 11 : Nat) : Int)) :: zerosM (n - min n 138) := by
 rw [zerosM, if_pos h]
theorem zerosM_mid (n : Nat) (h : n < 11) (h3 : 3 ≤ n) : zerosM n = [(17, ((n - 3 : Nat) : Int))] := by
 rw [zerosM, if_neg (by omega), if_pos h3]
theorem zerosM_few (n : Nat) (h3 : n < 3) : zerosM n = List.replicate n (0, 0) := by
 rw [zerosM, if_neg (by omega), if_neg (by omega)]
theorem againM_big (v n : Nat) (h : 3 ≤ n) : againM v n = (16, ((min n 6 - 3 : Nat) : Int)) :: againM v (n - min n 6) := by
 rw [againM, if_pos h]
theorem againM_few (v n : Nat) (h : n < 3) : againM v n = List.replicate n ((v : Int), 0) := by
 rw [againM, if_neg (by omega)]

theorem zerosM_len (n : Nat) : (zerosM n).length ≤ n := by
 induction n using Nat.strongRecOn with
 | ind n ih =>
  by_cases h : 11 ≤ n
  ·rw [zerosM_big n h, List.length_cons]
   have := ih (n - min n 138) (by omega)
   omega
  ·by_cases h3 : 3 ≤ n
   ·rw [zerosM_mid n (by omega) h3]; simp; omega
   ·rw [zerosM_few n (by omega)]; simp

theorem againM_len (v n : Nat) : (againM v n).length ≤ n := by
 induction n using Nat.strongRecOn with
 | ind n ih =>
  by_cases h : 3 ≤ n
  ·rw [againM_big v n h, List.length_cons]
   have := ih (n - min n 6) (by omega)
   omega
  ·rw [againM_few v n (by omega)]; simp

theorem sayM_len (v n : Nat) (h : 1 ≤ n) : (sayM v n).length ≤ n := by
 unfold sayM
 split
 ·exact zerosM_len n
 ·rw [List.length_cons]; have := againM_len v (n - 1); omega

theorem packM_len (l : List Nat) : (packM l).length ≤ l.length := by
 induction hn : l.length using Nat.strongRecOn generalizing l with
 | ind n ih =>
  cases l with
  | nil => simp [packM]
  | cons v r =>
   rw [packM_cons, List.length_append]
   have h1 := sayM_len v (1 + frontN v r) (by omega)
   have h2 := frontN_le v r
   have h3 := ih (r.drop (frontN v r)).length (by simp at hn ⊢; omega) _ rfl
   simp at hn h3
   omega

theorem frontN_is (v : Nat) (r : List Nat) (m : Nat) (h1 : ∀ j (_ : j < r.length), j < m → r[j] = v) (hm : m ≤ r.length) (h2 : ∀ h : m < r.length, r[m] ≠ v) : frontN v r = m := by
 induction r generalizing m with
 | nil => simp at hm; subst hm; rfl
 | cons a r ih =>
  cases m with
  | zero =>
   have := h2 (by simp)
   simp at this
   simp [frontN, this]
  | succ m =>
   have ha := h1 0 (by simp) (by omega)
   simp at ha
   have h3 := ih m (fun j hj hjm => h1 (j + 1) (by simpa using hj) (by omega)) (by simpa using hm) (fun h => h2 (by simpa using h))
   unfold frontN at h3 ⊢
   rw [List.takeWhile_cons, if_pos (by simp [ha]), List.length_cons, h3]

theorem frontN_all (v : Nat) (r : List Nat) (j : Nat) (hj : j < r.length) (h : j < frontN v r) : r[j] = v := by
 induction r generalizing j with
 | nil => simp at hj
 | cons a r ih =>
  unfold frontN at h
  rw [List.takeWhile_cons] at h
  by_cases ha : a = v
  ·cases j with
   | zero => simpa using ha
   | succ j =>
    rw [if_pos (by simp [ha]), List.length_cons] at h
    simpa using ih j (by simpa using hj) (by unfold frontN; omega)
  ·rw [if_neg (by simp [ha])] at h
   simp at h

theorem front_split (v : Nat) (r : List Nat) : v :: r = List.replicate (1 + frontN v r) v ++ r.drop (frontN v r) := by
 have h := frontN_le v r
 rw [Nat.add_comm, List.replicate_succ, List.cons_append]
 congr 1
 have e : r.take (frontN v r) = List.replicate (frontN v r) v := by
  refine List.ext_getElem (by simp; omega) (fun j h1 h2 => ?_)
  simp at h1
  rw [List.getElem_take, List.getElem_replicate, frontN_all v r j (by omega) (by omega)]
 rw [← e, List.take_append_drop]

theorem withM_ok {l : List Nat} {s : Int × Int} {n v k : Nat} (h : saysM s l = some (v, k)) (hf : l.length + k ≤ n) : withM l s n = some (l ++ List.replicate k v) := by
 unfold withM
 rw [h]
 simp only
 rw [if_neg (by omega)]

theorem runM_append (n : Nat) (l : List Nat) (ss tt : List (Int × Int)) : runM n l (ss ++ tt) = (runM n l ss).bind (fun m => runM n m tt) := by
 induction ss generalizing l with
 | nil => rfl
 | cons a r ih =>
  simp only [List.cons_append, runM]
  cases withM l a n with
  | none => rfl
  | some m => exact ih m

theorem runM_one (n : Nat) (l : List Nat) (s : Int × Int) : runM n l [s] = withM l s n := by
 simp only [runM]
 cases withM l s n <;> rfl

theorem says_plain (v : Nat) (l : List Nat) (h : v ≤ 15) : saysM ((v : Int), 0) l = some (v, 1) := by
 unfold saysM
 rw [if_pos ⟨by omega, by simp only; omega, rfl⟩]
 simp

theorem runM_plain (n v k : Nat) (l : List Nat) (h : v ≤ 15) (hf : l.length + k ≤ n) : runM n l (List.replicate k ((v : Int), 0)) = some (l ++ List.replicate k v) := by
 induction k generalizing l with
 | zero => simp [runM]
 | succ k ih =>
  rw [List.replicate_succ, runM, withM_ok (says_plain v l h) (by omega)]
  simp only
  rw [ih _ (by simp; omega), List.append_assoc, List.replicate_append_replicate, Nat.add_comm]

theorem runM_zeros (n m : Nat) (l : List Nat) (hf : l.length + m ≤ n) : runM n l (zerosM m) = some (l ++ List.replicate m 0) := by
 induction m using Nat.strongRecOn generalizing l with
 | ind m ih =>
  by_cases h : 11 ≤ m
  ·rw [zerosM_big m h, runM]
   have hs : saysM (18, ((min m 138 - 11 : Nat) : Int)) l = some (0, min m 138) := by
    unfold saysM
    rw [if_neg (by simp), if_neg (by simp), if_neg (by simp), if_pos ⟨rfl, by omega, by omega⟩]
    simp; omega
   rw [withM_ok hs (by omega)]
   simp only
   rw [ih (m - min m 138) (by omega) _ (by simp; omega), List.append_assoc, List.replicate_append_replicate, show min m 138 + (m - min m 138) = m by omega]
  ·by_cases h3 : 3 ≤ m
   ·rw [zerosM_mid m (by omega) h3, runM_one]
    have hs : saysM (17, ((m - 3 : Nat) : Int)) l = some (0, m) := by
     unfold saysM
     rw [if_neg (by simp), if_neg (by simp), if_pos ⟨rfl, by omega, by omega⟩]
     simp; omega
    exact withM_ok hs hf
   ·rw [zerosM_few m (by omega)]
    exact runM_plain n 0 m l (by omega) hf

theorem runM_again (n v m : Nat) (l : List Nat) (h15 : v ≤ 15) (hl : 0 < l.length) (hv : lastN l = v) (hf : l.length + m ≤ n) : runM n l (againM v m) = some (l ++ List.replicate m v) := by
 induction m using Nat.strongRecOn generalizing l with
 | ind m ih =>
  by_cases h : 3 ≤ m
  ·rw [againM_big v m h, runM]
   have hs : saysM (16, ((min m 6 - 3 : Nat) : Int)) l = some (v, min m 6) := by
    unfold saysM
    rw [if_neg (by simp), if_pos ⟨rfl, by omega, by omega, hl⟩, hv]
    simp; omega
   rw [withM_ok hs (by omega)]
   simp only
   have hlast : lastN (l ++ List.replicate (min m 6) v) = v := by
    have hk : 0 < min m 6 := by omega
    generalize min m 6 = k at hk ⊢
    obtain ⟨k, rfl⟩ : ∃ j, k = j + 1 := ⟨k - 1, by omega⟩
    unfold lastN
    rw [List.replicate_succ', ← List.append_assoc]
    simp
   rw [ih (m - min m 6) (by omega) _ (by simp; omega) hlast (by simp; omega), List.append_assoc, List.replicate_append_replicate, show min m 6 + (m - min m 6) = m by omega]
  ·rw [againM_few v m (by omega)]
   exact runM_plain n v m l h15 hf

theorem runM_say (n v m : Nat) (l : List Nat) (h15 : v ≤ 15) (hm : 1 ≤ m) (hf : l.length + m ≤ n) : runM n l (sayM v m) = some (l ++ List.replicate m v) := by
 unfold sayM
 split
 ·rename_i h0
  subst h0
  exact runM_zeros n m l hf
 ·rw [runM, withM_ok (says_plain v l h15) (by omega)]
  simp only
  have hlast : lastN (l ++ List.replicate 1 v) = v := by simp [lastN]
  rw [runM_again n v (m - 1) _ h15 (by simp) hlast (by simp; omega), List.append_assoc, List.replicate_append_replicate, show 1 + (m - 1) = m by omega]

theorem runM_pack (n : Nat) (r : List Nat) (l : List Nat) (h15 : ∀ x ∈ r, x ≤ 15) (hf : l.length + r.length ≤ n) : runM n l (packM r) = some (l ++ r) := by
 induction hn : r.length using Nat.strongRecOn generalizing r l with
 | ind k ih =>
  cases r with
  | nil => simp [packM, runM]
  | cons v r =>
   have hfr := frontN_le v r
   rw [packM_cons, runM_append, runM_say n v _ l (h15 v (by simp)) (by omega) (by simp at hf; omega)]
   simp only [Option.bind_some]
   rw [ih (r.drop (frontN v r)).length (by simp at hn ⊢; omega) _ _ (fun x hx => h15 x (List.mem_cons_of_mem _ (List.mem_of_mem_drop hx))) (by simp at hf ⊢; omega) rfl, List.append_assoc, ← front_split]

end Go.Proofs.YtljlmfnbeofmmaaGreatDoor
