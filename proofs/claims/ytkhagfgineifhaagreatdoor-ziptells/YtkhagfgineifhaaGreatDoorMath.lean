namespace Go.Proofs.YtkhagfgineifhaaGreatDoor

def aO : List Nat → Nat
  | [] => 0
  | b :: r => b + 256 * aO r

def n2 : List Nat → Nat
  | [] => 0
  | b :: r => b + 2 * n2 r

theorem fQ (a b : List Nat) : aO (a ++ b) = aO a + 256 ^ a.length * aO b := by
  induction a with
  | nil => simp [aO]
  | cons x r ih =>
    simp only [List.cons_append, aO, ih, List.length_cons, Nat.pow_succ, Nat.mul_add, Nat.add_assoc]
    rw [Nat.mul_comm (256 ^ r.length) 256, Nat.mul_assoc]

theorem dw (a b : List Nat) : n2 (a ++ b) = n2 a + 2 ^ a.length * n2 b := by
  induction a with
  | nil => simp [n2]
  | cons x r ih =>
    simp only [List.cons_append, n2, ih, List.length_cons, Nat.pow_succ, Nat.mul_add, Nat.add_assoc]
    rw [Nat.mul_comm (2 ^ r.length) 2, Nat.mul_assoc]

theorem mL (l : List Nat) (h : ∀ b ∈ l, b < 256) : aO l < 256 ^ l.length := by
  induction l with
  | nil => simp [aO]
  | cons x r ih =>
    have h1 := h x (by simp)
    have h2 := ih (fun b hb => h b (by simp [hb]))
    simp only [aO, List.length_cons, Nat.pow_succ]
    omega

theorem vR (l : List Nat) (h : ∀ b ∈ l, b < 2) : n2 l < 2 ^ l.length := by
  induction l with
  | nil => simp [n2]
  | cons x r ih =>
    have h1 := h x (by simp)
    have h2 := ih (fun b hb => h b (by simp [hb]))
    simp only [n2, List.length_cons, Nat.pow_succ]
    omega

theorem Hp (a b : List Nat) (hl : a.length = b.length) (ha : ∀ x ∈ a, x < 256) (hb : ∀ x ∈ b, x < 256) (h : aO a = aO b) : a = b := by
  induction a generalizing b with
  | nil => cases b with
    | nil => rfl
    | cons => simp at hl
  | cons x r ih => cases b with
    | nil => simp at hl
    | cons y s =>
      have h1 := ha x (by simp)
      have h2 := hb y (by simp)
      simp only [aO] at h
      simp only [List.length_cons, Nat.add_right_cancel_iff] at hl
      have e := ih s hl (fun b jD => ha b (by simp [jD])) (fun b jD => hb b (by simp [jD])) (by omega)
      rw [e]
      congr 1
      omega

theorem Kh (k : Nat) : 256 ^ k = 2 ^ (8 * k) := by rw [Nat.pow_mul]

theorem FF (l : List Nat) (h : ∀ b ∈ l, b < 256) (i : Nat) (hi : i < l.length) : aO l / 2 ^ (8 * i) % 256 = l[i] := by
  rw [← Kh]
  induction l generalizing i with
  | nil => simp at hi
  | cons x r ih =>
    have h1 := h x (by simp)
    cases i with
    | zero => simp [aO]; omega
    | succ k =>
      have := ih (fun b hb => h b (by simp [hb])) k (by simpa using hi)
      simp only [aO, Nat.pow_succ, List.getElem_cons_succ]
      rw [Nat.mul_comm (256 ^ k) 256, ← Nat.div_div_eq_div_mul, show (x + 256 * aO r) / 256 = aO r by omega]
      exact this

theorem Kn (bs : List Nat) (b c free : Nat) (hc : 8 * (bs.length + 1) = c + free) (hf : free ≤ 8) (h : aO (bs ++ [b]) < 2 ^ c) : b < 2 ^ (8 - free) := by
  rw [fQ] at h
  simp only [aO, Nat.mul_zero, Nat.add_zero] at h
  have e : c = 8 * bs.length + (8 - free) := by omega
  rw [e, Nat.pow_add, ← Kh] at h
  have : 256 ^ bs.length * b < 256 ^ bs.length * 2 ^ (8 - free) := by omega
  exact Nat.lt_of_mul_lt_mul_left this

theorem GC (bs : List Nat) (b c free x : Nat) (hc : 8 * (bs.length + 1) = c + free) (hf : free ≤ 8) : aO (bs ++ [b + 2 ^ (8 - free) * x]) = aO (bs ++ [b]) + 2 ^ c * x := by
  have e : c = 8 * bs.length + (8 - free) := by omega
  simp only [fQ, aO, Nat.mul_zero, Nat.add_zero]
  rw [e, Nat.pow_add, ← Kh, Nat.mul_add, Nat.mul_assoc, Nat.add_assoc]

theorem Gs (b k x : Nat) (h : b < 2 ^ k) : b ||| (2 ^ k * x) = b + 2 ^ k * x := by
  rw [Nat.or_comm, ← Nat.two_pow_add_eq_or_of_lt h, Nat.add_comm]

theorem Gc (v free : Nat) (hf : free ≤ 8) : v * 2 ^ (8 - free) % 256 = 2 ^ (8 - free) * (v % 2 ^ free) := by
  have : (256 : Nat) = 2 ^ (8 - free) * 2 ^ free := by rw [← Nat.pow_add]; simp [hf]
  rw [this, Nat.mul_comm, Nat.mul_mod_mul_left]

theorem CO (v k : Nat) : v % 2 ^ k + 2 ^ k * (v / 2 ^ k) = v := by rw [Nat.mod_add_div]

theorem GV (X v n c free : Nat) (hv : v < 2 ^ n) :
    X + 2 ^ c * (v % 2 ^ free) + v / 2 ^ (min free n) * 2 ^ (c + min free n) = X + v * 2 ^ c := by
  by_cases h : free ≤ n
  · rw [Nat.min_eq_left h, Nat.pow_add]
    have e := CO v free
    calc X + 2 ^ c * (v % 2 ^ free) + v / 2 ^ free * (2 ^ c * 2 ^ free) = X + 2 ^ c * (v % 2 ^ free + 2 ^ free * (v / 2 ^ free)) := by
          rw [Nat.mul_add, Nat.add_assoc]; congr 2; rw [Nat.mul_comm, Nat.mul_assoc]
      _ = _ := by rw [e, Nat.mul_comm]
  · have h' : n ≤ free := by omega
    have h2 : v < 2 ^ free := Nat.lt_of_lt_of_le hv (Nat.pow_le_pow_right (by omega) h')
    rw [Nat.min_eq_right h', Nat.div_eq_of_lt hv, Nat.mod_eq_of_lt h2, Nat.zero_mul, Nat.add_zero, Nat.mul_comm]

theorem D0 (Z u k : Nat) (h : u + k ≤ 8) : Z % 256 / 2 ^ u % 2 ^ k = Z / 2 ^ u % 2 ^ k := by
  have e : (256 : Nat) = 2 ^ u * 2 ^ (8 - u) := by rw [← Nat.pow_add, show u + (8 - u) = 8 by omega]
  rw [e, Nat.mod_mul_right_div_self, Nat.mod_mod_of_dvd _ (Nat.pow_dvd_pow 2 (by omega))]

theorem tm (Y a k : Nat) : Y % 2 ^ (a + k) = Y % 2 ^ a + 2 ^ a * (Y / 2 ^ a % 2 ^ k) := by
  rw [Nat.pow_add, Nat.mod_mul]

theorem G9 (bs : List Nat) (hb : ∀ b ∈ bs, b < 256) (g got k : Nat) (hk : (g + got) % 8 + k ≤ 8) (hlt : (g + got) / 8 < bs.length) :
    aO bs / 2 ^ g % 2 ^ got + 2 ^ got * (bs[(g + got) / 8] / 2 ^ ((g + got) % 8) % 2 ^ k) = aO bs / 2 ^ g % 2 ^ (got + k) := by
  have e := FF bs hb _ hlt
  rw [← e, D0 _ _ _ hk, Nat.div_div_eq_div_mul, ← Nat.pow_add, show 8 * ((g + got) / 8) + (g + got) % 8 = g + got by omega, tm, Nat.div_div_eq_div_mul, ← Nat.pow_add]

theorem ye (x k : Nat) : x &&& (2 ^ k - 1) = x % 2 ^ k := Nat.and_two_pow_sub_one_eq_mod x k

end Go.Proofs.YtkhagfgineifhaaGreatDoor

