/-
  Joined: Bits, Ref, Ref2, Lend.
-/
import Derived.Test.YtaefgnakdadgeaaMath
import Derived.Test.YtaefgnakdadgeaaReader

/-
  Rows of bits, as the reference has them: plain arithmetic.
-/
namespace Go.Proofs.Ytaefgnakdadgeaa

/-- The n lowest bits of v, the lowest first. -/
def bitsOf (v : Nat) : Nat → List Nat
  | 0 => []
  | n + 1 => bitsOf v n ++ [v / 2 ^ n % 2]

theorem bitsOf_length (v n : Nat) : (bitsOf v n).length = n := by
  induction n with
  | zero => rfl
  | succ n ih => simp [bitsOf, ih]

theorem bitsOf_lt (v n : Nat) : ∀ b ∈ bitsOf v n, b < 2 := by
  induction n with
  | zero => simp [bitsOf]
  | succ n ih =>
    intro b hb
    rcases List.mem_append.1 hb with h | h
    · exact ih b h
    · simp at h; omega

theorem bitsOf_n2 (v n : Nat) : n2 (bitsOf v n) = v % 2 ^ n := by
  induction n with
  | zero => simp [bitsOf, n2, Nat.mod_one]
  | succ n ih =>
    rw [more_bits v n 1, bitsOf, n2_append, ih, bitsOf_length]
    simp [n2]

theorem n2_zeros (n : Nat) : n2 (List.replicate n 0) = 0 := by
  induction n with
  | zero => rfl
  | succ n ih => simp [List.replicate_succ, n2, ih]

theorem n2_put (ls : List Nat) (v n : Nat) (h : v < 2 ^ n) : n2 (ls ++ bitsOf v n) = n2 ls + v * 2 ^ ls.length := by
  rw [n2_append, bitsOf_n2, Nat.mod_eq_of_lt h, Nat.mul_comm]

theorem n2_align (ls : List Nat) (n : Nat) : n2 (ls ++ List.replicate n 0) = n2 ls := by
  rw [n2_append, n2_zeros]; simp

theorem n2_take_succ (l : List Nat) (t : Nat) (h : t < l.length) : n2 (l.take (t + 1)) = n2 (l.take t) + l[t] * 2 ^ t := by
  rw [List.take_succ_eq_append_getElem h, n2_append]
  simp [n2, Nat.mul_comm, Nat.min_eq_left (Nat.le_of_lt h)]

/-- The first j bytes of bits. -/
def outOf (ls : List Nat) : Nat → List Nat
  | 0 => []
  | j + 1 => outOf ls j ++ [n2 ((ls.drop (8 * j)).take 8)]

theorem outOf_length (ls : List Nat) (j : Nat) : (outOf ls j).length = j := by
  induction j with
  | zero => rfl
  | succ j ih => simp [outOf, ih]

theorem n2_take_lt (ls : List Nat) (h : ∀ b ∈ ls, b < 2) (i t : Nat) : n2 ((ls.drop i).take t) < 2 ^ t := by
  have h1 := n2_lt ((ls.drop i).take t) (fun b hb => h b (List.mem_of_mem_drop (List.mem_of_mem_take hb)))
  exact Nat.lt_of_lt_of_le h1 (Nat.pow_le_pow_right (by omega) (List.length_take_le _ _))

theorem outOf_lt (ls : List Nat) (h : ∀ b ∈ ls, b < 2) (j : Nat) : ∀ b ∈ outOf ls j, b < 256 := by
  induction j with
  | zero => simp [outOf]
  | succ j ih =>
    intro b hb
    rcases List.mem_append.1 hb with h' | h'
    · exact ih b h'
    · simp at h'; subst h'; exact n2_take_lt ls h _ 8

theorem outOf_n256 (ls : List Nat) (j : Nat) (hj : 8 * j ≤ ls.length + 7) : n256 (outOf ls j) = n2 (ls.take (8 * j)) := by
  induction j with
  | zero => simp [outOf, n256, n2]
  | succ j ih =>
    have e : ls.take (8 * (j + 1)) = ls.take (8 * j) ++ (ls.drop (8 * j)).take 8 := by
      rw [Nat.mul_succ, List.take_add]
    rw [e, n2_append, outOf, n256_append, ih (by omega), outOf_length, List.length_take, Nat.min_eq_left (by omega), pow8]
    simp [n256]

/-- All bytes. -/
theorem outOf_all (ls : List Nat) (j : Nat) (h1 : ls.length ≤ 8 * j) (h2 : 8 * j ≤ ls.length + 7) : n256 (outOf ls j) = n2 ls := by
  rw [outOf_n256 ls j h2, List.take_of_length_le h1]

/-- The bits of bytes: of each byte, from the first on, its eight bits. -/
def ofBytes : List Nat → List Nat
  | [] => []
  | b :: r => bitsOf b 8 ++ ofBytes r

theorem ofBytes_append (a b : List Nat) : ofBytes (a ++ b) = ofBytes a ++ ofBytes b := by
  induction a with
  | nil => rfl
  | cons x r ih => simp [ofBytes, ih]

theorem ofBytes_length (l : List Nat) : (ofBytes l).length = 8 * l.length := by
  induction l with
  | nil => rfl
  | cons x r ih => simp [ofBytes, ih, bitsOf_length]; omega

theorem ofBytes_lt (l : List Nat) : ∀ b ∈ ofBytes l, b < 2 := by
  induction l with
  | nil => simp [ofBytes]
  | cons x r ih =>
    intro b hb
    rcases List.mem_append.1 hb with h | h
    · exact bitsOf_lt x 8 b h
    · exact ih b h

theorem ofBytes_n2 (l : List Nat) (h : ∀ b ∈ l, b < 256) : n2 (ofBytes l) = n256 l := by
  induction l with
  | nil => rfl
  | cons x r ih =>
    have h1 := h x (by simp)
    rw [ofBytes, n2_append, bitsOf_n2, bitsOf_length, ih (fun b hb => h b (by simp [hb])), n256, show (2 : Nat) ^ 8 = 256 from rfl, Nat.mod_eq_of_lt h1]

/-- Some bits of a row, as a number. -/
theorem n2_part (ls : List Nat) (h : ∀ b ∈ ls, b < 2) (a n : Nat) (hl : a + n ≤ ls.length) : n2 ((ls.drop a).take n) = n2 ls / 2 ^ a % 2 ^ n := by
  have e1 : n2 ls = n2 (ls.take a) + 2 ^ a * n2 (ls.drop a) := by
    have := n2_append (ls.take a) (ls.drop a)
    rw [List.take_append_drop, List.length_take, Nat.min_eq_left (by omega)] at this
    exact this
  have h1 : n2 (ls.take a) < 2 ^ a := by
    have := n2_lt (ls.take a) (fun b hb => h b (List.mem_of_mem_take hb))
    rw [List.length_take, Nat.min_eq_left (by omega)] at this
    exact this
  have e2 : n2 (ls.drop a) = n2 ((ls.drop a).take n) + 2 ^ n * n2 ((ls.drop a).drop n) := by
    have := n2_append ((ls.drop a).take n) ((ls.drop a).drop n)
    rw [List.take_append_drop, List.length_take, List.length_drop, Nat.min_eq_left (by omega)] at this
    exact this
  have h2 := n2_take_lt ls h a n
  rw [e1, Nat.add_mul_div_left _ _ (Nat.two_pow_pos _), Nat.div_eq_of_lt h1, Nat.zero_add, e2, Nat.add_mul_mod_self_left, Nat.mod_eq_of_lt (show n2 (List.take n (List.drop a ls)) < 2 ^ n from h2)]

end Go.Proofs.Ytaefgnakdadgeaa

/-
  The reference's calls on rows of bits; what is written over.
-/
namespace Go.Proofs.Ytaefgnakdadgeaa
open Go.RowKit

/-- A row that came from another row by appending: what is known of it. -/
structure Grows (w w' : World) (v v' : Value) (bs : List Nat) : Prop where
  row : Row w' v' bs
  kept : Kept (fun k => v.ownBlock = some k) w w'
  own : Grew w v v'

theorem Grows.refl {w : World} {v : Value} {bs : List Nat} (h : Row w v bs) : Grows w w v v bs := ⟨h, Kept.refl _ _, .inl rfl⟩

/-- One byte more. -/
theorem Grows.app {w wr w1 : World} {v v1 v' : Value} {bs : List Nat} {x : Nat} {o : Obj} (h : Grows w wr v v1 bs) (hrow : Row w1 v' (bs ++ [x])) (hg : (wr.alloc o).grownBy w1 v1.ownBlock) (ho : v'.ownBlock = v1.ownBlock ∨ v'.ownBlock = some (wr.alloc o).heap.size) : Grows w w1 v v' (bs ++ [x]) := by
  have hsz := h.kept.size
  refine ⟨hrow, ?_, ?_⟩
  · refine Kept.grown (h.kept.alloc o) hg (fun k e => ?_)
    rcases h.own with e' | e'
    · exact .inl (by rw [← e', e])
    · exact .inr (e' k e)
  · rcases ho with e | e
    · rcases h.own with e' | e'
      · exact .inl (by rw [e, e'])
      · exact .inr (fun k hk => e' k (by rw [← e, hk]))
    · refine .inr (fun k hk => ?_)
      rw [e] at hk
      simp at hk
      omega



/-- How many noughts Align lays. -/
def gap (n : Nat) : Nat := (n + 7) / 8 * 8 - n



end Go.Proofs.Ytaefgnakdadgeaa

/-
  The reference's Bytes; what is written over.
-/
namespace Go.Proofs.Ytaefgnakdadgeaa
open Go.RowKit

theorem Grows.ofNil {w wr : World} {v v' : Value} {bs : List Nat} (h : Grows w wr v v' bs) (hv : v.ownBlock = none) : Kept (fun _ => False) w wr ∧ ∀ k, v'.ownBlock = some k → w.heap.size ≤ k := by
  refine ⟨h.kept.mono (fun x _ e => by rw [hv] at e; cases e), fun k hk => ?_⟩
  rcases h.own with e | e
  · rw [e, hv] at hk; cases hk
  · exact e k hk



/-- A byte of a row is written. -/
theorem Row.set {w : World} {g n cap : Nat} {ds : List Nat} (h : Row w (.slice (some ⟨g, 0, none⟩) n cap) ds) (j x : Nat) : Row (w.setCell ⟨g, j, none⟩ (.int .u8 x)) (.slice (some ⟨g, 0, none⟩) n cap) (ds.set j x) := by
  have hl : ds.length = n := by
    rcases h.2 with ⟨e, _⟩ | ⟨_, _, _, e, _⟩
    · simp at e
    · injection e with _ e _; exact e.symm
  subst hl
  have := (World.ownsRow.stored h j (.int .u8 x)).1
  rw [show (Value.int .u8 x) = byteV x from rfl, ← List.map_set] at this
  unfold Row
  rw [List.length_set]
  exact this



end Go.Proofs.Ytaefgnakdadgeaa

/-
  What is lent and comes back; a reader's More; the bits of bytes.
-/
namespace Go.Proofs.Ytaefgnakdadgeaa
open Go.RowKit

/-- append of whatever source of bytes. -/
theorem wpList_append_src {ops : Array Oper} {rest : List Oper} {o : Oper} {a : Act} {Q : Exit → Act → World → Prop} (w : World) (hgd : o.guard = none) (s x : Operand)
    (ho : o.op = .call { callee := .builtin .append, args := #[s, x], argTypes := #[26, 26] })
    (v : Value) (bs : List Nat) (hs : a.eval s = v) (hrow : Row w v bs) (I : Nat → Prop) (xv : Value) (cs : List Nat) (hx : a.eval x = xv) (hnil : ∀ n c, xv = .slice none n c → n = 0 ∧ c = 0) (hsrc : Src w I xv cs) (hlen : bs.length + cs.length ≤ 1000000000000)
    (h : ∀ v' w', Row w' v' (bs ++ cs) → w.grownBy w' v.ownBlock → (v'.ownBlock = v.ownBlock ∨ v'.ownBlock = some w.heap.size) → wpList Try.prog ops Q rest (a.put o.dst v') w') : wpList Try.prog ops Q (o :: rest) a w := by
  obtain ⟨ao, cap, rfl, hc⟩ := id hsrc
  cases ao with
  | some ad =>
    refine wpList_append_row w hgd s x ho v bs hs hrow ad cs.length cap cs hx rfl ?_ hlen h
    by_cases h0 : cs = []
    · subst h0; intro j u hu; simp at hu
    · obtain ⟨a', e, hb⟩ := (Src.at hsrc).2 h0
      injection e with e
      subst e
      exact hb
  | none =>
    obtain ⟨h0, h1⟩ := hnil _ _ rfl
    have hcs : cs = [] := List.eq_nil_of_length_eq_zero h0
    subst hcs h1
    obtain ⟨i0, hi, hz0, hz1, hz2⟩ := info_parts Try.info8
    refine wpList_plain hgd fun K hK => ?_
    have hr := run_append_owned_none (P := Try.prog) w 0 26 o.type 5 i0 1 Try.underlying26 hi v bs.length (bs.map byteV) hrow
    unfold Oper.wp execOp
    simp only [ho, resolve, invoke, builtin, Sem.run_bind, Sem.run_pure, Result.andThen_ok, List.map_toArray, List.map_cons, List.map_nil, hs, hx, List.length_nil, hr]
    exact hK _ _ (h v w (by simpa using hrow) (World.grownBy.refl _ _) (.inl rfl))



set_option maxHeartbeats 400000 in
theorem lend_any (w : World) (v : Value) (I : Nat → Prop) (cs : List Nat) (hsrc : Src w I v cs) (hlen : cs.length ≤ 100000000) :
    Calls Try.prog 14 #[v] w fun e w' => ∃ g, e = .returned (.slice (some ⟨g, 0, none⟩) cs.length (cs.length + 2)) ∧ Row w' (.slice (some ⟨g, 0, none⟩) (cs.length + 2) (cs.length + 2)) (cs ++ [165, 90]) ∧ Kept (fun _ => False) w w' ∧ w.heap.size ≤ g := by
  obtain ⟨ao, cap, rfl, _⟩ := id hsrc
  have HS : Hid (Src w I (.slice ao cs.length cap) cs) := hsrc
  clear hsrc
  go_enter Try.func14, Try.ntmps14
  go_wp2_with (first | (at_make; refine wpList_make_bytes _ rfl _ _ rfl _ _ _ _ (cs.length + 2) rfl rfl (by omega) (by omega) (by omega) ?_; intro w1 hr1 hg1 hs1; have HR : Hid (Row w1 (.slice (some ⟨w.heap.size, 0, none⟩) (cs.length + 2) (cs.length + 2)) (List.replicate (cs.length + 2) 0)) := hr1; have HK : Hid (Kept (fun _ => False) w w1) := (Kept.refl _ w).grown hg1 (by simp); clear hr1 hg1) | (with_reducible refine atCopy ?_; refine wpList_copy_bytes _ rfl (.tmp 8) (.tmp 9) rfl w.heap.size (cs.length + 2) (cs.length + 2) ao cs.length cap (List.replicate (cs.length + 2) 0) cs I rfl rfl HR.out (HS.out.kept HK.out (fun _ _ _ h => h)) (by simp) ?_))
  intro w2 hr2 hg2 hs2
  have hr2 : Row w2 (.slice (some ⟨w.heap.size, 0, none⟩) (cs.length + 2) (cs.length + 2)) (cs ++ [0, 0]) := by simpa using hr2
  have hr3 : Row w2 (.slice (some ⟨w.heap.size, 0, none⟩) (cs ++ [0, 0]).length (cs.length + 2)) (cs ++ [0, 0]) := by simpa using hr2
  have c1 : w2.cell? ⟨w.heap.size, cs.length, none⟩ = some (.int .u8 0) := by
    rw [Row.cell hr3 cs.length (by simp)]; simp
  have c2 : w2.cell? ⟨w.heap.size, cs.length + 1, none⟩ = some (.int .u8 0) := by
    rw [Row.cell hr3 (cs.length + 1) (by simp)]; simp
  have f1 : w2.frozen? ⟨w.heap.size, cs.length, none⟩ = false := World.ownsRow.frozenAt hr3 _
  have f2 : w2.frozen? ⟨w.heap.size, cs.length + 1, none⟩ = false := World.ownsRow.frozenAt hr3 _
  have HR2 : Hid (Row w2 (.slice (some ⟨w.heap.size, 0, none⟩) (cs.length + 2) (cs.length + 2)) (cs ++ [0, 0])) := hr2
  have HK2 : Hid (Kept (fun _ => False) w w2) := HK.out.grown hg2 (fun k e => .inr (by simp at e; omega))
  clear hr2 hr3 hg2 hs2 HR HK
  go_wp2_with fail
  go_ret
  refine ⟨w.heap.size, rfl, ?_, ?_, Nat.le_refl _⟩
  · have h := Row.set (Row.set HR2.out cs.length 165) (cs.length + 1) 90
    have e1 : ((cs ++ [0, 0]).set cs.length 165).set (cs.length + 1) 90 = cs ++ [165, 90] := by
      rw [List.set_append_right _ _ (by omega), List.set_append_right _ _ (by omega)]; simp
    rw [e1] at h
    exact h
  · exact (HK2.out.setCell _ _ (.inr (Nat.le_refl _))).setCell _ _ (.inr (Nat.le_refl _))

set_option maxHeartbeats 1000000 in
theorem keepBack_any (w : World) (g : Nat) (v : Value) (I : Nat → Prop) (cs : List Nat) (hrow : Row w (.slice (some ⟨g, 0, none⟩) (cs.length + 2) (cs.length + 2)) (cs ++ [165, 90])) (hsrc : Src w I v cs) (hlen : cs.length ≤ 100000000) (hb : ∀ b ∈ cs, b < 256) :
    Calls Try.prog 16 #[.slice (some ⟨g, 0, none⟩) cs.length (cs.length + 2), v] w fun e w' => e = .returned (.bool true) ∧ Kept (· = g) w w' := by
  obtain ⟨ao, cap, rfl, hsa⟩ := id hsrc
  have hr3 : Row w (.slice (some ⟨g, 0, none⟩) (cs ++ [165, 90]).length (cs.length + 2)) (cs ++ [165, 90]) := by simpa using hrow
  have HCELL : Hid (∀ j (_ : j < cs.length), w.cell? ⟨g, j, none⟩ = some (.int .u8 (cs[j] : Nat))) := by
    intro j hj
    rw [Row.cell hr3 j (by simp; omega), List.getElem_append_left hj]
  have c1 : w.cell? ⟨g, cs.length, none⟩ = some (.int .u8 165) := by
    rw [Row.cell hr3 cs.length (by simp)]; simp
  have c2 : w.cell? ⟨g, cs.length + 1, none⟩ = some (.int .u8 90) := by
    rw [Row.cell hr3 (cs.length + 1) (by simp)]; simp
  have HR : Hid (Row w (.slice (some ⟨g, 0, none⟩) (cs.length + 2) (cs.length + 2)) (cs ++ [165, 90])) := hrow
  have HSA : Hid (cs ≠ [] → ∃ b o, ao = some ⟨b, o, none⟩ ∧ I b ∧ ∀ j (_ : j < cs.length), w.cell? ⟨b, o + j, none⟩ = some (.int .u8 (cs[j] : Nat))) := hsa
  have HB : Hid (∀ b ∈ cs, b < 256) := hb
  clear hr3 hrow hsrc hsa hb
  go_enter Try.func16, Try.ntmps16
  go_wp2_with fail
  go_loopg [6, 7] cs.length (fun k x i wr => ∃ j : Nat, j ≤ cs.length ∧ cs.length - j ≤ k ∧ i = .int .i64 (j : Nat) ∧ x = .bool true ∧ ∃ m, wr = w.drewN m)
  case atStart => exact ⟨0, by omega, by omega, rfl, rfl, 0, rfl⟩
  case round =>
    obtain ⟨j, hj, hjk, rfl, rfl, m, rfl⟩ := hrel
    by_cases hlt : j < cs.length
    · obtain ⟨b, o, rfl, _, hcb⟩ := HSA.out (by intro e; rw [e] at hlt; simp at hlt)
      have d1 := HCELL.out j hlt
      have d2 := hcb j hlt
      obtain ⟨x, hx⟩ : ∃ x, x = cs[j] := ⟨_, rfl⟩
      rw [← hx] at d1 d2
      clear hcb hx c1 c2
      go_wp2_with fail
      go_quiet (fail)
      go_wp2_with fail
      go_roundg (gk - 1)
      case measure => omega
      case rel => exact ⟨j + 1, by omega, by omega, by go_num, by simp, _, rfl⟩
    · clear c1 c2
      go_wp2_with fail
      go_loopg [8] (cs.length + 2) (fun k x wx => ∃ (t : Nat) (es : List Nat), t ≤ cs.length + 2 ∧ cs.length + 2 - t ≤ k ∧ x = .int .i64 (t : Nat) ∧ es.length = cs.length + 2 ∧ Row wx (.slice (some ⟨g, 0, none⟩) (cs.length + 2) (cs.length + 2)) es ∧ (∀ b ∈ es, b < 256) ∧ Kept (· = g) w wx)
      case atStart =>
        refine ⟨0, cs ++ [165, 90], by omega, by omega, rfl, by simp, HR.out, ?_, (Kept.refl _ w).drewN m⟩
        intro b hb
        rcases List.mem_append.1 hb with h | h
        · exact HB.out b h
        · simp at h; omega
      case round =>
        obtain ⟨t, es, ht, htk, rfl, hl, hr, hb, hk⟩ := hrel
        have HR2 : Hid (Row wr (.slice (some ⟨g, 0, none⟩) (cs.length + 2) (cs.length + 2)) es) := hr
        have HB2 : Hid (∀ b ∈ es, b < 256) := hb
        have HK2 : Hid (Kept (· = g) w wr) := hk
        have HL2 : Hid (es.length = cs.length + 2) := hl
        by_cases hlt2 : t < cs.length + 2
        · have hje : t < es.length := by omega
          have hc : wr.cell? ⟨g, t, none⟩ = some (.int .u8 (es[t] : Nat)) := by
            have h2 : Row wr (.slice (some ⟨g, 0, none⟩) es.length (cs.length + 2)) es := by rw [hl]; exact hr
            exact Row.cell h2 t hje
          have hf : wr.frozen? ⟨g, t, none⟩ = false := by
            have h2 : Row wr (.slice (some ⟨g, 0, none⟩) es.length (cs.length + 2)) es := by rw [hl]; exact hr
            exact World.ownsRow.frozenAt h2 t
          obtain ⟨x, hx⟩ : ∃ x, x = es[t] := ⟨_, rfl⟩
          have hx2 : x < 256 := by rw [hx]; exact hb _ (List.getElem_mem _)
          rw [← hx] at hc
          clear hr hb hk hl hje hx
          go_wp2_with fail
          go_roundg (gk - 1)
          case measure => omega
          case rel =>
            refine ⟨t + 1, es.set t ((x + 77) % 256), by omega, by omega, by go_num, by rw [List.length_set]; exact HL2.out, ?_, ?_, HK2.out.setCell _ _ (.inl rfl)⟩
            · have h := Row.set HR2.out t ((x + 77) % 256)
              rw [show (((x + 77) % 256 : Nat) : Int) = ((x : Int) + 77) % 256 by omega] at h
              exact h
            · intro b hb
              rcases List.mem_or_eq_of_mem_set hb with h | h
              · exact HB2.out b h
              · omega
        · clear hr hb hk hl
          go_wp2_with fail
          go_ret
          exact ⟨rfl, HK2.out⟩

end Go.Proofs.Ytaefgnakdadgeaa
