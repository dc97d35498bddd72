/-
  Of the proof: parts TyO, TyP, TyQ, TyR, TyS, TyT.
-/
import Derived.ProofKit
import Derived.OpenShut
import Derived.Deep.Slices
import Derived.Deep.Strs
import Derived.Test.YtapcjmnibkoegaaGreatDoorJ47
import Derived.Test.YtapcjmnibkoegaaGreatDoorJ43
import Derived.Test.YtapcjmnibkoegaaGreatDoorJ33
import Derived.Test.YtapcjmnibkoegaaGreatDoorJ41
import Derived.Test.YtapcjmnibkoegaaGreatDoorJ34
import Derived.Test.YtapcjmnibkoegaaGreatDoorJ3

/-
  Layer 14: the document's example: what each call makes of the state.
-/
namespace Go.Proofs.YtapcjmnibkoegaaGreatDoor
open Go.RowKit Go.Maps Go.Sort Go.Shelf

def m14a : Mv := stM (mv0 0) wA14
def m14b : Mv := redM (mv0 0) kA14
def m14c : Mv := stM m14b wB14
def m14d : Mv := stM (redM (mv0 1) kA14) wC14
def m14e : Mv := lsM m14d bx14
def v14a : Ver := ⟨2, true, dOne⟩
def v14b : Ver := ⟨3, true, dAll⟩
def T14a : Ts := ⟨M14, 1, Op2 (some (nmT14, mv0 0)) none, 1, []⟩
def T14b : Ts := ⟨M14, 2, Op2 (some (nmT14, mv0 0)) (some (nmT14, mv0 0)), 2, []⟩
def T14c : Ts := ⟨M14, 2, Op2 (some (nmT14, m14a)) (some (nmT14, mv0 0)), 2, []⟩
def T14d : Ts := ⟨M14, 2, Op2 (some (nmT14, m14a)) (some (nmT14, m14b)), 2, []⟩
def T14e : Ts := ⟨⟨2, 1, VS [v14a]⟩, 2, Op2 none (some (nmT14, m14b)), 1, [(1, [wA14])]⟩
def T14f : Ts := ⟨⟨2, 1, VS [v14a]⟩, 2, Op2 none (some (nmT14, m14c)), 1, [(1, [wA14])]⟩
def T14g : Ts := ⟨⟨2, 2, VS [v14a]⟩, 2, fun _ => none, 0, []⟩
def T14h : Ts := ⟨⟨2, 2, VS [v14a]⟩, 3, Op3 (some (nmT14, mv0 1)), 1, []⟩
def T14i : Ts := ⟨⟨2, 2, VS [v14a]⟩, 3, Op3 (some (nmT14, m14d)), 1, []⟩
def T14j : Ts := ⟨⟨2, 2, VS [v14a]⟩, 3, Op3 (some (nmT14, m14e)), 1, []⟩
def T14k : Ts := ⟨⟨3, 3, VS [v14b]⟩, 3, fun _ => none, 0, []⟩

theorem sho14 : sho nmT14.s = true ∧ sho nmX14.s = true := by decide +kernel
theorem nam14 : namT nmX14 nmA14 = true ∧ namT nmX14 nmB14 = true := by decide +kernel

theorem beg14a : (⟨M14, 0, fun _ => none, 0, []⟩ : Ts).beg nb1 nmT14 = T14a := by
  unfold Ts.beg T14a
  congr 1
  funext n
  show (if n = nb1 then some (nmT14, mv0 (1 - 1)) else none) = Op2 _ none n
  unfold Op2
  by_cases h : n = nb2
  · subst h; rw [if_neg (by decide), if_pos rfl]
  · rw [if_neg h]; rfl

theorem beg14b : T14a.beg nb2 nmT14 = T14b := by
  unfold Ts.beg T14a T14b
  congr 1
  funext n
  show (if n = nb2 then some (nmT14, mv0 (1 - 1)) else Op2 _ none n) = Op2 _ _ n
  unfold Op2
  by_cases h : n = nb2
  · rw [if_pos h, if_pos h]; rfl
  · rw [if_neg h, if_neg h, if_neg h]

theorem beg14h : T14g.beg nb3 nmT14 = T14h := by
  unfold Ts.beg T14g T14h
  congr 1

theorem put14c : T14b.stg nb1 nmX14 nmA14 (fun ow mv => if 8192 < dOne.size then (145, mv) else (0, stM mv ⟨(kyT ow nmX14 nmA14).1, (kyT ow nmX14 nmA14).2, true, dOne, by decide⟩)) = (0, T14c) := by
  unfold Ts.stg
  have h : T14b.op nb1 = some (nmT14, mv0 0) := rfl
  rw [h]
  simp only [nam14.1, if_true]
  rw [if_neg (by decide)]
  unfold T14b T14c
  rw [set2_1]
  rfl

theorem put14f : T14e.stg nb2 nmX14 nmB14 (fun ow mv => if 8192 < dTwo.size then (145, mv) else (0, stM mv ⟨(kyT ow nmX14 nmB14).1, (kyT ow nmX14 nmB14).2, true, dTwo, by decide⟩)) = (0, T14f) := by
  unfold Ts.stg
  have h : T14e.op nb2 = some (nmT14, m14b) := rfl
  rw [h]
  simp only [nam14.2, if_true]
  rw [if_neg (by decide)]
  unfold T14e T14f
  rw [set2_2]
  rfl

theorem rea14a : T14c.see nb1 nmX14 nmA14 (fun m => .tuple #[.string ⟨#[]⟩, .int .i64 m]) (reaT T14c.M nmX14 nmA14) = (.tuple #[.string dOne, .int .i64 0], T14c) := by
  unfold Ts.see
  have h : T14c.op nb1 = some (nmT14, m14a) := rfl
  rw [h]
  simp only [nam14.1, if_true]
  have hs : m14a.st (kyT nmT14 nmX14 nmA14) = some wA14 := by
    show (if keO wA14 = kA14 then some wA14 else none) = _
    exact if_pos rfl
  have hn : notM m14a (kyT nmT14 nmX14 nmA14) = m14a := by unfold notM; rw [hs]; rfl
  unfold reaT seeT seeD
  rw [hn]
  simp only [hs]
  unfold T14c
  rw [set2_1]
  rfl

theorem rea14b : T14c.see nb2 nmX14 nmA14 (fun m => .tuple #[.string ⟨#[]⟩, .int .i64 m]) (reaT T14c.M nmX14 nmA14) = (.tuple #[.string ⟨#[]⟩, .int .i64 144], T14d) := by
  unfold Ts.see
  have h : T14c.op nb2 = some (nmT14, mv0 0) := rfl
  rw [h]
  simp only [nam14.1, if_true]
  unfold T14c T14d
  rw [set2_2]
  rfl

theorem com14a {t er : Int} {xs : List Wr} (h : CkT T14d nb1 t er xs) : t = 1 ∧ er = 0 ∧ xs = [wA14] := by
  have hop : T14d.op nb1 = some (nmT14, m14a) := rfl
  rcases h with ⟨h1, _⟩ | ⟨ow, mv, ys, h1, h2, _, h4⟩
  · rw [hop] at h1; cases h1
  · rw [hop] at h1
    injection h1 with h1
    injection h1 with e1 e2
    subst e1 e2
    have hy := one_stw (one_stm (mv0 0) wA14 (fun _ => rfl)) h2
    subst hy
    rcases h4 with ⟨h5, _⟩ | ⟨_, h5, _⟩ | ⟨_, _, D, hD, h6⟩
    · cases h5
    · have : T14d.con m14a = false := by decide +kernel
      rw [this] at h5; cases h5
    · have hd : D = [] := by
        have h9 := vs_dm0 T14d.M.now
        have e : (VS [] : Vs) = T14d.M.V := vs_nil.symm
        rw [e] at h9
        exact hD.det h9
      subst hd
      rcases h6 with ⟨h7, _⟩ | ⟨_, h7, h8, h9⟩
      · have : manyB (cntW (thNow T14d.M) [wA14] (cntD nmT14.s [])) = false := by decide +kernel
        rw [this] at h7; cases h7
      · exact ⟨h8, h7, h9⟩

theorem old14a {m : Int} (h : OldS (T14d.com [wA14]) nb1 m) : m = 0 := by
  have hop : (T14d.com [wA14]).op = T14d.op := (com_op _ _).1
  obtain ⟨h1, h2, h3⟩ := h
  have h4 := h2 nb2 (nmT14, m14b) (by decide) (by rw [hop]; rfl)
  have h5 : m ≤ 0 := h4
  rcases h3 with e | ⟨y, x, e1, e2, e3⟩
  · have : (T14d.com [wA14]).M.now - 1 = 1 := rfl
    omega
  · rw [hop] at e2
    have e4 : Op2 (some (nmT14, m14a)) (some (nmT14, m14b)) y = some x := e2
    unfold Op2 at e4
    by_cases hy : y = nb2
    · rw [if_pos hy] at e4
      injection e4 with e4
      rw [e3, ← e4]; rfl
    · rw [if_neg hy, if_neg e1] at e4
      cases e4

theorem end14e : (T14d.com [wA14]).ends nb1 0 = T14e := by
  have hc : T14d.com [wA14] = ⟨⟨2, 0, VS [v14a]⟩, 2, Op2 (some (nmT14, m14a)) (some (nmT14, m14b)), 2, [(1, [wA14])]⟩ := by
    unfold Ts.com
    rw [if_neg (by simp)]
    have e : putM T14d.M (T14d.M.now + 1) [wA14] = ⟨2, 0, VS [v14a]⟩ := by
      unfold putM
      have h9 := vs_put [] wA14 2 rfl rfl
      rw [← vs_nil] at h9
      show (⟨2, 0, putsF (fun _ _ => []) [wA14] 2⟩ : Mst) = _
      rw [h9]
      rfl
    rw [e]
    rfl
  rw [hc]
  unfold Ts.ends T14e
  have hp : prM ⟨2, 0, VS [v14a]⟩ (0 + 1) = ⟨2, 1, VS [v14a]⟩ := by
    unfold prM
    rw [if_neg (by decide)]
    show pruM ⟨2, 0, VS [v14a]⟩ 1 = _
    rw [vs_pru]
    have : pruV [v14a] 1 = [v14a] := by
      unfold pruV newV upV v14a
      rfl
    rw [this]
  simp only [hp, rem2_1]
  rfl

end Go.Proofs.YtapcjmnibkoegaaGreatDoor

/-
  Layer 14: the document's example: the second half.
-/
namespace Go.Proofs.YtapcjmnibkoegaaGreatDoor
open Go.RowKit Go.Maps Go.Sort Go.Shelf

theorem com14f {t er : Int} {xs : List Wr} (h : CkT T14f nb2 t er xs) : t = 0 ∧ er = 142 ∧ xs = [] := by
  have hop : T14f.op nb2 = some (nmT14, m14c) := rfl
  have hcon : T14f.con m14c = true := by decide +kernel
  rcases h with ⟨h1, _⟩ | ⟨ow, mv, ys, h1, h2, _, h4⟩
  · rw [hop] at h1; cases h1
  · rw [hop] at h1
    injection h1 with h1
    injection h1 with e1 e2
    subst e1 e2
    have hy := one_stw (one_stm m14b wB14 (fun _ => rfl)) h2
    subst hy
    rcases h4 with ⟨h5, _⟩ | ⟨_, _, h6, h7, h8⟩ | ⟨_, h5, _⟩
    · cases h5
    · exact ⟨h7, h6, h8⟩
    · rw [hcon] at h5; cases h5

theorem com_nil (S : Ts) : S.com [] = S := by unfold Ts.com; rw [if_pos rfl]

theorem old14f {m : Int} (h : OldS (T14f.com []) nb2 m) : m = 1 := by
  rw [com_nil] at h
  obtain ⟨h1, h2, h3⟩ := h
  rcases h3 with e | ⟨y, x, e1, e2, e3⟩
  · exact e
  · have e4 : Op2 none (some (nmT14, m14c)) y = some x := e2
    unfold Op2 at e4
    rw [if_neg e1] at e4
    split at e4 <;> cases e4

theorem pru14 : pruV [v14a] 1 = [v14a] ∧ pruV [v14a] 2 = [v14a] ∧ pruV [v14a, v14b] 3 = [v14b] := ⟨rfl, rfl, rfl⟩

theorem end14g : (T14f.com []).ends nb2 1 = T14g := by
  rw [com_nil]
  unfold Ts.ends T14f T14g
  have hp : prM ⟨2, 1, VS [v14a]⟩ (1 + 1) = ⟨2, 2, VS [v14a]⟩ := by
    unfold prM
    rw [if_neg (by decide)]
    show pruM ⟨2, 1, VS [v14a]⟩ 2 = _
    rw [vs_pru, pru14.2.1]
  simp only [hp, rem2_2]
  rfl

theorem see14 : seeD (mv0 1) T14h.M kA14 = dOne ∧ seeT (mv0 1) T14h.M kA14 = true := by
  unfold seeD seeT
  have h : T14h.M.V kA14.1 kA14.2 = [v14a] := by
    show (if bx14 = bx14 ∧ nmA14 = nmA14 then [v14a] else []) = _
    exact if_pos ⟨rfl, rfl⟩
  show (newV (T14h.M.V kA14.1 kA14.2) (max (1 + 1) 2)).data = dOne ∧ (newV (T14h.M.V kA14.1 kA14.2) (max (1 + 1) 2)).there = true
  rw [h]
  exact ⟨rfl, rfl⟩

theorem add14i : T14h.stg nb3 nmX14 nmA14 (fun ow mv => addF mv T14h.M (kyT ow nmX14 nmA14) dBang) = (0, T14i) := by
  unfold Ts.stg
  have h : T14h.op nb3 = some (nmT14, mv0 1) := rfl
  rw [h]
  simp only [nam14.1, if_true]
  have hk : kyT nmT14 nmX14 nmA14 = kA14 := rfl
  have hs := see14.1
  have hn : notM (mv0 1) kA14 = redM (mv0 1) kA14 := rfl
  have hadd : addF (mv0 1) T14h.M kA14 dBang = (0, m14d) := by
    unfold addF
    rw [dif_pos (by rw [hs]; decide), hn]
    congr 1
  rw [hk, hadd]
  unfold T14h T14i
  rw [set3_3]

theorem lis14 : seeN m14d T14i.M bx14 = [nmA14] := by
  refine seeN_is ⟨List.pairwise_singleton _ _, fun n => ?_⟩ (by decide)
  rw [List.mem_singleton]
  have hst : m14d.st (bx14, n) = if keO wC14 = (bx14, n) then some wC14 else none := rfl
  constructor
  · intro e
    subst e
    unfold seeT
    have h9 : m14d.st (bx14, nmA14) = some wC14 := by rw [hst]; exact if_pos rfl
    rw [h9]
    rfl
  · intro h
    refine Classical.byContradiction (fun hne => ?_)
    have h9 : m14d.st (bx14, n) = none := by
      rw [hst]
      refine if_neg (fun e => hne ?_)
      injection e with _ e
      exact e.symm
    unfold seeT at h
    rw [h9] at h
    have h8 : T14i.M.V bx14 n = [] := by
      show (if bx14 = bx14 ∧ n = nmA14 then [v14a] else []) = _
      exact if_neg (fun e => hne e.2)
    simp only [h8] at h
    exact absurd h (by decide)

theorem set14j : T14i.set nb3 (nmT14, lsM m14d (bxT nmT14 nmX14)) = T14j := by
  unfold T14i T14j
  rw [set3_3]
  rfl

theorem com14j {t er : Int} {xs : List Wr} (h : CkT T14j nb3 t er xs) : t = 2 ∧ er = 0 ∧ xs = [wC14] := by
  have hop : T14j.op nb3 = some (nmT14, m14e) := rfl
  have hcon : T14j.con m14e = false := by decide +kernel
  rcases h with ⟨h1, _⟩ | ⟨ow, mv, ys, h1, h2, _, h4⟩
  · rw [hop] at h1; cases h1
  · rw [hop] at h1
    injection h1 with h1
    injection h1 with e1 e2
    subst e1 e2
    have hy := one_stw (mv := m14e) (x := wC14) ⟨rfl, fun _ => rfl⟩ h2
    subst hy
    rcases h4 with ⟨h5, _⟩ | ⟨_, h5, _⟩ | ⟨_, _, D, hD, h6⟩
    · cases h5
    · rw [hcon] at h5; cases h5
    · have hd : D = [(bx14, [(nmA14, dOne)])] := hD.det (vs_dm [v14a] 2 dOne rfl)
      subst hd
      rcases h6 with ⟨h7, _⟩ | ⟨_, h7, h8, h9⟩
      · have : manyB (cntW (thNow T14j.M) [wC14] (cntD nmT14.s [(bx14, [(nmA14, dOne)])])) = false := by decide +kernel
        rw [this] at h7; cases h7
      · exact ⟨h8, h7, h9⟩

theorem old14j {m : Int} (h : OldS (T14j.com [wC14]) nb3 m) : m = 2 := by
  have hop : (T14j.com [wC14]).op = T14j.op := (com_op _ _).1
  obtain ⟨h1, h2, h3⟩ := h
  rcases h3 with e | ⟨y, x, e1, e2, e3⟩
  · exact e
  · rw [hop] at e2
    have e4 : Op3 (some (nmT14, m14e)) y = some x := e2
    unfold Op3 at e4
    rw [if_neg e1] at e4
    cases e4

theorem end14k : (T14j.com [wC14]).ends nb3 2 = T14k := by
  have hc : T14j.com [wC14] = ⟨⟨3, 2, VS [v14a, v14b]⟩, 3, Op3 (some (nmT14, m14e)), 1, [(2, [wC14])]⟩ := by
    unfold Ts.com
    rw [if_neg (by simp)]
    have e : putM T14j.M (T14j.M.now + 1) [wC14] = ⟨3, 2, VS [v14a, v14b]⟩ := by
      unfold putM
      have h9 := vs_put [v14a] wC14 3 rfl rfl
      show (⟨3, 2, putsF (VS [v14a]) [wC14] 3⟩ : Mst) = _
      rw [h9]
      rfl
    rw [e]
    rfl
  rw [hc]
  unfold Ts.ends T14k
  have hp : prM ⟨3, 2, VS [v14a, v14b]⟩ (2 + 1) = ⟨3, 3, VS [v14b]⟩ := by
    unfold prM
    rw [if_neg (by decide)]
    show pruM ⟨3, 2, VS [v14a, v14b]⟩ 3 = _
    rw [vs_pru, pru14.2.2]
  simp only [hp, rem3_3]
  rfl

theorem use14 {D : List (Bx × List Ent)} (h : IsDm (visF T14k.M.V T14k.M.now) D) : wr14 (useB nmT14.s D) = 4 ∧ wr14 (useN nmT14.s D) = 1 := by
  have hd : D = [(bx14, [(nmA14, dAll)])] := h.det (vs_dm [v14b] 3 dAll rfl)
  subst hd
  decide +kernel

end Go.Proofs.YtapcjmnibkoegaaGreatDoor

/-
  Layer 14: awake: the document's example.
-/
namespace Go.Proofs.YtapcjmnibkoegaaGreatDoor
open Go.RowKit Go.Maps Go.Sort Go.Shelf

/-- A manager of new memory. -/
structure Ma (w0 : World) (K N : Nat) (B : Int) (p : Nat) (S : Ts) (w : World) : Prop where
  mg : ∃ F, Mg K N B w p S F
  same : Same w0 w
  le : w0.heap.size ≤ N

section
variable {w0 w w' : World} {K K' N : Nat} {B B' : Int} {p : Nat} {S S' : Ts}

theorem Ma.next {F : Nat → Prop} (h : Mg K N B w p S F) (hs : Same w0 w) (hN : w0.heap.size ≤ N) (a : MgA K' N B' w p F S' w') : Ma w0 K' N B' p S' w' := by
  obtain ⟨F', h1, _, h3⟩ := a
  exact ⟨⟨F', h1⟩, hs.then h3 (fun k hk f => by have := (h.lt f).1; omega), hN⟩

theorem Ma.still (h : Ma w0 K N B p S w) (hk : Same w w') : Ma w0 K N B p S w' := by
  obtain ⟨⟨F, h1⟩, h2, h3⟩ := h
  exact ⟨⟨F, h1.same hk⟩, Same.trans h2 hk, h3⟩

theorem Ma.mxl (h : Ma w0 K N B p S w) (hx : Mxl w0) : Mxl w := hx.kept h.same (fun f => f)

theorem ma_beg (h : Ma w0 K N B p S w) (hln : S.ln < 256) (hbg : S.bg + 1 ≤ 100000) (nb : Nb) (hnb : nb.v = S.bg + 1) : Calls Tryz.prog 15 #[.pointer (some ⟨p, 0, none⟩), .string nmT14.s] w fun e w' => e = .returned (.tuple #[.int .i64 nb.v, .int .i64 0]) ∧ Ma w0 K N B p (S.beg nb nmT14) w' := by
  obtain ⟨⟨F, h1⟩, h2, h3⟩ := h
  refine (gbeginT h1 nmT14 hbg).mono ?_
  rintro e w' (⟨a, _⟩ | ⟨_, a, _⟩ | ⟨_, _, nb', a1, a2, a3⟩)
  · rw [sho14.1] at a; cases a
  · omega
  · obtain rfl : nb' = nb := Nb.ext' (by rw [a1, hnb])
    exact ⟨by rw [a2, hnb], Ma.next h1 h2 h3 a3⟩

theorem ma_put (h : Ma w0 K N B p S w) (n : Nb) (ar en : Nm) (d : ByteArray) (hd : d.size ≤ maxLen) (hx : Mxl w0) (hK : K + 1 ≤ 100000) {r : Int × Ts} (hr : S.stg n ar en (fun ow mv => if 8192 < d.size then (145, mv) else (0, stM mv ⟨(kyT ow ar en).1, (kyT ow ar en).2, true, d, hd⟩)) = r) : Calls Tryz.prog 28 #[.pointer (some ⟨p, 0, none⟩), .int .i64 n.v, .string ar.s, .string en.s, .string d] w fun e w' => e = .returned (.int .i64 r.1) ∧ Ma w0 (K + 1) N B p r.2 w' := by
  have hm := h.mxl hx
  obtain ⟨⟨F, h1⟩, h2, h3⟩ := h
  subst hr
  exact (gputT h1 n ar en d hd hm hK).mono (fun e w' ⟨a1, a2⟩ => ⟨a1, Ma.next h1 h2 h3 a2⟩)

theorem ma_read (h : Ma w0 K N B p S w) (n : Nb) (ar en : Nm) (hx : Mxl w0) (hB : B ≤ 9223372036854775806) (hK : K + 1 ≤ 100000) {r : Value × Ts} (hr : S.see n ar en (fun m => .tuple #[.string ⟨#[]⟩, .int .i64 m]) (reaT S.M ar en) = r) : Calls Tryz.prog 24 #[.pointer (some ⟨p, 0, none⟩), .int .i64 n.v, .string ar.s, .string en.s] w fun e w' => e = .returned r.1 ∧ Ma w0 (K + 1) N B p r.2 w' := by
  have hm := h.mxl hx
  obtain ⟨⟨F, h1⟩, h2, h3⟩ := h
  subst hr
  exact (greadT h1 n ar en hm hB hK).mono (fun e w' ⟨a1, a2⟩ => ⟨a1, Ma.next h1 h2 h3 a2⟩)

theorem ma_add (h : Ma w0 K N B p S w) (n : Nb) (ar en : Nm) (d : ByteArray) (hbig : ∀ ow mv, S.op n = some (ow, mv) → (seeD mv S.M (kyT ow ar en)).size + d.size ≤ 4611686018427387904) (hx : Mxl w0) (hB : B ≤ 9223372036854775806) (hK : K + 1 + 1 ≤ 100000) {r : Int × Ts} (hr : S.stg n ar en (fun ow mv => addF mv S.M (kyT ow ar en) d) = r) : Calls Tryz.prog 29 #[.pointer (some ⟨p, 0, none⟩), .int .i64 n.v, .string ar.s, .string en.s, .string d] w fun e w' => e = .returned (.int .i64 r.1) ∧ Ma w0 (K + 1 + 1) N B p r.2 w' := by
  have hm := h.mxl hx
  obtain ⟨⟨F, h1⟩, h2, h3⟩ := h
  subst hr
  exact (gaddT h1 n ar en d hbig hm hB hK).mono (fun e w' ⟨a1, a2⟩ => ⟨a1, Ma.next h1 h2 h3 a2⟩)

theorem ma_com (h : Ma w0 K N B p S w) (n : Nb) (hB : B ≤ 9223372036854775804) (hK : K + 3 ≤ 100000) {t er : Int} {xs : List Wr} {m : Int} (hop : S.op n ≠ none) (hc : ∀ t' er' xs', CkT S n t' er' xs' → t' = t ∧ er' = er ∧ xs' = xs) (ho : ∀ m', OldS (S.com xs) n m' → m' = m) (hl : xs.length ≤ 1) (he : (S.com xs).ends n m = S') : Calls Tryz.prog 18 #[.pointer (some ⟨p, 0, none⟩), .int .i64 n.v] w fun e w' => e = .returned (.tuple #[.int .i64 t, .int .i64 er]) ∧ Ma w0 (K + 3 * xs.length) N (B + 1) p S' w' := by
  obtain ⟨⟨F, h1⟩, h2, h3⟩ := h
  refine (gcommitT h1 n hB (fun t' er' xs' hh => by rw [(hc t' er' xs' hh).2.2]; omega)).mono ?_
  rintro e w' (⟨a1, _⟩ | ⟨x, t', er', xs', m', _, b2, b3, b4, b5⟩)
  · exact absurd a1 hop
  · obtain ⟨rfl, rfl, rfl⟩ := hc t' er' xs' b2
    obtain rfl := ho m' b4
    subst he
    exact ⟨b3, Ma.next h1 h2 h3 b5⟩

theorem ma_com_none (h : Ma w0 K N B p S w) (n : Nb) (hB : B ≤ 9223372036854775804) (hK : K ≤ 100000) (hop : S.op n = none) : Calls Tryz.prog 18 #[.pointer (some ⟨p, 0, none⟩), .int .i64 n.v] w fun e w' => e = .returned (.tuple #[.int .i64 0, .int .i64 140]) ∧ Ma w0 K N B p S w' := by
  obtain ⟨⟨F, h1⟩, h2, h3⟩ := h
  refine (gcommitT h1 n hB (fun t' er' xs' hh => ?_)).mono ?_
  · rcases hh with ⟨_, _, _, rfl⟩ | ⟨ow, mv, ys, e, _⟩
    · exact hK
    · rw [hop] at e; cases e
  · rintro e w' (⟨_, a2, a3⟩ | ⟨x, t', er', xs', m', b1, _⟩)
    · exact ⟨a2, Ma.next h1 h2 h3 a3⟩
    · rw [hop] at b1; cases b1

theorem ma_now (h : Ma w0 K N B p S w) : Calls Tryz.prog 16 #[.pointer (some ⟨p, 0, none⟩)] w fun e w' => e = .returned (.int .i64 (S.M.now - 1)) ∧ w' = w := by
  obtain ⟨⟨F, h1⟩, h2, h3⟩ := h
  exact gnowT h1

theorem ma_use (h : Ma w0 K N B p T14k w) : Calls Tryz.prog 32 #[.pointer (some ⟨p, 0, none⟩), .string nmT14.s] w fun e w' => e = .returned (.agg #[.int .i64 4, .int .i64 1]) ∧ Same w w' := by
  obtain ⟨⟨F, h1⟩, h2, h3⟩ := h
  refine (guseT h1 nmT14.s).mono ?_
  rintro e w' ⟨D, hD, a1, a2⟩
  obtain ⟨b1, b2⟩ := use14 hD
  rw [b1, b2] at a1
  exact ⟨a1, a2⟩
end

theorem ma_new (w : World) : Calls Tryz.prog 10 #[.slice none 0 0, .int .i64 0] w fun e w' => ∃ N p, e = .returned (.tuple #[.pointer (some ⟨p, 0, none⟩), .int .i64 0]) ∧ Ma w 0 N 1 p ⟨M14, 0, fun _ => none, 0, []⟩ w' :=
  (tnew_none w).mono (fun e w' h => by
    obtain ⟨N, p, F, h1, h2, h3, _, h5⟩ := mg_new h
    exact ⟨N, p, h1, ⟨F, h3⟩, h5, h2⟩)

theorem ma_empty (w : World) : Calls Tryz.prog 13 #[] w fun e w' => ∃ N p, e = .returned (.pointer (some ⟨p, 0, none⟩)) ∧ Ma w 0 N 1 p ⟨M14, 0, fun _ => none, 0, []⟩ w' := by
  have HN := ma_new w
  go_enter Tryz.func13, Tryz.ntmps13
  go_wp2_with fail
  refine HN.mono ?_
  rintro e w1 ⟨N, p, rfl, h⟩
  have HM := hid h
  clear h HN
  go_wp2_with fail
  go_ret
  exact ⟨N, p, rfl, HM.out⟩

end Go.Proofs.YtapcjmnibkoegaaGreatDoor

/-
  Layer 14: awake: the walk of the document's example.
-/
namespace Go.Proofs.YtapcjmnibkoegaaGreatDoor
open Go.RowKit Go.Maps Go.Sort Go.Shelf

/-- A row of one text in one new block. -/
theorem row_one (w : World) (n : Nm) : RowE w.heap.size 9 nmV (w.alloc (.cells #[.string n.s] 9)) (.slice (some ⟨w.heap.size, 0, none⟩) 1 1) [n] :=
  World.ownsRow_lit w #[.string n.s] 1 (Nat.le_refl _) (by decide) rfl

/-- A manager of new memory, and a row of texts beside it. -/
structure MaR (w0 : World) (K N : Nat) (B : Int) (p : Nat) (S : Ts) (v : Value) (L : List Nm) (w : World) : Prop where
  mg : ∃ F, Mg K N B w p S F ∧ ∀ k, v.ownBlock = some k → ¬ F k
  same : Same w0 w
  le : w0.heap.size ≤ N
  row : RowE w0.heap.size 9 nmV w v L

section
variable {w0 w w' : World} {K K' N : Nat} {B B' : Int} {p : Nat} {S S' : Ts} {v : Value} {Ln : List Nm}

theorem MaR.ma (h : MaR w0 K N B p S v Ln w) : Ma w0 K N B p S w := by
  obtain ⟨⟨F, h1, _⟩, h2, h3, _⟩ := h
  exact ⟨⟨F, h1⟩, h2, h3⟩

theorem mar_list (h : Ma w0 K N B p S w) (n : Nb) (ar : Nm) (hsh : sho ar.s = true) (hB : B ≤ 9223372036854775806) (hK : K + 1 ≤ 100000) {ow : Nm} {mv : Mv} (hop : S.op n = some (ow, mv)) {L : List Nm} (hL : seeN mv S.M (bxT ow ar) = L) (hS : S.set n (ow, lsM mv (bxT ow ar)) = S') : Calls Tryz.prog 26 #[.pointer (some ⟨p, 0, none⟩), .int .i64 n.v, .string ar.s] w fun e w' => ∃ v, e = .returned (.tuple #[v, .int .i64 0]) ∧ MaR w0 (K + 1) N B p S' v L w' := by
  obtain ⟨⟨F, c, τ, h1, h2, h3, h4⟩, hs, hl⟩ := h
  have hop' : S.op n = (getK n c.L).map (fun q => (c.ow q, c.mv q)) := by rw [← h3]; rfl
  refine (tlist_any h1 n ar (fun x hx => ⟨(h2.sn x hx).1, by have := (h2.sn x hx).2.1; have := h2.now; omega⟩) hK).mono ?_
  rintro e w' (⟨a1, _⟩ | ⟨q, _, a2, _⟩ | ⟨q, v, a1, a2, a3, a4, a5⟩)
  · rw [hop', a1] at hop; cases hop
  · rw [hsh] at a2; cases a2
  · rw [hop', a1] at hop
    injection hop with hop
    injection hop with e1 e2
    subst e1 e2
    have hq : seeN (c.mv q) S.M (boT c q ar) = L := hL
    rw [hq] at a4
    have hb := hs.size
    refine ⟨v, a3, ⟨F, ⟨c.set q (lsM (c.mv q) (boT c q ar)), τ, by rw [← hS]; exact a5.1, by rw [← hS]; exact h2.set (lsM_t _ _), ?_, h4⟩, fun k e f => ?_⟩, ?_, hl, a4.base hb⟩
    · have h9 := abs_set h1 a1 (lsM (c.mv q) (boT c q ar))
      rw [h3] at h9
      rw [← hS]
      exact h9
    · have := a4.ge e
      have := (h1.new k ((h4 k).1 f)).2
      omega
    · exact hs.then a5.2 (fun k hk f => by have := (h1.new k f).1; omega)

theorem mar_com (h : MaR w0 K N B p S v Ln w) (n : Nb) (hB : B ≤ 9223372036854775804) (hK : K + 3 ≤ 100000) {t er : Int} {xs : List Wr} {m : Int} (hop : S.op n ≠ none) (hc : ∀ t' er' xs', CkT S n t' er' xs' → t' = t ∧ er' = er ∧ xs' = xs) (ho : ∀ m', OldS (S.com xs) n m' → m' = m) (hl : xs.length ≤ 1) (he : (S.com xs).ends n m = S') : Calls Tryz.prog 18 #[.pointer (some ⟨p, 0, none⟩), .int .i64 n.v] w fun e w' => e = .returned (.tuple #[.int .i64 t, .int .i64 er]) ∧ MaR w0 (K + 3 * xs.length) N (B + 1) p S' v Ln w' := by
  obtain ⟨⟨F, h1, h5⟩, h2, h3, h4⟩ := h
  refine (gcommitT h1 n hB (fun t' er' xs' hh => by rw [(hc t' er' xs' hh).2.2]; omega)).mono ?_
  rintro e w' (⟨a1, _⟩ | ⟨x, t', er', xs', m', _, b2, b3, b4, F', c1, c2, c3⟩)
  · exact absurd a1 hop
  · obtain ⟨rfl, rfl, rfl⟩ := hc t' er' xs' b2
    obtain rfl := ho m' b4
    subst he
    exact ⟨b3, ⟨F', c1, fun k e f => h5 k e ((c2 k (h4.lt e)).1 f)⟩, h2.then c3 (fun k hk f => by have := (h1.lt f).1; omega), h3, h4.kept c3 h5⟩
end

set_option maxRecDepth 100000 in
set_option maxHeartbeats 4000000 in
theorem awake14 (w : World) (hx : Mxl w) : Calls Tryz.prog 9 #[] w fun e w' => e = .returned (.bool true) ∧ Same w w' := by
  have HX := hid hx
  have HC := ma_empty w
  clear hx
  go_enter Tryz.func9, Tryz.ntmps9
  go_wp2_with fail
  refine HC.mono ?_
  rintro e w1 ⟨N, p, rfl, h⟩
  have H1 : Hid (Ma w 0 N 1 p ⟨M14, 0, fun _ => none, 0, []⟩ w1) := hid h
  clear h HC
  have HC : Calls Tryz.prog 15 #[.pointer (some ⟨p, 0, none⟩), .string ⟨#[116]⟩] w1 fun e w' => e = .returned (.tuple #[.int .i64 1, .int .i64 0]) ∧ Ma w 0 N 1 p T14a w' := by
    have h := ma_beg H1.out (by decide) (by decide) nb1 rfl
    rw [beg14a] at h
    exact h
  clear H1
  go_wp2_with fail
  refine HC.mono ?_
  rintro e w2 ⟨rfl, h⟩
  have H2 := hid h
  clear h HC
  have HC : Calls Tryz.prog 15 #[.pointer (some ⟨p, 0, none⟩), .string ⟨#[116]⟩] w2 fun e w' => e = .returned (.tuple #[.int .i64 2, .int .i64 0]) ∧ Ma w 0 N 1 p T14b w' := by
    have h := ma_beg H2.out (by decide) (by decide) nb2 rfl
    rw [beg14b] at h
    exact h
  clear H2
  go_wp2_with fail
  refine HC.mono ?_
  rintro e w3 ⟨rfl, h⟩
  have H3 := hid h
  clear h HC
  have HC : Calls Tryz.prog 28 #[.pointer (some ⟨p, 0, none⟩), .int .i64 1, .string ⟨#[120]⟩, .string ⟨#[97]⟩, .string ⟨#[111, 110, 101]⟩] w3 fun e w' => e = .returned (.int .i64 0) ∧ Ma w 1 N 1 p T14c w' := by
    exact ma_put H3.out nb1 nmX14 nmA14 dOne (by decide) HX.out (by decide) put14c
  clear H3
  go_wp2_with fail
  refine HC.mono ?_
  rintro e w4 ⟨rfl, h⟩
  have H4 := hid h
  clear h HC
  have HC : Calls Tryz.prog 24 #[.pointer (some ⟨p, 0, none⟩), .int .i64 1, .string ⟨#[120]⟩, .string ⟨#[97]⟩] w4 fun e w' => e = .returned (.tuple #[.string ⟨#[111, 110, 101]⟩, .int .i64 0]) ∧ Ma w 2 N 1 p T14c w' := by
    exact ma_read H4.out nb1 nmX14 nmA14 HX.out (by decide) (by decide) rea14a
  clear H4
  go_wp2_with fail
  refine HC.mono ?_
  rintro e w5 ⟨rfl, h⟩
  have H5 := hid h
  clear h HC
  have HC : Calls Tryz.prog 24 #[.pointer (some ⟨p, 0, none⟩), .int .i64 2, .string ⟨#[120]⟩, .string ⟨#[97]⟩] w5 fun e w' => e = .returned (.tuple #[.string ⟨#[]⟩, .int .i64 144]) ∧ Ma w 3 N 1 p T14d w' := by
    exact ma_read H5.out nb2 nmX14 nmA14 HX.out (by decide) (by decide) rea14b
  clear H5
  go_wp2_with fail
  refine HC.mono ?_
  rintro e w6 ⟨rfl, h⟩
  have H6 := hid h
  clear h HC
  have HC : Calls Tryz.prog 18 #[.pointer (some ⟨p, 0, none⟩), .int .i64 1] w6 fun e w' => e = .returned (.tuple #[.int .i64 1, .int .i64 0]) ∧ Ma w 6 N 2 p T14e w' := by
    exact ma_com H6.out nb1 (by decide) (by decide) (fun e => by rw [show T14d.op nb1 = some (nmT14, m14a) from rfl] at e; cases e) (fun _ _ _ h => com14a h) (fun _ h => old14a h) (by decide) end14e
  clear H6
  go_wp2_with fail
  refine HC.mono ?_
  rintro e w7 ⟨rfl, h⟩
  have H7 := hid h
  clear h HC
  have HC : Calls Tryz.prog 28 #[.pointer (some ⟨p, 0, none⟩), .int .i64 2, .string ⟨#[120]⟩, .string ⟨#[98]⟩, .string ⟨#[116, 119, 111]⟩] w7 fun e w' => e = .returned (.int .i64 0) ∧ Ma w 7 N 2 p T14f w' := by
    exact ma_put H7.out nb2 nmX14 nmB14 dTwo (by decide) HX.out (by decide) put14f
  clear H7
  go_wp2_with fail
  refine HC.mono ?_
  rintro e w8 ⟨rfl, h⟩
  have H8 := hid h
  clear h HC
  have HC : Calls Tryz.prog 18 #[.pointer (some ⟨p, 0, none⟩), .int .i64 2] w8 fun e w' => e = .returned (.tuple #[.int .i64 0, .int .i64 142]) ∧ Ma w 7 N 3 p T14g w' := by
    exact ma_com H8.out nb2 (by decide) (by decide) (fun e => by rw [show T14f.op nb2 = some (nmT14, m14c) from rfl] at e; cases e) (fun _ _ _ h => com14f h) (fun _ h => old14f h) (by decide) end14g
  clear H8
  go_wp2_with fail
  refine HC.mono ?_
  rintro e w9 ⟨rfl, h⟩
  have H9 := hid h
  clear h HC
  have HC : Calls Tryz.prog 18 #[.pointer (some ⟨p, 0, none⟩), .int .i64 2] w9 fun e w' => e = .returned (.tuple #[.int .i64 0, .int .i64 140]) ∧ Ma w 7 N 3 p T14g w' := by
    exact ma_com_none H9.out nb2 (by decide) (by decide) rfl
  clear H9
  go_wp2_with fail
  refine HC.mono ?_
  rintro e w10 ⟨rfl, h⟩
  have H10 := hid h
  clear h HC
  have HC : Calls Tryz.prog 15 #[.pointer (some ⟨p, 0, none⟩), .string ⟨#[116]⟩] w10 fun e w' => e = .returned (.tuple #[.int .i64 3, .int .i64 0]) ∧ Ma w 7 N 3 p T14h w' := by
    have h := ma_beg H10.out (by decide) (by decide) nb3 rfl
    rw [beg14h] at h
    exact h
  clear H10
  go_wp2_with fail
  refine HC.mono ?_
  rintro e w11 ⟨rfl, h⟩
  have H11 := hid h
  clear h HC
  have HC : Calls Tryz.prog 29 #[.pointer (some ⟨p, 0, none⟩), .int .i64 3, .string ⟨#[120]⟩, .string ⟨#[97]⟩, .string ⟨#[33]⟩] w11 fun e w' => e = .returned (.int .i64 0) ∧ Ma w 9 N 3 p T14i w' := by
    exact ma_add H11.out nb3 nmX14 nmA14 dBang (fun ow mv e => by
      rw [show T14h.op nb3 = some (nmT14, mv0 1) from rfl] at e
      cases e
      show (seeD (mv0 1) T14h.M kA14).size + _ ≤ _
      rw [see14.1]
      decide) HX.out (by decide) (by decide) add14i
  clear H11
  go_wp2_with fail
  refine HC.mono ?_
  rintro e w12 ⟨rfl, h⟩
  have H12 := hid h
  clear h HC
  have HC : Calls Tryz.prog 26 #[.pointer (some ⟨p, 0, none⟩), .int .i64 3, .string ⟨#[120]⟩] w12 fun e w' => ∃ v, e = .returned (.tuple #[v, .int .i64 0]) ∧ MaR w 10 N 3 p T14j v [nmA14] w' :=
    mar_list H12.out nb3 nmX14 sho14.2 (by decide) (by decide) (show T14i.op nb3 = some (nmT14, m14d) from rfl) lis14 set14j
  clear H12
  go_wp2_with fail
  refine HC.mono ?_
  rintro e w13 ⟨v, rfl, h⟩
  have H13 := hid h
  clear h HC
  have HC : Calls Tryz.prog 18 #[.pointer (some ⟨p, 0, none⟩), .int .i64 3] w13 fun e w' => e = .returned (.tuple #[.int .i64 2, .int .i64 0]) ∧ MaR w 13 N 4 p T14k v [nmA14] w' :=
    mar_com H13.out nb3 (by decide) (by decide) (fun e => by rw [show T14j.op nb3 = some (nmT14, m14e) from rfl] at e; cases e) (fun _ _ _ h => com14j h) (fun _ h => old14j h) (by decide) end14k
  clear H13
  go_wp2_with fail
  refine HC.mono ?_
  rintro e w14 ⟨rfl, h⟩
  have H14 := hid h
  clear h HC
  go_wp2_with fail

  obtain ⟨w15, hw15⟩ : ∃ W, W = w14.alloc (.cells #[.string ⟨#[97]⟩] 9) := ⟨_, rfl⟩
  obtain ⟨b, hb⟩ : ∃ x, x = w14.heap.size := ⟨_, rfl⟩
  have HC : Calls Tryz.prog 33 #[v, .slice (some ⟨b, 0, none⟩) 1 1] w15 fun e w' => e = .returned (.bool true) ∧ Ma w 13 N 4 p T14k w' := by
    have hk : Same w14 w15 := by rw [hw15]; exact (Kept.refl _ _).alloc _
    have hr : RowE w14.heap.size 9 nmV w15 (.slice (some ⟨b, 0, none⟩) 1 1) [nmA14] := by rw [hw15, hb]; exact row_one w14 nmA14
    exact (texts_true w15 _ _ _ _ [nmA14] (H14.out.row.same hk) hr (by decide)).mono (fun e w' h => ⟨h.1, (H14.out.ma.still hk).still h.2⟩)
  rw [← hw15, ← hb]
  clear hw15 hb H14
  refine HC.mono ?_
  rintro e w16 ⟨rfl, h⟩
  have H16 := hid h
  clear h HC
  go_wp2_with fail
  refine (show Calls Tryz.prog 32 #[.pointer (some ⟨p, 0, none⟩), .string ⟨#[116]⟩] w16 _ from ma_use H16.out).mono ?_
  rintro e w17 ⟨rfl, h⟩
  have H17 := hid (H16.out.still h)
  clear h H16
  go_wp2_with fail
  refine (show Calls Tryz.prog 16 #[.pointer (some ⟨p, 0, none⟩)] w17 (fun e w' => e = .returned (.int .i64 2) ∧ w' = w17) from ma_now H17.out).mono ?_
  rintro e w18 ⟨rfl, hw⟩
  have hw9 := hw.symm
  subst hw9
  go_wp2_with fail
  go_ret
  exact ⟨rfl, H17.out.same⟩

end Go.Proofs.YtapcjmnibkoegaaGreatDoor

/-
  TxnNil's walk.
-/
namespace Go.Proofs.YtapcjmnibkoegaaGreatDoor
open Go.RowKit Go.Maps Go.Sort Go.Shelf

/-- A call that came in, as a block's cells. -/
def opV (k n : Int) (tn ar en d : ByteArray) : Array Value := #[.int .i64 k, .int .i64 n, .string tn, .string ar, .string en, .string d]

/-- Its cells but the first. -/
def OpC (b : Nat) (n : Int) (tn ar en d : ByteArray) (w : World) : Prop :=
  w.cell? ⟨b, 1, none⟩ = some (.int .i64 n) ∧ w.cell? ⟨b, 2, none⟩ = some (.string tn) ∧ w.cell? ⟨b, 3, none⟩ = some (.string ar) ∧ w.cell? ⟨b, 4, none⟩ = some (.string en) ∧ w.cell? ⟨b, 5, none⟩ = some (.string d)

theorem opC_of {b : Nat} {k n : Int} {tn ar en d : ByteArray} {w w' : World} (h : Blk w b (opV k n tn ar en d) 24) (hk : Same w w') : OpC b n tn ar en d w' := by
  have h9 := h.kept hk (fun f => f)
  exact ⟨h9.cell 1, h9.cell 2, h9.cell 3, h9.cell 4, h9.cell 5⟩

set_option maxRecDepth 100000 in
set_option maxHeartbeats 4000000 in
theorem nil14 (w : World) (k n : Int) (tn ar en d : ByteArray) (hx : Mxl w) : Calls Tryz.prog 7 #[.agg #[.int .i64 k, .int .i64 n, .string tn, .string ar, .string en, .string d]] w fun e w' => e = .returned (.bool true) ∧ Same w w' := by
  have HX := hid hx
  obtain ⟨W1, hW1⟩ : ∃ W, W = w.alloc (.cells #[.int .i64 k, .int .i64 n, .string tn, .string ar, .string en, .string d] 24) := ⟨_, rfl⟩
  obtain ⟨b1, hb1⟩ : ∃ b, b = w.heap.size := ⟨_, rfl⟩
  have HB1 : Hid (Blk W1 b1 (opV k n tn ar en d) 24) := hid (by rw [hW1, hb1]; exact Blk.new w _ _)
  have HK1 : Hid (Same w W1) := hid (by rw [hW1]; exact (Kept.refl _ w).alloc _)
  clear hx
  go_enter Tryz.func7, Tryz.ntmps7
  go_upto_region 1 with fail
  rw [← hW1, ← hb1]
  clear hW1 hb1
  obtain ⟨c1, c2, c3, c4, c5⟩ := opC_of HB1.out (Kept.refl _ _)
  have HC := tbegin_nil W1 tn
  go_wp2_with fail
  refine HC.mono ?_
  rintro e w2 ⟨rfl, hw⟩
  have hw9 := hw.symm
  subst hw9
  have HC := tread_nil W1 n ar en
  clear hw
  go_wp2_with fail
  refine HC.mono ?_
  rintro e w3 ⟨rfl, hk⟩
  have HK3 : Hid (Same W1 w3) := hid hk
  clear HC hk c1 c2 c3 c4 c5
  obtain ⟨c1, c2, c3, c4, c5⟩ := opC_of HB1.out HK3.out
  have HC := tlist_nil w3 n ar
  go_wp2_with fail
  refine HC.mono ?_
  rintro e w4 ⟨rfl, hk⟩
  have HK4 : Hid (Same W1 w4) := hid (HK3.out.trans hk)
  clear HC hk c1 c2 c3 c4 c5
  obtain ⟨c1, c2, c3, c4, c5⟩ := opC_of HB1.out HK4.out
  have HC := tcheck_nil w4 n
  go_wp2_with fail
  refine HC.mono ?_
  rintro e w5 ⟨rfl, hk⟩
  obtain ⟨W6, hW6⟩ : ∃ W, W = w5.alloc (.cells #[.int .i64 0, .slice none 0 0] 59) := ⟨_, rfl⟩
  obtain ⟨g6, hg6⟩ : ∃ b, b = w5.heap.size := ⟨_, rfl⟩
  have HB6 : Hid (Blk W6 g6 #[.int .i64 0, .slice none 0 0] 59) := hid (by rw [hW6, hg6]; exact Blk.new w5 _ _)
  have HK6 : Hid (Same W1 W6) := hid (by rw [hW6]; exact (HK4.out.trans hk).alloc _)
  clear HC hk c1 c2 c3 c4 c5
  obtain ⟨c1, c2, c3, c4, c5⟩ := opC_of HB1.out HK6.out
  rw [hW6] at c1 c2 c3 c4 c5
  have HC := tcommit_nil W6 n
  go_wp2_with fail
  rw [← hW6, ← hg6]
  clear hW6 hg6 c1 c2 c3 c4 c5
  refine HC.mono ?_
  rintro e w7 ⟨rfl, hk⟩
  have HK67 : Hid (Same W6 w7) := hid hk
  have HK7 : Hid (Same W1 w7) := hid (HK6.out.trans hk)
  clear HC hk
  obtain ⟨c1, c2, c3, c4, c5⟩ := opC_of HB1.out HK7.out
  have HC := towner_nil w7 n
  go_wp2_with fail
  refine HC.mono ?_
  rintro e w8 ⟨rfl, hw⟩
  have hw9 := hw.symm
  subst hw9
  clear hw HC
  have d0 : w7.cell? ⟨g6, 0, none⟩ = some (.int .i64 0) := (HB6.out.kept HK67.out (fun f => f)).cell 0
  have d1 : w7.cell? ⟨g6, 1, none⟩ = some (.slice none 0 0) := (HB6.out.kept HK67.out (fun f => f)).cell 1
  have HC := tput_nil w7 n ar en d
  go_wp2_with fail
  refine HC.mono ?_
  rintro e w9 ⟨rfl, hk⟩
  have HK9 : Hid (Same W1 w9) := hid (HK7.out.trans hk)
  clear HC hk c1 c2 c3 c4 c5 d0 d1
  obtain ⟨c1, c2, c3, c4, c5⟩ := opC_of HB1.out HK9.out
  have HC := tadd_nil w9 n ar en d
  go_wp2_with fail
  refine HC.mono ?_
  rintro e w10 ⟨rfl, hk⟩
  have HK10 : Hid (Same W1 w10) := hid (HK9.out.trans hk)
  clear HC hk c1 c2 c3 c4 c5
  obtain ⟨c1, c2, c3, c4, c5⟩ := opC_of HB1.out HK10.out
  have HC := tdel_nil w10 n ar en
  go_wp2_with fail
  refine HC.mono ?_
  rintro e w11 ⟨rfl, hk⟩
  have HK11 : Hid (Same W1 w11) := hid (HK10.out.trans hk)
  clear HC hk c1 c2 c3 c4 c5
  obtain ⟨c1, c2, c3, c4, c5⟩ := opC_of HB1.out HK11.out
  have HC := tabort_nil w11 n
  go_wp2_with fail
  refine HC.mono ?_
  rintro e w12 ⟨rfl, hk⟩
  have HK12 : Hid (Same W1 w12) := hid (HK11.out.trans hk)
  clear HC hk c1 c2 c3 c4 c5
  have HC := awake14 w12 ((HX.out.kept HK1.out (fun f => f)).kept HK12.out (fun f => f))
  go_wp2_with fail
  refine HC.mono ?_
  rintro e w13 ⟨rfl, hk⟩
  have HK13 : Hid (Same W1 w13) := hid (HK12.out.trans hk)
  clear HC hk
  obtain ⟨c1, c2, c3, c4, c5⟩ := opC_of HB1.out HK13.out
  have HC := topen_nil w13
  go_wp2_with fail
  refine HC.mono ?_
  rintro e w14 ⟨rfl, hw⟩
  have hw9 := hw.symm
  subst hw9
  clear hw HC
  have HC := tnow_nil w13
  go_wp2_with fail
  refine HC.mono ?_
  rintro e w15 ⟨rfl, hw⟩
  have hw9 := hw.symm
  subst hw9
  clear hw HC
  have HC := tuse_nil w13 tn
  go_wp2_with fail
  refine HC.mono ?_
  rintro e w16 ⟨rfl, hk⟩
  have HK16 : Hid (Same W1 w16) := hid (HK13.out.trans hk)
  clear HC hk c1 c2 c3 c4 c5
  have HC := tdump_nil w16
  go_wp2_with fail
  refine HC.mono ?_
  rintro e w17 ⟨rfl, hw⟩
  have hw9 := hw.symm
  subst hw9
  clear hw HC
  go_wp2_with fail
  go_ret
  exact ⟨rfl, HK1.out.trans HK16.out⟩

end Go.Proofs.YtapcjmnibkoegaaGreatDoor

/-
  Layer 14's laws: calls that came in.
-/
namespace Go.Proofs.YtapcjmnibkoegaaGreatDoor
open Go.ChangeShapes Go.WideShapes Go.ChangeAt Go.RowKit Go.Deep Go.Maps

theorem Tryz.cells14s : Tryz.prog.cellsOf 9 = 1 := by kernel_rfl
theorem Tryz.cells14i : Tryz.prog.cellsOf 3 = 1 := by kernel_rfl
theorem Tryz.cells14o : Tryz.prog.cellsOf 24 = 6 := by kernel_rfl

/-- A call of the script. -/
structure Ot where
  kind : Int
  num : Int
  tn : ByteArray
  ar : ByteArray
  en : ByteArray
  dt : ByteArray
  ok : tn.size ≤ maxLen ∧ ar.size ≤ maxLen ∧ en.size ≤ maxLen ∧ dt.size ≤ maxLen ∧ (Lit.int .i64 num).wf = true

def otE (o : Ot) : List Value := [.int .i64 o.kind, .int .i64 o.num, .string o.tn, .string o.ar, .string o.en, .string o.dt]
section
variable {H : Type} {enc : TypeId × Value → H} {W : World} {x : DataW H × List MemPlace}

theorem ot_of {fuel : Nat} {k0 k1 k2 k3 k4 k5 : Value} (h : DataW.trod enc Tryz.prog W 0 (fun _ => true) true fuel 24 [k0, k1, k2, k3, k4, k5] = some x) : ∃ o : Ot, [k0, k1, k2, k3, k4, k5] = otE o := by
  obtain ⟨xs, n', _, _, _, hlen, hf⟩ := DataW.trod_struct Tryz.underlying24 h
  match xs, hlen with
  | [y0, y1, y2, y3, y4, y5], _ =>
    have c2 := Tryz.cells14s
    have c3 := Tryz.cells14i
    have t0 : DataW.trod enc Tryz.prog W 0 (fun _ => true) true n' 3 [k0] = some y0 := by simpa [c2, c3] using hf 0 _ rfl
    have t1 : DataW.trod enc Tryz.prog W 0 (fun _ => true) true n' 3 [k1] = some y1 := by simpa [c2, c3] using hf 1 _ rfl
    have t2 : DataW.trod enc Tryz.prog W 0 (fun _ => true) true n' 9 [k2] = some y2 := by simpa [c2, c3] using hf 2 _ rfl
    have t3 : DataW.trod enc Tryz.prog W 0 (fun _ => true) true n' 9 [k3] = some y3 := by simpa [c2, c3] using hf 3 _ rfl
    have t4 : DataW.trod enc Tryz.prog W 0 (fun _ => true) true n' 9 [k4] = some y4 := by simpa [c2, c3] using hf 4 _ rfl
    have t5 : DataW.trod enc Tryz.prog W 0 (fun _ => true) true n' 9 [k5] = some y5 := by simpa [c2, c3] using hf 5 _ rfl
    obtain ⟨q0, e0, _, s0⟩ := DataW.trod_int Tryz.underlying3 t0
    obtain ⟨q1, e1, _, s1⟩ := DataW.trod_int Tryz.underlying3 t1
    obtain ⟨q2, e2, _, s2⟩ := DataW.trod_string Tryz.underlying9 t2
    obtain ⟨q3, e3, _, s3⟩ := DataW.trod_string Tryz.underlying9 t3
    obtain ⟨q4, e4, _, s4⟩ := DataW.trod_string Tryz.underlying9 t4
    obtain ⟨q5, e5, _, s5⟩ := DataW.trod_string Tryz.underlying9 t5
    simp only [List.cons.injEq, and_true] at e0 e1 e2 e3 e4 e5
    subst e0 e1 e2 e3 e4 e5
    exact ⟨⟨q0, q1, q2, q3, q4, q5, s2, s3, s4, s5, s1⟩, rfl⟩

theorem ot_arg {fuel : Nat} {cs : Array Value} (hs : cs.size = Tryz.prog.cellsOf 24) (h : DataW.trod enc Tryz.prog W 0 (fun _ => true) true fuel 24 (Value.agg cs).cells.toList = some x) : ∃ o : Ot, cs = (otE o).toArray := by
  rw [Tryz.cells14o] at hs
  obtain ⟨l⟩ := cs
  simp only [List.size_toArray] at hs
  rcases l with _ | ⟨a, _ | ⟨b, _ | ⟨c, _ | ⟨d, _ | ⟨e, _ | ⟨f, _ | ⟨q, r⟩⟩⟩⟩⟩⟩⟩
  all_goals try (simp at hs; done)
  obtain ⟨o, h1⟩ := ot_of (k0 := a) (k1 := b) (k2 := c) (k3 := d) (k4 := e) (k5 := f) h
  exact ⟨o, by rw [h1]⟩
end

theorem txnNil_all (o : Ot) (W : World) (hT : Mxl W) :
    Calls Tryz.prog 7 #[.agg (otE o).toArray] W fun e W' => e = .returned (.bool true) ∧ Below W.heap.size W W' :=
  (nil14 W o.kind o.num o.tn o.ar o.en o.dt hT).mono fun _ _ ⟨he, hk⟩ => ⟨he, Kept.below hk (Nat.le_refl _) (fun _ _ f => f)⟩

end Go.Proofs.YtapcjmnibkoegaaGreatDoor
