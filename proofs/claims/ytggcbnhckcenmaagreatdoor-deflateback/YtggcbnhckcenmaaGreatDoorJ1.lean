/-
  Of the proof: parts Math, Bits, MtM, MtN, MtL.
-/


namespace Go.Proofs.YtggcbnhckcenmaaGreatDoor

def n256 : List Nat → Nat
  | [] => 0
  | b :: r => b + 256 * n256 r

def n2 : List Nat → Nat
  | [] => 0
  | b :: r => b + 2 * n2 r

theorem n256_append (a b : List Nat) : n256 (a ++ b) = n256 a + 256 ^ a.length * n256 b := by
  induction a with
  | nil => simp [n256]
  | cons x r ih =>
    simp only [List.cons_append, n256, ih, List.length_cons, Nat.pow_succ, Nat.mul_add, Nat.add_assoc]
    rw [Nat.mul_comm (256 ^ r.length) 256, Nat.mul_assoc]

theorem n2_append (a b : List Nat) : n2 (a ++ b) = n2 a + 2 ^ a.length * n2 b := by
  induction a with
  | nil => simp [n2]
  | cons x r ih =>
    simp only [List.cons_append, n2, ih, List.length_cons, Nat.pow_succ, Nat.mul_add, Nat.add_assoc]
    rw [Nat.mul_comm (2 ^ r.length) 2, Nat.mul_assoc]

theorem n256_lt (l : List Nat) (h : ∀ b ∈ l, b < 256) : n256 l < 256 ^ l.length := by
  induction l with
  | nil => simp [n256]
  | cons x r ih =>
    have h1 := h x (by simp)
    have h2 := ih (fun b hb => h b (by simp [hb]))
    simp only [n256, List.length_cons, Nat.pow_succ]
    omega

theorem n2_lt (l : List Nat) (h : ∀ b ∈ l, b < 2) : n2 l < 2 ^ l.length := by
  induction l with
  | nil => simp [n2]
  | cons x r ih =>
    have h1 := h x (by simp)
    have h2 := ih (fun b hb => h b (by simp [hb]))
    simp only [n2, List.length_cons, Nat.pow_succ]
    omega

theorem n256_inj (a b : List Nat) (hl : a.length = b.length) (ha : ∀ x ∈ a, x < 256) (hb : ∀ x ∈ b, x < 256) (h : n256 a = n256 b) : a = b := by
  induction a generalizing b with
  | nil => cases b with
    | nil => rfl
    | cons => simp at hl
  | cons x r ih => cases b with
    | nil => simp at hl
    | cons y s =>
      have h1 := ha x (by simp)
      have h2 := hb y (by simp)
      simp only [n256] at h
      simp only [List.length_cons, Nat.add_right_cancel_iff] at hl
      have e := ih s hl (fun b hb' => ha b (by simp [hb'])) (fun b hb' => hb b (by simp [hb'])) (by omega)
      rw [e]
      congr 1
      omega

theorem pow8 (k : Nat) : 256 ^ k = 2 ^ (8 * k) := by rw [Nat.pow_mul]

theorem n256_get (l : List Nat) (h : ∀ b ∈ l, b < 256) (i : Nat) (hi : i < l.length) : n256 l / 2 ^ (8 * i) % 256 = l[i] := by
  rw [← pow8]
  induction l generalizing i with
  | nil => simp at hi
  | cons x r ih =>
    have h1 := h x (by simp)
    cases i with
    | zero => simp [n256]; omega
    | succ k =>
      have := ih (fun b hb => h b (by simp [hb])) k (by simpa using hi)
      simp only [n256, Nat.pow_succ, List.getElem_cons_succ]
      rw [Nat.mul_comm (256 ^ k) 256, ← Nat.div_div_eq_div_mul, show (x + 256 * n256 r) / 256 = n256 r by omega]
      exact this

theorem last_lt (bs : List Nat) (b c free : Nat) (hc : 8 * (bs.length + 1) = c + free) (hf : free ≤ 8) (h : n256 (bs ++ [b]) < 2 ^ c) : b < 2 ^ (8 - free) := by
  rw [n256_append] at h
  simp only [n256, Nat.mul_zero, Nat.add_zero] at h
  have e : c = 8 * bs.length + (8 - free) := by omega
  rw [e, Nat.pow_add, ← pow8] at h
  have : 256 ^ bs.length * b < 256 ^ bs.length * 2 ^ (8 - free) := by omega
  exact Nat.lt_of_mul_lt_mul_left this

theorem last_set (bs : List Nat) (b c free x : Nat) (hc : 8 * (bs.length + 1) = c + free) (hf : free ≤ 8) : n256 (bs ++ [b + 2 ^ (8 - free) * x]) = n256 (bs ++ [b]) + 2 ^ c * x := by
  have e : c = 8 * bs.length + (8 - free) := by omega
  simp only [n256_append, n256, Nat.mul_zero, Nat.add_zero]
  rw [e, Nat.pow_add, ← pow8, Nat.mul_add, Nat.mul_assoc, Nat.add_assoc]

theorem or_add (b k x : Nat) (h : b < 2 ^ k) : b ||| (2 ^ k * x) = b + 2 ^ k * x := by
  rw [Nat.or_comm, ← Nat.two_pow_add_eq_or_of_lt h, Nat.add_comm]

theorem shl_byte (v free : Nat) (hf : free ≤ 8) : v * 2 ^ (8 - free) % 256 = 2 ^ (8 - free) * (v % 2 ^ free) := by
  have : (256 : Nat) = 2 ^ (8 - free) * 2 ^ free := by rw [← Nat.pow_add]; simp [hf]
  rw [this, Nat.mul_comm, Nat.mul_mod_mul_left]

theorem pow_split (v k : Nat) : v % 2 ^ k + 2 ^ k * (v / 2 ^ k) = v := by rw [Nat.mod_add_div]

theorem lay_step (X v n c free : Nat) (hv : v < 2 ^ n) :
    X + 2 ^ c * (v % 2 ^ free) + v / 2 ^ (min free n) * 2 ^ (c + min free n) = X + v * 2 ^ c := by
  by_cases h : free ≤ n
  · rw [Nat.min_eq_left h, Nat.pow_add]
    have e := pow_split v free
    calc X + 2 ^ c * (v % 2 ^ free) + v / 2 ^ free * (2 ^ c * 2 ^ free) = X + 2 ^ c * (v % 2 ^ free + 2 ^ free * (v / 2 ^ free)) := by
          rw [Nat.mul_add, Nat.add_assoc]; congr 2; rw [Nat.mul_comm, Nat.mul_assoc]
      _ = _ := by rw [e, Nat.mul_comm]
  · have h' : n ≤ free := by omega
    have h2 : v < 2 ^ free := Nat.lt_of_lt_of_le hv (Nat.pow_le_pow_right (by omega) h')
    rw [Nat.min_eq_right h', Nat.div_eq_of_lt hv, Nat.mod_eq_of_lt h2, Nat.zero_mul, Nat.add_zero, Nat.mul_comm]

theorem byte_part (Z u k : Nat) (h : u + k ≤ 8) : Z % 256 / 2 ^ u % 2 ^ k = Z / 2 ^ u % 2 ^ k := by
  have e : (256 : Nat) = 2 ^ u * 2 ^ (8 - u) := by rw [← Nat.pow_add, show u + (8 - u) = 8 by omega]
  rw [e, Nat.mod_mul_right_div_self, Nat.mod_mod_of_dvd _ (Nat.pow_dvd_pow 2 (by omega))]

theorem more_bits (Y a k : Nat) : Y % 2 ^ (a + k) = Y % 2 ^ a + 2 ^ a * (Y / 2 ^ a % 2 ^ k) := by
  rw [Nat.pow_add, Nat.mod_mul]

theorem cut_step (bs : List Nat) (hb : ∀ b ∈ bs, b < 256) (g got k : Nat) (hk : (g + got) % 8 + k ≤ 8) (hlt : (g + got) / 8 < bs.length) :
    n256 bs / 2 ^ g % 2 ^ got + 2 ^ got * (bs[(g + got) / 8] / 2 ^ ((g + got) % 8) % 2 ^ k) = n256 bs / 2 ^ g % 2 ^ (got + k) := by
  have e := n256_get bs hb _ hlt
  rw [← e, byte_part _ _ _ hk, Nat.div_div_eq_div_mul, ← Nat.pow_add, show 8 * ((g + got) / 8) + (g + got) % 8 = g + got by omega, more_bits, Nat.div_div_eq_div_mul, ← Nat.pow_add]

theorem and_mask (x k : Nat) : x &&& (2 ^ k - 1) = x % 2 ^ k := Nat.and_two_pow_sub_one_eq_mod x k

end Go.Proofs.YtggcbnhckcenmaaGreatDoor

namespace Go.Proofs.YtggcbnhckcenmaaGreatDoor

def bitsOf(v:Nat):Nat→List Nat
 | 0=>[]
 | n+1=>bitsOf v n++[v / 2 ^ n % 2]

theorem bitsOf_length(v n:Nat):(bitsOf v n).length=n:=by
 induction n with
 | zero=>rfl
 | succ n ih=>simp[bitsOf,ih]

theorem bitsOf_lt(v n:Nat):∀b∈bitsOf v n,b<2:=by
 induction n with
 | zero=>simp[bitsOf]
 | succ n ih=>
  intro b hb
  rcases List.mem_append.1 hb with h | h
  ·exact ih b h
  ·simp at h;omega

theorem bitsOf_n2(v n:Nat):n2 (bitsOf v n)=v % 2 ^ n:=by
 induction n with
 | zero=>simp[bitsOf,n2,Nat.mod_one]
 | succ n ih=>
  rw[more_bits v n 1,bitsOf,n2_append,ih,bitsOf_length]
  simp[n2]

theorem n2_zeros(n:Nat):n2 (List.replicate n 0)=0:=by
 induction n with
 | zero=>rfl
 | succ n ih=>simp[List.replicate_succ,n2,ih]

theorem n2_put(ls:List Nat)(v n:Nat)(h:v<2 ^ n):n2 (ls++bitsOf v n)=n2 ls+v*2 ^ ls.length:=by
 rw[n2_append,bitsOf_n2,Nat.mod_eq_of_lt h,Nat.mul_comm]

theorem n2_align(ls:List Nat)(n:Nat):n2 (ls++List.replicate n 0)=n2 ls:=by
 rw[n2_append,n2_zeros];simp

theorem n2_take_lt(ls:List Nat)(h:∀b∈ls,b<2)(i t:Nat):n2 ((ls.drop i).take t)<2 ^ t:=by
 have h1:=n2_lt ((ls.drop i).take t) (fun b hb=>h b (List.mem_of_mem_drop (List.mem_of_mem_take hb)))
 exact Nat.lt_of_lt_of_le h1 (Nat.pow_le_pow_right (by omega) (List.length_take_le _ _))

def ofBytes:List Nat→List Nat
 | []=>[]
 | b::r=>bitsOf b 8++ofBytes r

theorem ofBytes_append(a b:List Nat):ofBytes (a++b)=ofBytes a++ofBytes b:=by
 induction a with
 | nil=>rfl
 | cons x r ih=>simp[ofBytes,ih]

theorem ofBytes_length(l:List Nat):(ofBytes l).length=8*l.length:=by
 induction l with
 | nil=>rfl
 | cons x r ih=>simp[ofBytes,ih,bitsOf_length];omega

theorem ofBytes_lt(l:List Nat):∀b∈ofBytes l,b<2:=by
 induction l with
 | nil=>simp[ofBytes]
 | cons x r ih=>
  intro b hb
  rcases List.mem_append.1 hb with h | h
  ·exact bitsOf_lt x 8 b h
  ·exact ih b h

theorem ofBytes_n2(l:List Nat)(h:∀b∈l,b<256):n2 (ofBytes l)=n256 l:=by
 induction l with
 | nil=>rfl
 | cons x r ih=>
  have h1:=h x (by simp)
  rw[ofBytes,n2_append,bitsOf_n2,bitsOf_length,ih (fun b hb=>h b (by simp[hb])),n256,show(2:Nat) ^ 8=256 from rfl,Nat.mod_eq_of_lt h1]

theorem n2_part(ls:List Nat)(h:∀b∈ls,b<2)(a n:Nat)(hl:a+n≤ls.length):n2 ((ls.drop a).take n)=n2 ls / 2 ^ a % 2 ^ n:=by
 have e1:n2 ls=n2 (ls.take a)+2 ^ a*n2 (ls.drop a):=by
  have:=n2_append (ls.take a) (ls.drop a)
  rw[List.take_append_drop,List.length_take,Nat.min_eq_left (by omega)]at this
  exact this
 have h1:n2 (ls.take a)<2 ^ a:=by
  have:=n2_lt (ls.take a) (fun b hb=>h b (List.mem_of_mem_take hb))
  rw[List.length_take,Nat.min_eq_left (by omega)]at this
  exact this
 have e2:n2 (ls.drop a)=n2 ((ls.drop a).take n)+2 ^ n*n2 ((ls.drop a).drop n):=by
  have:=n2_append ((ls.drop a).take n) ((ls.drop a).drop n)
  rw[List.take_append_drop,List.length_take,List.length_drop,Nat.min_eq_left (by omega)]at this
  exact this
 have h2:=n2_take_lt ls h a n
 rw[e1,Nat.add_mul_div_left _ _ (Nat.two_pow_pos _),Nat.div_eq_of_lt h1,Nat.zero_add,e2,Nat.add_mul_mod_self_left,Nat.mod_eq_of_lt (show n2 (List.take n (List.drop a ls))<2 ^ n from h2)]

end Go.Proofs.YtggcbnhckcenmaaGreatDoor

namespace Go.Proofs.YtggcbnhckcenmaaGreatDoor

structure TK where
 lit:Nat
 len:Int
 dist:Int
deriving DecidableEq

def mayT(t:TK)(said:Nat):Bool:=
 if t.len=0 then decide (t.dist=0)else decide (t.lit=0∧3≤t.len∧t.len≤258∧1≤t.dist∧t.dist≤(said:Int))

def tlen(t:TK):Nat:=(max t.len 1).toNat

def measT(most:Nat):List TK→Nat→Except Nat Nat
 | [],said=>.ok said
 | t::r,said=>if mayT t said=false then .error 60 else if most<said+tlen t then .error 2 else measT most r (said+tlen t)

def cpT(far:Nat):Nat→List Nat→List Nat
 | 0,out=>out
 | n+1,out=>cpT far n (out++[out.getD (out.length-far) 0])

def sayT(out:List Nat)(t:TK):List Nat:=if t.len=0 then out++[t.lit]else cpT t.dist.toNat t.len.toNat out

def expT(ts:List TK)(out:List Nat):List Nat:=ts.foldl sayT out

def errT:Except Nat Nat→Nat
 | .ok _=>0
 | .error e=>e

theorem cpT_length(far n:Nat)(out:List Nat):(cpT far n out).length=out.length+n:=by
 induction n generalizing out with
 | zero=>rfl
 | succ n ih=>rw[cpT,ih,List.length_append];simp;omega

theorem cpT_more(far n:Nat)(out:List Nat):cpT far (n+1) out=cpT far n out++[(cpT far n out).getD ((cpT far n out).length-far) 0]:=by
 induction n generalizing out with
 | zero=>rfl
 | succ n ih=>rw[cpT,ih,cpT]

theorem mayT_cases{t:TK}{said:Nat}(h:mayT t said=true):(t.len=0∧t.dist=0∧tlen t=1)∨(∃n d:Nat,t.len=n∧t.dist=d∧t.lit=0∧3≤n∧n≤258∧1≤d∧d≤said∧tlen t=n):=by
 unfold mayT at h
 split at h
 ·rename_i h0
  refine .inl ⟨h0,by simpa using h,?_⟩
  unfold tlen;rw[h0];rfl
 ·have h:=of_decide_eq_true h
  refine .inr ⟨t.len.toNat,t.dist.toNat,by omega,by omega,h.1,by omega,by omega,by omega,by omega,?_⟩
  unfold tlen;omega

theorem tlen_pos(t:TK):1≤tlen t:=by unfold tlen;omega

theorem sayT_length{t:TK}{said:Nat}(h:mayT t said=true)(out:List Nat):(sayT out t).length=out.length+tlen t:=by
 unfold sayT
 rcases mayT_cases h with⟨h0,_,h1⟩ | ⟨n,d,h0,_,_,h3,_,_,_,h1⟩
 ·rw[if_pos h0,h1];simp
 ·rw[if_neg (by omega),cpT_length,h1,h0];simp

theorem measT_le{most:Nat}{ts:List TK}{said n:Nat}(h:measT most ts said=.ok n)(hs:said≤most):said≤n∧n≤most:=by
 induction ts generalizing said with
 | nil=>simp only[measT,Except.ok.injEq]at h;omega
 | cons t r ih=>
  unfold measT at h
  split at h
  ·cases h
  ·split at h
   ·cases h
   ·have:=ih h (by omega);omega

theorem measT_err{most:Nat}{ts:List TK}{said e:Nat}(h:measT most ts said=.error e):e=60∨e=2:=by
 induction ts generalizing said with
 | nil=>cases h
 | cons t r ih=>
  unfold measT at h
  split at h
  ·simp only[Except.error.injEq]at h;omega
  ·split at h
   ·simp only[Except.error.injEq]at h;omega
   ·exact ih h

def blen(n:Nat):Nat:=if n=0 then 0 else Nat.log2 n+1

theorem blen_le(n k:Nat):blen n≤k↔n<2 ^ k:=by
 unfold blen
 split
 ·rename_i h;subst h;simp;exact Nat.two_pow_pos k
 ·rename_i h
  rw[←Nat.log2_lt h]
  omega

def extM(data:List Nat)(i d:Nat):Nat→Nat→Nat
 | 0,n=>n
 | f+1,n=>if i+n<data.length∧data.getD (i+n) 0=data.getD (i+n-d) 0 then extM data i d f (n+1)else n

def mlM(data:List Nat)(i d:Nat):Nat:=extM data i d 258 0

theorem extM_ge(data:List Nat)(i d f n:Nat):n≤extM data i d f n∧extM data i d f n≤n+f:=by
 induction f generalizing n with
 | zero=>exact⟨Nat.le_refl _,Nat.le_refl _⟩
 | succ f ih=>
  unfold extM
  split
  ·have:=ih (n+1);omega
  ·omega

theorem extM_agree(data:List Nat)(i d f n:Nat):∀j,n≤j→j<extM data i d f n→i+j<data.length∧data.getD (i+j) 0=data.getD (i+j-d) 0:=by
 induction f generalizing n with
 | zero=>intro j h1 h2;unfold extM at h2;omega
 | succ f ih=>
  intro j h1 h2
  unfold extM at h2
  split at h2
  ·rename_i hc
   by_cases he:j=n
   ·subst he;exact hc
   ·exact ih (n+1) j (by omega) h2
  ·omega

theorem mlM_agree(data:List Nat)(i d j:Nat)(h:j<mlM data i d):i+j<data.length∧data.getD (i+j) 0=data.getD (i+j-d) 0:=
 extM_agree data i d 258 0 j (Nat.zero_le _) h
theorem mlM_le(data:List Nat)(i d:Nat):mlM data i d≤258:=by have:=extM_ge data i d 258 0;unfold mlM;omega
theorem mlM_in(data:List Nat)(i d:Nat):mlM data i d=0∨i+mlM data i d≤data.length:=by
 rcases Nat.eq_zero_or_pos (mlM data i d)with h | h
 ·exact .inl h
 ·have:=(mlM_agree data i d (mlM data i d-1) (by omega)).1;exact .inr (by omega)
theorem mlM_ne{data:List Nat}{i d n:Nat}(h:data.getD (i+n) 0≠data.getD (i+n-d) 0):mlM data i d≤n:=by
 refine Nat.le_of_not_lt (fun hc=>h (mlM_agree data i d n hc).2)

theorem extM_step{data:List Nat}{i d f n:Nat}(h1:i+n<data.length)(h2:data.getD (i+n) 0=data.getD (i+n-d) 0):extM data i d (f+1) n=extM data i d f (n+1):=by
 rw[extM,if_pos ⟨h1,h2⟩]
theorem extM_stop{data:List Nat}{i d f n:Nat}(h:¬(i+n<data.length∧data.getD (i+n) 0=data.getD (i+n-d) 0)):extM data i d f n=n:=by
 cases f with
 | zero=>rfl
 | succ f=>rw[extM,if_neg h]

theorem mlM_from{data:List Nat}{i d:Nat}(n:Nat)(hn:n≤258)(h:∀j,j<n→i+j<data.length∧data.getD (i+j) 0=data.getD (i+j-d) 0):mlM data i d=extM data i d (258-n) n:=by
 induction n with
 | zero=>rfl
 | succ n ih=>
  rw[ih (by omega) (fun j hj=>h j (by omega))]
  have:=h n (by omega)
  rw[show 258-n=(258-(n+1))+1 by omega,extM_step this.1 this.2]

def bestM(data:List Nat)(i:Nat):Nat→Nat×Nat
 | 0=>(0,0)
 | k+1=>if 3≤mlM data i (k+1)∧(bestM data i k).1<mlM data i (k+1) then(mlM data i (k+1),k+1)else bestM data i k

def matM(data:List Nat)(i:Nat):Nat×Nat:=bestM data i i

theorem bestM_skip{data:List Nat}{i k:Nat}(h:mlM data i (k+1)<3∨mlM data i (k+1)≤(bestM data i k).1):bestM data i (k+1)=bestM data i k:=by
 rw[bestM,if_neg (by omega)]
theorem bestM_take{data:List Nat}{i k:Nat}(h:3≤mlM data i (k+1))(h2:(bestM data i k).1<mlM data i (k+1)):bestM data i (k+1)=(mlM data i (k+1),k+1):=by
 rw[bestM,if_pos ⟨h,h2⟩]

theorem bestM_is(data:List Nat)(i k:Nat):bestM data i k=(0,0)∨∃d,1≤d∧d≤k∧bestM data i k=(mlM data i d,d)∧3≤mlM data i d:=by
 induction k with
 | zero=>exact .inl rfl
 | succ k ih=>
  rw[bestM]
  split
  ·rename_i h;exact .inr ⟨k+1,by omega,by omega,rfl,h.1⟩
  ·rcases ih with h | ⟨d,h1,h2,h3⟩
   ·exact .inl h
   ·exact .inr ⟨d,h1,by omega,h3⟩

theorem bestM_full{data:List Nat}{i k:Nat}(m:Nat)(hm:∀d,mlM data i d≤m)(h:m≤(bestM data i k).1)(j:Nat):bestM data i (k+j)=bestM data i k:=by
 induction j with
 | zero=>rfl
 | succ j ih=>rw[←Nat.add_assoc,bestM_skip (by rw[ih];have:=hm (k+j+1);omega),ih]

theorem bestM_none{data:List Nat}{i k j:Nat}(h:∀d,k<d→d≤k+j→mlM data i d<3):bestM data i (k+j)=bestM data i k:=by
 induction j with
 | zero=>rfl
 | succ j ih=>rw[←Nat.add_assoc,bestM_skip (.inl (h (k+j+1) (by omega) (by omega))),ih (fun d h1 h2=>h d h1 (by omega))]

theorem matM_cases(data:List Nat)(i:Nat):(matM data i=(0,0))∨∃n d,matM data i=(n,d)∧3≤n∧n≤258∧1≤d∧d≤i∧i+n≤data.length∧∀j,j<n→data.getD (i+j) 0=data.getD (i+j-d) 0:=by
 rcases bestM_is data i i with h | ⟨d,h1,h2,h3,h4⟩
 ·exact .inl h
 ·refine .inr ⟨mlM data i d,d,h3,h4,mlM_le data i d,h1,h2,?_,fun j hj=>(mlM_agree data i d j hj).2⟩
  rcases mlM_in data i d with h | h
  ·omega
  ·exact h

def tokM(data:List Nat):Nat→Nat→List TK
 | 0,_=>[]
 | f+1,i=>
  if i<data.length then
   (if (matM data i).1=0∨(matM data i).1<(matM data (i+1)).1 then⟨data.getD i 0,0,0⟩::tokM data f (i+1)
   else⟨0,((matM data i).1:Int),((matM data i).2:Int)⟩::tokM data f (i+(matM data i).1))
  else []

def findM(data:List Nat):List TK:=if 16384<data.length then []else tokM data data.length 0

theorem tokM_end{data:List Nat}{f i:Nat}(h:data.length≤i):tokM data f i=[]:=by
 cases f with
 | zero=>rfl
 | succ f=>rw[tokM,if_neg (by omega)]
theorem tokM_lit{data:List Nat}{f i:Nat}(h:i<data.length)(hm:(matM data i).1=0∨(matM data i).1<(matM data (i+1)).1):tokM data (f+1) i=⟨data.getD i 0,0,0⟩::tokM data f (i+1):=by
 rw[tokM,if_pos h,if_pos hm]
theorem tokM_copy{data:List Nat}{f i:Nat}(h:i<data.length)(hm:¬((matM data i).1=0∨(matM data i).1<(matM data (i+1)).1)):tokM data (f+1) i=⟨0,((matM data i).1:Int),((matM data i).2:Int)⟩::tokM data f (i+(matM data i).1):=by
 rw[tokM,if_pos h,if_neg hm]

theorem tokM_fuel{data:List Nat}{f g i:Nat}(hf:data.length-i≤f)(hg:data.length-i≤g):tokM data f i=tokM data g i:=by
 induction f generalizing g i with
 | zero=>rw[tokM_end (by omega),tokM_end (by omega)]
 | succ f ih=>
  by_cases h:i<data.length
  ·obtain⟨g,rfl⟩:∃g',g=g'+1:=⟨g-1,by omega⟩
   by_cases hm:(matM data i).1=0∨(matM data i).1<(matM data (i+1)).1
   ·rw[tokM_lit h hm,tokM_lit h hm,ih (g:=g) (by omega) (by omega)]
   ·rw[tokM_copy h hm,tokM_copy h hm,ih (g:=g) (by omega) (by omega)]
  ·rw[tokM_end (by omega),tokM_end (by omega)]

end Go.Proofs.YtggcbnhckcenmaaGreatDoor

namespace Go.Proofs.YtggcbnhckcenmaaGreatDoor

def triB(data:List Nat)(q a b c:Nat):Bool:=data.getD q 0==a && data.getD (q+1) 0==b && data.getD (q+2) 0==c

theorem triB_iff(data:List Nat)(q a b c:Nat):triB data q a b c=true↔(data.getD q 0=a∧data.getD (q+1) 0=b∧data.getD (q+2) 0=c):=by
 simp[triB,and_assoc]

def lastM(data:List Nat)(a b c:Nat):Nat→Option Nat
 | 0=>none
 | i+1=>if triB data i a b c=true then some i else lastM data a b c i

theorem lastM_some{data:List Nat}{a b c i q:Nat}(h:lastM data a b c i=some q):q<i∧triB data q a b c=true∧∀p,q<p→p<i→triB data p a b c=false:=by
 induction i with
 | zero=>cases h
 | succ i ih=>
  unfold lastM at h
  split at h
  ·rename_i h1
   simp only[Option.some.injEq]at h
   subst h
   exact⟨by omega,h1,fun p h2 h3=>by omega⟩
  ·rename_i h1
   obtain⟨g1,g2,g3⟩:=ih h
   refine⟨by omega,g2,fun p h2 h3=>?_⟩
   by_cases hp:p=i
   ·subst hp;simpa using h1
   ·exact g3 p h2 (by omega)

theorem lastM_none{data:List Nat}{a b c i:Nat}(h:lastM data a b c i=none):∀p,p<i→triB data p a b c=false:=by
 induction i with
 | zero=>intro p hp;omega
 | succ i ih=>
  unfold lastM at h
  split at h
  ·cases h
  ·rename_i h1
   intro p hp
   by_cases he:p=i
   ·subst he;simpa using h1
   ·exact ih h p (by omega)

def chA(data:List Nat)(i:Nat):Int:=
 match lastM data (data.getD i 0) (data.getD (i+1) 0) (data.getD (i+2) 0) i with
 | some q=>(q:Int)
 | none=>-1

def chM(data:List Nat):List Int:=(List.range (data.length-2)).map (chA data)

theorem chM_length(data:List Nat):(chM data).length=data.length-2:=by simp[chM]
theorem chM_get(data:List Nat)(i:Nat)(_h:i<data.length-2)(h':i<(chM data).length):(chM data)[i]=chA data i:=by simp[chM]

def sameB(data:List Nat)(p i:Nat):Bool:=triB data p (data.getD i 0) (data.getD (i+1) 0) (data.getD (i+2) 0)

theorem sameB_iff(data:List Nat)(p i:Nat):sameB data p i=true↔(data.getD p 0=data.getD i 0∧data.getD (p+1) 0=data.getD (i+1) 0∧data.getD (p+2) 0=data.getD (i+2) 0):=triB_iff _ _ _ _ _

theorem sameB_trans{data:List Nat}{p q i:Nat}(h:sameB data q i=true):sameB data p i=sameB data p q:=by
 have h1:=(sameB_iff data q i).1 h
 rw[Bool.eq_iff_iff,sameB_iff,sameB_iff,h1.1,h1.2.1,h1.2.2]

theorem chA_cases(data:List Nat)(i:Nat):(∃q:Nat,chA data i=q∧q<i∧sameB data q i=true∧∀p,q<p→p<i→sameB data p i=false)∨(chA data i=-1∧∀p,p<i→sameB data p i=false):=by
 unfold chA
 split
 ·rename_i q h;exact .inl ⟨q,rfl,lastM_some h⟩
 ·rename_i h;exact .inr ⟨rfl,lastM_none h⟩

theorem mlM_three{data:List Nat}{i d:Nat}(hd:d≤i)(h:sameB data (i-d) i=false):mlM data i d<3:=by
 refine Nat.lt_of_not_le (fun hc=>?_)
 have h0:=(mlM_agree data i d 0 (by omega)).2
 have h1:=(mlM_agree data i d 1 (by omega)).2
 have h2:=(mlM_agree data i d 2 (by omega)).2
 have:sameB data (i-d) i=true:=by
  rw[sameB_iff]
  refine⟨?_,?_,?_⟩
  ·rw[show i-d=i+0-d by omega];exact h0.symm
  ·rw[show i-d+1=i+1-d by omega];exact h1.symm
  ·rw[show i-d+2=i+2-d by omega];exact h2.symm
 rw[h]at this
 cases this

def Found(data:List Nat)(i:Nat)(fr:Int)(n d:Nat):Prop:=(n,d)=bestM data i ((i:Int)-1-fr).toNat

theorem Found.start{data:List Nat}{i:Nat}:Found data i (chA data i) 0 0:=by
 unfold Found
 rcases chA_cases data i with⟨q,h1,h2,h3,h4⟩ | ⟨h1,h2⟩
 ·rw[h1,show((i:Int)-1-(q:Int)).toNat=0+(i-1-q)by omega,bestM_none]
  ·rfl
  ·intro d hd1 hd2
   exact mlM_three (by omega) (h4 (i-d) (by omega) (by omega))
 ·rw[h1,show((i:Int)-1-(-1)).toNat=0+i by omega,bestM_none]
  ·rfl
  ·intro d hd1 hd2
   exact mlM_three (by omega) (h2 (i-d) (by omega))

theorem Found.next{data:List Nat}{i q n d:Nat}(hq:q<i)(hs:sameB data q i=true)(h:(n,d)=bestM data i (i-q)):Found data i (chA data q) n d:=by
 unfold Found
 rcases chA_cases data q with⟨p,h1,h2,h3,h4⟩ | ⟨h1,h2⟩
 ·rw[h1,show((i:Int)-1-(p:Int)).toNat=(i-q)+(q-1-p)by omega,bestM_none]
  ·exact h
  ·intro e he1 he2
   refine mlM_three (by omega) ?_
   rw[sameB_trans hs]
   exact h4 (i-e) (by omega) (by omega)
 ·rw[h1,show((i:Int)-1-(-1)).toNat=(i-q)+q by omega,bestM_none]
  ·exact h
  ·intro e he1 he2
   refine mlM_three (by omega) ?_
   rw[sameB_trans hs]
   exact h2 (i-e) (by omega)

theorem Found.done{data:List Nat}{i n d:Nat}(h:Found data i (-1) n d):(n,d)=matM data i:=by
 unfold Found at h
 rw[show((i:Int)-1-(-1)).toNat=i by omega]at h
 exact h

theorem Found.at{data:List Nat}{i q n d:Nat}(hq:q<i)(h:Found data i (q:Int) n d):(n,d)=bestM data i (i-q-1):=by
 unfold Found at h
 rw[show((i:Int)-1-(q:Int)).toNat=i-q-1 by omega]at h
 exact h

theorem Found.not{data:List Nat}{i q n d:Nat}(hq:q<i)(hs:sameB data q i=true)(h:Found data i (q:Int) n d)(hm:mlM data i (i-q)≤n):Found data i (chA data q) n d:=by
 refine Found.next hq hs ?_
 have h1:=h.at hq
 have e:i-q=(i-q-1)+1:=by omega
 rw[e,bestM_skip (.inr (by rw[←h1,←e];exact hm))]
 exact h1

theorem Found.more{data:List Nat}{i q n d:Nat}(hq:q<i)(hs:sameB data q i=true)(h:Found data i (q:Int) n d)(h3:3≤mlM data i (i-q))(hm:n<mlM data i (i-q)):Found data i (chA data q) (mlM data i (i-q)) (i-q)∧bestM data i (i-q)=(mlM data i (i-q),i-q):=by
 have h1:=h.at hq
 have e:i-q=(i-q-1)+1:=by omega
 have hb:bestM data i (i-q)=(mlM data i (i-q),i-q):=by
  have:=bestM_take (data:=data) (i:=i) (k:=i-q-1) (by rw[←e];exact h3) (by rw[←h1,←e];exact hm)
  rw[←e]at this
  exact this
 exact⟨Found.next hq hs hb.symm,hb⟩

theorem Found.full{data:List Nat}{i q n d m:Nat}(hq:q<i)(hs:sameB data q i=true)(h:Found data i (q:Int) n d)(hm:mlM data i (i-q)=m)(h3:3≤m)(hn:n<m)(hmax:∀e,mlM data i e≤m):(m,i-q)=matM data i:=by
 have h1:=(h.more hq hs (by omega) (by omega)).2
 unfold matM
 have:=bestM_full (data:=data) (i:=i) (k:=i-q) m hmax (by rw[h1];simp only;omega) q
 rw[show i-q+q=i by omega]at this
 rw[this,h1,hm]

theorem mlM_max(data:List Nat)(i d:Nat)(h:i≤data.length):mlM data i d≤min 258 (data.length-i):=by
 have h1:=mlM_le data i d
 rcases mlM_in data i d with h2 | h2<;>omega

theorem matM_short{data:List Nat}{i:Nat}(h:data.length<i+3):matM data i=(0,0):=by
 rcases matM_cases data i with h1 | ⟨n,d,_,h3,_,_,_,h4,_⟩
 ·exact h1
 ·omega

end Go.Proofs.YtggcbnhckcenmaaGreatDoor

namespace Go.Proofs.YtggcbnhckcenmaaGreatDoor

theorem take_more(data:List Nat)(i:Nat)(h:i<data.length):data.take (i+1)=data.take i++[data.getD i 0]:=by
 rw[List.take_succ_eq_append_getElem h];simp[List.getD,h]

theorem cpT_data{data:List Nat}{i d:Nat}(hd:1≤d)(hd2:d≤i)(n:Nat)(hn:i+n≤data.length)(h:∀j,j<n→data.getD (i+j) 0=data.getD (i+j-d) 0):cpT d n (data.take i)=data.take (i+n):=by
 induction n with
 | zero=>rfl
 | succ n ih=>
  have hl:(data.take (i+n)).length=i+n:=by rw[List.length_take];omega
  rw[cpT_more,ih (by omega) (fun j hj=>h j (by omega)),hl,←Nat.add_assoc,take_more data (i+n) (by omega),h n (by omega)]
  have:(data.take (i+n)).getD (i+n-d) 0=data.getD (i+n-d) 0:=by
   simp only[List.getD]
   rw[List.getElem?_take_of_lt (by omega)]
  rw[this]

theorem tok_cases{data:List Nat}{f i:Nat}(h:i<data.length):∃(t:TK) (n:Nat),tokM data (f+1) i=t::tokM data f (i+n)∧mayT t i=true∧tlen t=n∧1≤n∧i+n≤data.length∧sayT (data.take i) t=data.take (i+n)∧(t.len=0→t.lit=data.getD i 0∧n=1):=by
 rcases matM_cases data i with h0 | ⟨n,d,h0,h1,h2,h3,h4,h5,h6⟩
 ·refine⟨⟨data.getD i 0,0,0⟩,1,tokM_lit h (.inl (by rw[h0])),rfl,rfl,by omega,by omega,?_,fun _=>⟨rfl,rfl⟩⟩
  unfold sayT
  rw[if_pos rfl,take_more data i h]
 ·by_cases hm:(matM data i).1=0∨(matM data i).1<(matM data (i+1)).1
  ·refine⟨⟨data.getD i 0,0,0⟩,1,tokM_lit h hm,rfl,rfl,by omega,by omega,?_,fun _=>⟨rfl,rfl⟩⟩
   unfold sayT
   rw[if_pos rfl,take_more data i h]
  ·refine⟨⟨0,(n:Int),(d:Int)⟩,n,by rw[tokM_copy h hm,h0],?_,?_,by omega,h5,?_,fun e=>?_⟩
   ·unfold mayT
    rw[if_neg (by simp;omega)]
    simp
    omega
   ·unfold tlen;simp only;omega
   ·unfold sayT
    rw[if_neg (by simp;omega)]
    exact cpT_data h3 h4 n h5 h6
   ·simp at e;omega

theorem expT_data{data:List Nat}{f i:Nat}(hf:data.length-i≤f)(hi:i≤data.length):expT (tokM data f i) (data.take i)=data:=by
 induction f generalizing i with
 | zero=>rw[tokM_end (by omega),show i=data.length by omega,List.take_length];rfl
 | succ f ih=>
  by_cases h:i<data.length
  ·obtain⟨t,n,e,_,_,h1,h2,h3,_⟩:=tok_cases (f:=f) h
   rw[e]
   show expT (tokM data f (i+n)) (sayT (data.take i) t)=data
   rw[h3]
   exact ih (by omega) h2
  ·rw[tokM_end (by omega),show i=data.length by omega,List.take_length];rfl

theorem measT_data{data:List Nat}{f i most:Nat}(hf:data.length-i≤f)(hi:i≤data.length)(hm:data.length≤most):measT most (tokM data f i) i=.ok data.length:=by
 induction f generalizing i with
 | zero=>rw[tokM_end (by omega),show i=data.length by omega];rfl
 | succ f ih=>
  by_cases h:i<data.length
  ·obtain⟨t,n,e,hmay,ht,h1,h2,_,_⟩:=tok_cases (f:=f) h
   rw[e,measT,if_neg (by rw[hmay];decide),ht,if_neg (by omega)]
   exact ih (by omega) h2
  ·rw[tokM_end (by omega),show i=data.length by omega];rfl

end Go.Proofs.YtggcbnhckcenmaaGreatDoor
