import Derived.Test.YtkhagfgineifhaaGreatDoorMath
namespace Go.Proofs.YtkhagfgineifhaaGreatDoor
def aj(v:Nat):Nat->List Nat
 | 0=>[]
 | n+1=>aj v n++[v / 2 ^ n % 2]
theorem af(v n:Nat):(aj v n).length=n:=by
 induction n with
 | zero=>rfl
 | succ n ih=>simp[aj,ih]
theorem ei(v n:Nat):∀b∈aj v n,b<2:=by
 induction n with
 | zero=>simp[aj]
 | succ n ih=>
  intro b hb;rcases List.mem_append.1 hb with h | h
  ·exact ih b h
  ·simp at h;omega
theorem eh(v n:Nat):n2 (aj v n)=v % 2 ^ n:=by
 induction n with
 | zero=>simp[aj,n2,Nat.mod_one]
 | succ n ih=>
  rw[tm v n 1,aj,dw,ih,af];simp[n2]
theorem Ha(n:Nat):n2 (List.replicate n 0)=0:=by
 induction n with
 | zero=>rfl
 | succ n ih=>simp[List.replicate_succ,n2,ih]
theorem Mi(ls:List Nat)(v n:Nat)(h:v<2 ^ n):n2 (ls++aj v n)=n2 ls+v*2 ^ ls.length:=by rw[dw,eh,Nat.mod_eq_of_lt h,Nat.mul_comm]
theorem qI(ls:List Nat)(n:Nat):n2 (ls++List.replicate n 0)=n2 ls:=by rw[dw,Ha];simp
theorem qT(ls:List Nat)(h:∀b∈ls,b<2)(i t:Nat):n2 ((ls.drop i).take t)<2 ^ t:=by have h1:=vR ((ls.drop i).take t) (λb hb=>h b (List.mem_of_mem_drop (List.mem_of_mem_take hb)));exact Nat.lt_of_lt_of_le h1 (Nat.pow_le_pow_right (by omega) (List.length_take_le _ _))
def ae:List Nat->List Nat
 | []=>[]
 | b::r=>aj b 8++ae r
theorem ks(a b:List Nat):ae (a++b)=ae a++ae b:=by
 induction a with
 | nil=>rfl
 | cons x r ih=>simp[ae,ih]
theorem aB(l:List Nat):(ae l).length=8*l.length:=by
 induction l with
 | nil=>rfl
 | cons x r ih=>simp[ae,ih,af];omega
theorem ay(l:List Nat):∀b∈ae l,b<2:=by
 induction l with
 | nil=>simp[ae]
 | cons x r ih=>
  intro b hb;rcases List.mem_append.1 hb with h | h
  ·exact ei x 8 b h
  ·exact ih b h
theorem qf(l:List Nat)(h:∀b∈l,b<256):n2 (ae l)=aO l:=by
 induction l with
 | nil=>rfl
 | cons x r ih=>
  have h1:=h x (by simp);rw[ae,dw,eh,af,ih (λb hb=>h b (by simp[hb])),aO,show(2:Nat) ^ 8=256 from rfl,Nat.mod_eq_of_lt h1]
theorem BE(ls:List Nat)(h:∀b∈ls,b<2)(a n:Nat)(hl:a+n<=ls.length):n2 ((ls.drop a).take n)=n2 ls / 2 ^ a % 2 ^ n:=by
 have e1:n2 ls=n2 (ls.take a)+2 ^ a*n2 (ls.drop a):=by have:=dw (ls.take a) (ls.drop a);rw[List.take_append_drop,List.length_take,Nat.min_eq_left (by omega)]at this;exact this
 have h1:n2 (ls.take a)<2 ^ a:=by have:=vR (ls.take a) (λb hb=>h b (List.mem_of_mem_take hb));rw[List.length_take,Nat.min_eq_left (by omega)]at this;exact this
 have e2:n2 (ls.drop a)=n2 ((ls.drop a).take n)+2 ^ n*n2 ((ls.drop a).drop n):=by have:=dw ((ls.drop a).take n) ((ls.drop a).drop n);rw[List.take_append_drop,List.length_take,List.length_drop,Nat.min_eq_left (by omega)]at this;exact this
 have h2:=qT ls h a n;rw[e1,Nat.add_mul_div_left _ _ (Nat.two_pow_pos _),Nat.div_eq_of_lt h1,Nat.zero_add,e2,Nat.add_mul_mod_self_left,Nat.mod_eq_of_lt (show n2 (List.take n (List.drop a ls))<2 ^ n from h2)]
end Go.Proofs.YtkhagfgineifhaaGreatDoor
