
namespace Go.Proofs.YtljlmfnbeofmmaaGreatDoor

def aR : List Nat → Nat
  | [] => 0
  | b :: r => b + 256 * aR r

def n2 : List Nat → Nat
  | [] => 0
  | b :: r => b + 2 * n2 r

theorem fN (a b : List Nat) : aR (a ++ b) = aR a + 256 ^ a.length * aR b := by
  induction a with
  | nil => simp [aR]
  | cons x r ih =>
    simp only [List.cons_append, aR, ih, List.length_cons, Nat.pow_succ, Nat.mul_add, Nat.add_assoc]
    rw [Nat.mul_comm (256 ^ r.length) 256, Nat.mul_assoc]

theorem dD (a b : List Nat) : n2 (a ++ b) = n2 a + 2 ^ a.length * n2 b := by
  induction a with
  | nil => simp [n2]
  | cons x r ih =>
    simp only [List.cons_append, n2, ih, List.length_cons, Nat.pow_succ, Nat.mul_add, Nat.add_assoc]
    rw [Nat.mul_comm (2 ^ r.length) 2, Nat.mul_assoc]

theorem nM (l : List Nat) (h : ∀ b ∈ l, b < 256) : aR l < 256 ^ l.length := by
  induction l with
  | nil => simp [aR]
  | cons x r ih =>
    have h1 := h x (by simp)
    have h2 := ih (fun b hb => h b (by simp [hb]))
    simp only [aR, List.length_cons, Nat.pow_succ]
    omega

theorem vG (l : List Nat) (h : ∀ b ∈ l, b < 2) : n2 l < 2 ^ l.length := by
  induction l with
  | nil => simp [n2]
  | cons x r ih =>
    have h1 := h x (by simp)
    have h2 := ih (fun b hb => h b (by simp [hb]))
    simp only [n2, List.length_cons, Nat.pow_succ]
    omega

theorem Gu (a b : List Nat) (hl : a.length = b.length) (ha : ∀ x ∈ a, x < 256) (hb : ∀ x ∈ b, x < 256) (h : aR a = aR b) : a = b := by
  induction a generalizing b with
  | nil => cases b with
    | nil => rfl
    | cons => simp at hl
  | cons x r ih => cases b with
    | nil => simp at hl
    | cons y s =>
      have h1 := ha x (by simp)
      have h2 := hb y (by simp)
      simp only [aR] at h
      simp only [List.length_cons, Nat.add_right_cancel_iff] at hl
      have e := ih s hl (fun b jP => ha b (by simp [jP])) (fun b jP => hb b (by simp [jP])) (by omega)
      rw [e]
      congr 1
      omega

theorem KA (k : Nat) : 256 ^ k = 2 ^ (8 * k) := by rw [Nat.pow_mul]

theorem F0 (l : List Nat) (h : ∀ b ∈ l, b < 256) (i : Nat) (hi : i < l.length) : aR l / 2 ^ (8 * i) % 256 = l[i] := by
  rw [← KA]
  induction l generalizing i with
  | nil => simp at hi
  | cons x r ih =>
    have h1 := h x (by simp)
    cases i with
    | zero => simp [aR]; omega
    | succ k =>
      have := ih (fun b hb => h b (by simp [hb])) k (by simpa using hi)
      simp only [aR, Nat.pow_succ, List.getElem_cons_succ]
      rw [Nat.mul_comm (256 ^ k) 256, ← Nat.div_div_eq_div_mul, show (x + 256 * aR r) / 256 = aR r by omega]
      exact this

theorem J1 (bs : List Nat) (b c free : Nat) (hc : 8 * (bs.length + 1) = c + free) (hf : free ≤ 8) (h : aR (bs ++ [b]) < 2 ^ c) : b < 2 ^ (8 - free) := by
  rw [fN] at h
  simp only [aR, Nat.mul_zero, Nat.add_zero] at h
  have e : c = 8 * bs.length + (8 - free) := by omega
  rw [e, Nat.pow_add, ← KA] at h
  have : 256 ^ bs.length * b < 256 ^ bs.length * 2 ^ (8 - free) := by omega
  exact Nat.lt_of_mul_lt_mul_left this

theorem Ga (bs : List Nat) (b c free x : Nat) (hc : 8 * (bs.length + 1) = c + free) (hf : free ≤ 8) : aR (bs ++ [b + 2 ^ (8 - free) * x]) = aR (bs ++ [b]) + 2 ^ c * x := by
  have e : c = 8 * bs.length + (8 - free) := by omega
  simp only [fN, aR, Nat.mul_zero, Nat.add_zero]
  rw [e, Nat.pow_add, ← KA, Nat.mul_add, Nat.mul_assoc, Nat.add_assoc]

theorem Fq (b k x : Nat) (h : b < 2 ^ k) : b ||| (2 ^ k * x) = b + 2 ^ k * x := by
  rw [Nat.or_comm, ← Nat.two_pow_add_eq_or_of_lt h, Nat.add_comm]

theorem Fd (v free : Nat) (hf : free ≤ 8) : v * 2 ^ (8 - free) % 256 = 2 ^ (8 - free) * (v % 2 ^ free) := by
  have : (256 : Nat) = 2 ^ (8 - free) * 2 ^ free := by rw [← Nat.pow_add]; simp [hf]
  rw [this, Nat.mul_comm, Nat.mul_mod_mul_left]

theorem DJ (v k : Nat) : v % 2 ^ k + 2 ^ k * (v / 2 ^ k) = v := by rw [Nat.mod_add_div]

theorem Hc (X v n c free : Nat) (hv : v < 2 ^ n) :
    X + 2 ^ c * (v % 2 ^ free) + v / 2 ^ (min free n) * 2 ^ (c + min free n) = X + v * 2 ^ c := by
  by_cases h : free ≤ n
  · rw [Nat.min_eq_left h, Nat.pow_add]
    have e := DJ v free
    calc X + 2 ^ c * (v % 2 ^ free) + v / 2 ^ free * (2 ^ c * 2 ^ free) = X + 2 ^ c * (v % 2 ^ free + 2 ^ free * (v / 2 ^ free)) := by
          rw [Nat.mul_add, Nat.add_assoc]; congr 2; rw [Nat.mul_comm, Nat.mul_assoc]
      _ = _ := by rw [e, Nat.mul_comm]
  · have h' : n ≤ free := by omega
    have h2 : v < 2 ^ free := Nat.lt_of_lt_of_le hv (Nat.pow_le_pow_right (by omega) h')
    rw [Nat.min_eq_right h', Nat.div_eq_of_lt hv, Nat.mod_eq_of_lt h2, Nat.zero_mul, Nat.add_zero, Nat.mul_comm]

theorem D3 (Z u k : Nat) (h : u + k ≤ 8) : Z % 256 / 2 ^ u % 2 ^ k = Z / 2 ^ u % 2 ^ k := by
  have e : (256 : Nat) = 2 ^ u * 2 ^ (8 - u) := by rw [← Nat.pow_add, show u + (8 - u) = 8 by omega]
  rw [e, Nat.mod_mul_right_div_self, Nat.mod_mod_of_dvd _ (Nat.pow_dvd_pow 2 (by omega))]

theorem ta (Y a k : Nat) : Y % 2 ^ (a + k) = Y % 2 ^ a + 2 ^ a * (Y / 2 ^ a % 2 ^ k) := by
  rw [Nat.pow_add, Nat.mod_mul]

theorem Ge (bs : List Nat) (hb : ∀ b ∈ bs, b < 256) (g got k : Nat) (hk : (g + got) % 8 + k ≤ 8) (hlt : (g + got) / 8 < bs.length) :
    aR bs / 2 ^ g % 2 ^ got + 2 ^ got * (bs[(g + got) / 8] / 2 ^ ((g + got) % 8) % 2 ^ k) = aR bs / 2 ^ g % 2 ^ (got + k) := by
  have e := F0 bs hb _ hlt
  rw [← e, D3 _ _ _ hk, Nat.div_div_eq_div_mul, ← Nat.pow_add, show 8 * ((g + got) / 8) + (g + got) % 8 = g + got by omega, ta, Nat.div_div_eq_div_mul, ← Nat.pow_add]

theorem xB (x k : Nat) : x &&& (2 ^ k - 1) = x % 2 ^ k := Nat.and_two_pow_sub_one_eq_mod x k
def aT(v:Nat):Nat->List Nat
 | 0=>[]
 | n+1=>aT v n++[v / 256 ^ n % 256]
theorem aA(v n:Nat):(aT v n).length=n:=by
 induction n with
 | zero=>rfl
 | succ n ih=>simp[aT,ih]
theorem Di(v n:Nat):aR (aT v n)=v % 256 ^ n:=by
 induction n with
 | zero=>simp[aT,aR,Nat.mod_one]
 | succ n ih=>
  rw[aT,fN,ih,aA,Nat.pow_succ,Nat.mod_mul];simp[aR]
def eM(cs:List Nat)(a n:Nat):Nat:=aR ((cs.drop a).take n)
theorem JH(cs:List Nat)(hb:∀b∈cs,b<256)(a n:Nat):eM cs a n<256 ^ n:=by have h:=nM ((cs.drop a).take n) (λb h=>hb b (List.mem_of_mem_drop (List.mem_of_mem_take h)));exact Nat.lt_of_lt_of_le h (Nat.pow_le_pow_right (by omega) (List.length_take_le _ _))
def rP(r:Nat):Nat:=(r / 2) ^^^ (r % 2*3988292384)
def vC:Nat->Nat->Nat
 | 0,r=>r
 | n+1,r=>rP (vC n r)
def BI(r:Nat):Nat:=vC 8 r
def LX(r:Nat)(bs:List Nat):Nat:=bs.foldl (λr b=>BI (r ^^^ b)) r
def m5(x:Nat):Nat:=4294967295-x
def more(sum:Nat)(bs:List Nat):Nat:=m5 (LX (m5 sum) bs)
theorem xH(x:Nat):m5 x<4294967296:=by unfold m5;omega
theorem rq{a b:Nat}(ha:a<4294967296)(hb:b<4294967296):a ^^^ b<4294967296:=by
 have e:(4294967296:Nat)=2 ^ 32:=by decide
 rw[e]at *
 exact Nat.xor_lt_two_pow ha hb
theorem KC{r:Nat}(h:r<4294967296):rP r<4294967296:=by
 unfold rP;refine rq (by omega) ?_;have h2:r % 2<=1:=by omega
 have h3:r % 2*3988292384<=1*3988292384:=Nat.mul_le_mul_right _ h2;omega
theorem wW{r:Nat}(h:r<4294967296)(n:Nat):vC n r<4294967296:=by
 induction n with
 | zero=>exact h
 | succ n ih=>exact KC ih
theorem Mg{r:Nat}(h:r<4294967296)(bs:List Nat)(hb:∀b∈bs,b<256):LX r bs<4294967296:=by
 induction bs generalizing r with
 | nil=>exact h
 | cons b s ih=>
  have h1:=hb b (by simp);exact ih (wW (rq h (by omega)) 8) (λx hx=>hb x (by simp[hx]))
theorem FQ(r:Nat)(bs:List Nat)(b:Nat):LX r (bs++[b])=BI (LX r bs ^^^ b):=by simp[LX]
theorem Ke(s:Nat)(a:List Nat):more s a<4294967296:=xH _
structure Mk where
 way:Nat
 sum:Nat
 packed:Nat
 size:Nat
 name:List Nat
deriving DecidableEq
def fj(n:Nat)(r:List Nat):Option (List Nat×List Nat):=if n<=r.length then some (r.take n,r.drop n)else none
def ec(n:Nat)(r:List Nat):Option (Nat×List Nat):=match fj n r with
 | none=>none
 | some p=>some (aR p.1,p.2)
def eY(n v:Nat)(r:List Nat):Option (List Nat):=match ec n r with
 | none=>none
 | some p=>if p.1=v then some p.2 else none
def dB{α β:Type}(o:Option α)(f:α->Option β):Option β:=match o with
 | none=>none
 | some x=>f x
theorem aB{α β:Type}{o:Option α}{f:α->Option β}{x:α}(h:o=some x):dB o f=f x:=by rw[h];rfl
theorem sR{α β:Type}{o:Option α}{f:α->Option β}(h:o=none):dB o f=none:=by rw[h];rfl
def fM(r:List Nat):Option ((Mk×Nat)×List Nat):=
 dB (fj 2 r) λa=>dB (eY 2 0 a.2) λr=>dB (ec 2 r) λway=>dB (fj 4 way.2) λa=>
 dB (ec 4 a.2) λsum=>dB (ec 4 sum.2) λpacked=>dB (ec 4 packed.2) λsize=>dB (ec 2 size.2) λlong=>
 dB (eY 2 0 long.2) λr=>some ((⟨way.1,sum.1,packed.1,size.1,[]⟩,long.1),r)
def Mk.named(m:Mk)(s:List Nat):Mk:=⟨m.way,m.sum,m.packed,m.size,s⟩
def iB(r:List Nat):Option ((Mk×Nat)×List Nat):=
 dB (eY 4 33639248 r) λr=>dB (fj 2 r) λa=>dB (fM a.2) λl=>dB (eY 2 0 l.2) λr=>dB (eY 2 0 r) λr=>
 dB (fj 6 r) λa=>dB (ec 4 a.2) λat'=>dB (fj l.1.2 at'.2) λs=>some ((l.1.1.named s.1,at'.1),s.2)
def pe(m:Mk)(r:List Nat):Option (List Nat):=
 dB (eY 4 67324752 r) λr=>dB (fM r) λl=>dB (fj l.1.2 l.2) λs=>if l.1.1.named s.1=m then some s.2 else none
def kD(m:Mk)(r:List Nat):Option (List Nat×List Nat):=dB (pe m r) λr=>fj m.packed r
def iC(m:Mk):List Nat:=aT 20 2++(aT 0 2++(aT m.way 2++(aT 0 2++(aT 33 2++(aT m.sum 4++(aT m.packed 4++(aT m.size 4++(aT m.name.length 2++aT 0 2))))))))
def j7(m:Mk):List Nat:=aT 67324752 4++(iC m++m.name)
def lE(m:Mk)(at':Nat):List Nat:=aT 33639248 4++(aT 20 2++(iC m++(aT 0 2++(aT 0 2++(aT 0 2++(aT 0 4++(aT at' 4++m.name)))))))
def fd(n long first:Nat):List Nat:=aT 101010256 4++(aT 0 2++(aT 0 2++(aT n 2++(aT n 2++(aT long 4++(aT first 4++aT 0 2))))))
structure gP(m:Mk):Prop where
 way:m.way<65536
 sum:m.sum<4294967296
 packed:m.packed<4294967296
 size:m.size<4294967296
 name:m.name.length<65536
theorem iE(a r:List Nat){n:Nat}(h:a.length=n):fj n (a++r)=some (a,r):=by subst h;unfold fj;rw[if_pos (by simp),List.take_left,List.drop_left]
theorem fF(v n:Nat)(r:List Nat)(h:v<256 ^ n):ec n (aT v n++r)=some (v,r):=by unfold ec;rw[iE _ _ (aA v n)];simp only;rw[Di,Nat.mod_eq_of_lt h]
theorem eJ(v n:Nat)(r:List Nat)(h:v<256 ^ n):eY n v (aT v n++r)=some r:=by unfold eY;rw[fF v n r h];simp
theorem wD(m:Mk)(h:gP m)(r:List Nat):fM (iC m++r)=some ((m.named [],m.name.length),r):=by unfold fM iC;simp only[List.append_assoc];rw[aB (iE _ _ (aA 20 2))];simp only;rw[aB (eJ 0 2 _ (by decide)),aB (fF m.way 2 _ h.way)];simp only;rw[show aT 0 2++(aT 33 2++(aT m.sum 4++(aT m.packed 4++(aT m.size 4++(aT m.name.length 2++(aT 0 2++r))))))=(aT 0 2++aT 33 2)++(aT m.sum 4++(aT m.packed 4++(aT m.size 4++(aT m.name.length 2++(aT 0 2++r)))))by simp];rw[aB (iE _ _ (by simp[aA]))];simp only;rw[aB (fF m.sum 4 _ h.sum)];simp only;rw[aB (fF m.packed 4 _ h.packed)];simp only;rw[aB (fF m.size 4 _ h.size)];simp only;rw[aB (fF m.name.length 2 _ h.name)];simp only;rw[aB (eJ 0 2 _ (by decide))];rfl
theorem Mk.named_self(m:Mk):(m.named []).named m.name=m:=rfl
theorem GA(m:Mk)(h:gP m)(at':Nat)(ha:at'<4294967296)(r:List Nat):iB (lE m at'++r)=some ((m,at'),r):=by unfold iB lE;simp only[List.append_assoc];rw[aB (eJ 33639248 4 _ (by decide)),aB (iE _ _ (aA 20 2))];simp only;rw[aB (wD m h _)];simp only;rw[aB (eJ 0 2 _ (by decide)),aB (eJ 0 2 _ (by decide))];rw[show aT 0 2++(aT 0 4++(aT at' 4++(m.name++r)))=(aT 0 2++aT 0 4)++(aT at' 4++(m.name++r))by simp];rw[aB (iE _ _ (by simp[aA]))];simp only;rw[aB (fF at' 4 _ ha)];simp only;rw[aB (iE _ _ rfl)];rfl
theorem FP(m:Mk)(h:gP m)(r:List Nat):pe m (j7 m++r)=some r:=by unfold pe j7;simp only[List.append_assoc];rw[aB (eJ 67324752 4 _ (by decide)),aB (wD m h _)];simp only;rw[aB (iE _ _ rfl)];simp only;rw[Mk.named_self,if_pos rfl]
theorem GJ(m:Mk)(h:gP m)(b r:List Nat)(hb:b.length=m.packed):kD m (j7 m++(b++r))=some (b,r):=by unfold kD;rw[aB (FP m h _),iE _ _ hb]
theorem o0(m:Mk):(iC m).length=26:=by simp[iC,aA]
theorem vj(m:Mk):(j7 m).length=30+m.name.length:=by simp[j7,o0,aA];omega
theorem xy(m:Mk)(a:Nat):(lE m a).length=46+m.name.length:=by simp[lE,o0,aA];omega
theorem x9(n l f:Nat):(fd n l f).length=22:=by simp[fd,aA]
theorem Kb{β:Type}(n o:Nat)(r:List Nat)(hn:0<n)(f:List Nat×List Nat->Option β):dB (fj n (r.drop o)) f=if o+n<=r.length then f ((r.drop o).take n,r.drop (o+n))else none:=by
 unfold fj;rw[List.length_drop,List.drop_drop];by_cases h:o+n<=r.length
 ·rw[if_pos (by omega),if_pos h];rfl
 ·rw[if_neg (by omega),if_neg h];rfl
theorem J8{β:Type}(n o:Nat)(r:List Nat)(hn:0<n)(f:Nat×List Nat->Option β):dB (ec n (r.drop o)) f=if o+n<=r.length then f (eM r o n,r.drop (o+n))else none:=by
 unfold ec fj;rw[List.length_drop,List.drop_drop];by_cases h:o+n<=r.length
 ·rw[if_pos (by omega),if_pos h];rfl
 ·rw[if_neg (by omega),if_neg h];rfl
theorem BT{β:Type}(n v o:Nat)(r:List Nat)(hn:0<n)(f:List Nat->Option β):dB (eY n v (r.drop o)) f=if o+n<=r.length then(if eM r o n=v then f (r.drop (o+n))else none)else none:=by
 unfold eY ec fj;rw[List.length_drop,List.drop_drop];by_cases h:o+n<=r.length
 ·rw[if_pos (by omega),if_pos h];simp only;by_cases h2:eM r o n=v
  ·rw[if_pos h2,if_pos (by exact h2)];rfl
  ·rw[if_neg h2,if_neg (by exact h2)];rfl
 ·rw[if_neg (by omega),if_neg h];rfl
def JA(r:List Nat)(o:Nat):Mk:=⟨eM r (o+4) 2,eM r (o+10) 4,eM r (o+14) 4,eM r (o+18) 4,[]⟩
theorem Jz{β:Type}(r:List Nat)(o:Nat)(f:(Mk×Nat)×List Nat->Option β):dB (fM (r.drop o)) f=if o+26<=r.length/\eM r (o+2) 2=0/\eM r (o+24) 2=0 then f ((JA r o,eM r (o+22) 2),r.drop (o+26))else none:=by
 unfold fM;simp only[Kb,J8,BT,Nat.add_assoc,Nat.reduceAdd,show(0:Nat)<2 by decide,show(0:Nat)<4 by decide];by_cases UT:o+26<=r.length
 ·rw[if_pos (by omega),if_pos (by omega)];by_cases h1:eM r (o+2) 2=0
  ·rw[if_pos h1,if_pos (by omega),if_pos (by omega),if_pos (by omega),if_pos (by omega),if_pos (by omega),if_pos (by omega),if_pos (by omega)];by_cases h2:eM r (o+24) 2=0
   ·rw[if_pos h2,if_pos ⟨UT,h1,h2⟩];rfl
   ·rw[if_neg h2,if_neg (λh=>h2 h.2.2)];rfl
  ·rw[if_neg h1,if_neg (λh=>h1 h.2.1)];rfl
 ·conv=>rhs;rw[if_neg (λh=>UT h.1)]
  repeat' split
  all_goals first | rfl | omega
theorem J3(m:Mk)(r:List Nat):pe m r=if 30<=r.length/\eM r 0 4=67324752/\eM r 6 2=0/\eM r 28 2=0/\30+eM r 26 2<=r.length/\(JA r 4).named ((r.drop 30).take (eM r 26 2))=m then some (r.drop (30+eM r 26 2))else none:=by
 have h0:r=r.drop 0:=rfl;unfold pe;conv=>lhs;rw[h0]
 simp only[BT,Jz,Nat.zero_add,Nat.reduceAdd,show(0:Nat)<4 by decide];by_cases Tv:30<=r.length
 ·by_cases h1:eM r 0 4=67324752
  ·by_cases h2:eM r 6 2=0
   ·by_cases h3:eM r 28 2=0
    ·rw[if_pos (by omega),if_pos h1,if_pos ⟨by omega,h2,h3⟩];unfold fj;rw[List.length_drop,List.drop_drop];by_cases h6:30+eM r 26 2<=r.length
     ·rw[if_pos (by omega)];show(if (JA r 4).named ((r.drop 30).take (eM r 26 2))=m then some (r.drop (30+eM r 26 2))else none)=_;by_cases h7:(JA r 4).named ((r.drop 30).take (eM r 26 2))=m
      ·rw[if_pos h7,if_pos ⟨Tv,h1,h2,h3,h6,h7⟩]
      ·rw[if_neg h7,if_neg (λh=>h7 h.2.2.2.2.2)]
     ·rw[if_neg (by omega),if_neg (λh=>h6 h.2.2.2.2.1)];rfl
    ·conv=>rhs;rw[if_neg (λh=>h3 h.2.2.2.1)]
     repeat' split
     all_goals first | rfl | omega | (exfalso;exact h3 (And.right (And.right (by assumption))))
   ·conv=>rhs;rw[if_neg (λh=>h2 h.2.2.1)]
    repeat' split
    all_goals first | rfl | omega | (exfalso;exact h2 (And.left (And.right (by assumption))))
  ·conv=>rhs;rw[if_neg (λh=>h1 h.2.1)]
   repeat' split
   all_goals first | rfl | omega | (exfalso;exact h1 (by assumption))
 ·conv=>rhs;rw[if_neg (λh=>Tv h.1)]
  repeat' split
  all_goals first | rfl | omega
def aj(v:Nat):Nat->List Nat
 | 0=>[]
 | n+1=>aj v n++[v / 2 ^ n % 2]
theorem af(v n:Nat):(aj v n).length=n:=by
 induction n with
 | zero=>rfl
 | succ n ih=>simp[aj,ih]
theorem eo(v n:Nat):∀b∈aj v n,b<2:=by
 induction n with
 | zero=>simp[aj]
 | succ n ih=>
  intro b hb;rcases List.mem_append.1 hb with h | h
  ·exact ih b h
  ·simp at h;omega
theorem et(v n:Nat):n2 (aj v n)=v % 2 ^ n:=by
 induction n with
 | zero=>simp[aj,n2,Nat.mod_one]
 | succ n ih=>
  rw[ta v n 1,aj,dD,ih,af];simp[n2]
theorem Ft(n:Nat):n2 (List.replicate n 0)=0:=by
 induction n with
 | zero=>rfl
 | succ n ih=>simp[List.replicate_succ,n2,ih]
theorem LZ(ls:List Nat)(v n:Nat)(h:v<2 ^ n):n2 (ls++aj v n)=n2 ls+v*2 ^ ls.length:=by rw[dD,et,Nat.mod_eq_of_lt h,Nat.mul_comm]
theorem qX(ls:List Nat)(n:Nat):n2 (ls++List.replicate n 0)=n2 ls:=by rw[dD,Ft];simp
theorem qb(ls:List Nat)(h:∀b∈ls,b<2)(i t:Nat):n2 ((ls.drop i).take t)<2 ^ t:=by have h1:=vG ((ls.drop i).take t) (λb hb=>h b (List.mem_of_mem_drop (List.mem_of_mem_take hb)));exact Nat.lt_of_lt_of_le h1 (Nat.pow_le_pow_right (by omega) (List.length_take_le _ _))
def ae:List Nat->List Nat
 | []=>[]
 | b::r=>aj b 8++ae r
theorem kv(a b:List Nat):ae (a++b)=ae a++ae b:=by
 induction a with
 | nil=>rfl
 | cons x r ih=>simp[ae,ih]
theorem aC(l:List Nat):(ae l).length=8*l.length:=by
 induction l with
 | nil=>rfl
 | cons x r ih=>simp[ae,ih,af];omega
theorem ay(l:List Nat):∀b∈ae l,b<2:=by
 induction l with
 | nil=>simp[ae]
 | cons x r ih=>
  intro b hb;rcases List.mem_append.1 hb with h | h
  ·exact eo x 8 b h
  ·exact ih b h
theorem qf(l:List Nat)(h:∀b∈l,b<256):n2 (ae l)=aR l:=by
 induction l with
 | nil=>rfl
 | cons x r ih=>
  have h1:=h x (by simp);rw[ae,dD,et,af,ih (λb hb=>h b (by simp[hb])),aR,show(2:Nat) ^ 8=256 from rfl,Nat.mod_eq_of_lt h1]
theorem B5(ls:List Nat)(h:∀b∈ls,b<2)(a n:Nat)(hl:a+n<=ls.length):n2 ((ls.drop a).take n)=n2 ls / 2 ^ a % 2 ^ n:=by
 have e1:n2 ls=n2 (ls.take a)+2 ^ a*n2 (ls.drop a):=by have:=dD (ls.take a) (ls.drop a);rw[List.take_append_drop,List.length_take,Nat.min_eq_left (by omega)]at this;exact this
 have h1:n2 (ls.take a)<2 ^ a:=by have:=vG (ls.take a) (λb hb=>h b (List.mem_of_mem_take hb));rw[List.length_take,Nat.min_eq_left (by omega)]at this;exact this
 have e2:n2 (ls.drop a)=n2 ((ls.drop a).take n)+2 ^ n*n2 ((ls.drop a).drop n):=by have:=dD ((ls.drop a).take n) ((ls.drop a).drop n);rw[List.take_append_drop,List.length_take,List.length_drop,Nat.min_eq_left (by omega)]at this;exact this
 have h2:=qb ls h a n;rw[e1,Nat.add_mul_div_left _ _ (Nat.two_pow_pos _),Nat.div_eq_of_lt h1,Nat.zero_add,e2,Nat.add_mul_mod_self_left,Nat.mod_eq_of_lt (show n2 (List.take n (List.drop a ls))<2 ^ n from h2)]
structure TK where
 lit:Nat
 len:Int
 dist:Int
deriving DecidableEq
def ph(t:TK)(said:Nat):Bool:=
 if t.len=0 then decide (t.dist=0)else decide (t.lit=0/\3<=t.len/\t.len<=258/\1<=t.dist/\t.dist<=(said:Int))
def pv(t:TK):Nat:=(max t.len 1).toNat
def cj(most:Nat):List TK->Nat->Except Nat Nat
 | [],said=>.ok said
 | t::r,said=>if ph t said=false then .error 60 else if most<said+pv t then .error 2 else cj most r (said+pv t)
def CT(far:Nat):Nat->List Nat->List Nat
 | 0,out=>out
 | n+1,out=>CT far n (out++[out.getD (out.length-far) 0])
def nH(out:List Nat)(t:TK):List Nat:=if t.len=0 then out++[t.lit]else CT t.dist.toNat t.len.toNat out
def wH(ts:List TK)(out:List Nat):List Nat:=ts.foldl nH out
theorem zt(far n:Nat)(out:List Nat):(CT far n out).length=out.length+n:=by
 induction n generalizing out with
 | zero=>rfl
 | succ n ih=>rw[CT,ih,List.length_append];simp;omega
theorem Fe(far n:Nat)(out:List Nat):CT far (n+1) out=CT far n out++[(CT far n out).getD ((CT far n out).length-far) 0]:=by
 induction n generalizing out with
 | zero=>rfl
 | succ n ih=>rw[CT,ih,CT]
theorem fe{t:TK}{said:Nat}(h:ph t said=true):(t.len=0/\t.dist=0/\pv t=1)\/(∃n d:Nat,t.len=n/\t.dist=d/\t.lit=0/\3<=n/\n<=258/\1<=d/\d<=said/\pv t=n):=by
 unfold ph at h;split at h
 ·rename_i h0;refine .inl ⟨h0,by simpa using h,?_⟩;unfold pv;rw[h0];rfl
 ·have h:=of_decide_eq_true h;refine .inr ⟨t.len.toNat,t.dist.toNat,by omega,by omega,h.1,by omega,by omega,by omega,by omega,?_⟩;unfold pv;omega
theorem G8(t:TK):1<=pv t:=by unfold pv;omega
theorem xq{t:TK}{said:Nat}(h:ph t said=true)(out:List Nat):(nH out t).length=out.length+pv t:=by
 unfold nH;rcases fe h with⟨h0,_,h1⟩ | ⟨n,d,h0,_,_,h3,_,_,_,h1⟩
 ·rw[if_pos h0,h1];simp
 ·rw[if_neg (by omega),zt,h1,h0];simp
theorem FT{most:Nat}{ts:List TK}{said n:Nat}(h:cj most ts said=.ok n)(hs:said<=most):said<=n/\n<=most:=by
 induction ts generalizing said with
 | nil=>simp only[cj,Except.ok.injEq]at h;omega
 | cons t r ih=>
  unfold cj at h;split at h
  ·cases h
  ·split at h
   ·cases h
   ·have:=ih h (by omega);omega
def pt(n:Nat):Nat:=if n=0 then 0 else Nat.log2 n+1
theorem gt(n k:Nat):pt n<=k↔n<2 ^ k:=by
 unfold pt;split
 ·rename_i h;subst h;simp;exact Nat.two_pow_pos k
 ·rename_i h;rw[<-Nat.log2_lt h];omega
def j6(data:List Nat)(i d:Nat):Nat->Nat->Nat
 | 0,n=>n
 | f+1,n=>if i+n<data.length/\data.getD (i+n) 0=data.getD (i+n-d) 0 then j6 data i d f (n+1)else n
def jT(data:List Nat)(i d:Nat):Nat:=j6 data i d 258 0
theorem Kx(data:List Nat)(i d f n:Nat):n<=j6 data i d f n/\j6 data i d f n<=n+f:=by
 induction f generalizing n with
 | zero=>exact⟨Nat.le_refl _,Nat.le_refl _⟩
 | succ f ih=>
  unfold j6;split
  ·have:=ih (n+1);omega
  ·omega
theorem Av(data:List Nat)(i d f n:Nat):∀j,n<=j->j<j6 data i d f n->i+j<data.length/\data.getD (i+j) 0=data.getD (i+j-d) 0:=by
 induction f generalizing n with
 | zero=>intro j h1 h2;unfold j6 at h2;omega
 | succ f ih=>
  intro j h1 h2;unfold j6 at h2;split at h2
  ·rename_i hc;by_cases he:j=n
   ·subst he;exact hc
   ·exact ih (n+1) j (by omega) h2
  ·omega
theorem gF(data:List Nat)(i d j:Nat)(h:j<jT data i d):i+j<data.length/\data.getD (i+j) 0=data.getD (i+j-d) 0:=
 Av data i d 258 0 j (Nat.zero_le _) h
theorem Hd(data:List Nat)(i d:Nat):jT data i d<=258:=by have:=Kx data i d 258 0;unfold jT;omega
theorem Gj(data:List Nat)(i d:Nat):jT data i d=0\/i+jT data i d<=data.length:=by
 rcases Nat.eq_zero_or_pos (jT data i d)with h | h
 ·exact .inl h
 ·have:=(gF data i d (jT data i d-1) (by omega)).1;exact .inr (by omega)
theorem Mn{data:List Nat}{i d n:Nat}(h:data.getD (i+n) 0≠data.getD (i+n-d) 0):jT data i d<=n:=by refine Nat.le_of_not_lt (λhc=>h (gF data i d n hc).2)
theorem tA{data:List Nat}{i d f n:Nat}(h1:i+n<data.length)(h2:data.getD (i+n) 0=data.getD (i+n-d) 0):j6 data i d (f+1) n=j6 data i d f (n+1):=by rw[j6,if_pos ⟨h1,h2⟩]
theorem tB{data:List Nat}{i d f n:Nat}(h:¬(i+n<data.length/\data.getD (i+n) 0=data.getD (i+n-d) 0)):j6 data i d f n=n:=by
 cases f with
 | zero=>rfl
 | succ f=>rw[j6,if_neg h]
theorem FS{data:List Nat}{i d:Nat}(n:Nat)(hn:n<=258)(h:∀j,j<n->i+j<data.length/\data.getD (i+j) 0=data.getD (i+j-d) 0):jT data i d=j6 data i d (258-n) n:=by
 induction n with
 | zero=>rfl
 | succ n ih=>
  rw[ih (by omega) (λj hj=>h j (by omega))];have:=h n (by omega);rw[show 258-n=(258-(n+1))+1 by omega,tA this.1 this.2]
def dP(data:List Nat)(i:Nat):Nat->Nat×Nat
 | 0=>(0,0)
 | k+1=>if 3<=jT data i (k+1)/\(dP data i k).1<jT data i (k+1) then(jT data i (k+1),k+1)else dP data i k
def bF(data:List Nat)(i:Nat):Nat×Nat:=dP data i i
theorem mv{data:List Nat}{i k:Nat}(h:jT data i (k+1)<3\/jT data i (k+1)<=(dP data i k).1):dP data i (k+1)=dP data i k:=by rw[dP,if_neg (by omega)]
theorem Ap{data:List Nat}{i k:Nat}(h:3<=jT data i (k+1))(h2:(dP data i k).1<jT data i (k+1)):dP data i (k+1)=(jT data i (k+1),k+1):=by rw[dP,if_pos ⟨h,h2⟩]
theorem Gr(data:List Nat)(i k:Nat):dP data i k=(0,0)\/∃d,1<=d/\d<=k/\dP data i k=(jT data i d,d)/\3<=jT data i d:=by
 induction k with
 | zero=>exact .inl rfl
 | succ k ih=>
  rw[dP];split
  ·rename_i h;exact .inr ⟨k+1,by omega,by omega,rfl,h.1⟩
  ·rcases ih with h | ⟨d,h1,h2,h3⟩
   ·exact .inl h
   ·exact .inr ⟨d,h1,by omega,h3⟩
theorem yV{data:List Nat}{i k:Nat}(m:Nat)(hm:∀d,jT data i d<=m)(h:m<=(dP data i k).1)(j:Nat):dP data i (k+j)=dP data i k:=by
 induction j with
 | zero=>rfl
 | succ j ih=>rw[<-Nat.add_assoc,mv (by rw[ih];have:=hm (k+j+1);omega),ih]
theorem jC{data:List Nat}{i k j:Nat}(h:∀d,k<d->d<=k+j->jT data i d<3):dP data i (k+j)=dP data i k:=by
 induction j with
 | zero=>rfl
 | succ j ih=>rw[<-Nat.add_assoc,mv (.inl (h (k+j+1) (by omega) (by omega))),ih (λd h1 h2=>h d h1 (by omega))]
theorem mw(data:List Nat)(i:Nat):(bF data i=(0,0))\/∃n d,bF data i=(n,d)/\3<=n/\n<=258/\1<=d/\d<=i/\i+n<=data.length/\∀j,j<n->data.getD (i+j) 0=data.getD (i+j-d) 0:=by
 rcases Gr data i i with h | ⟨d,h1,h2,h3,h4⟩
 ·exact .inl h
 ·refine .inr ⟨jT data i d,d,h3,h4,Hd data i d,h1,h2,?_,λj hj=>(gF data i d j hj).2⟩;rcases Gj data i d with h | h
  ·omega
  ·exact h
def bL(data:List Nat):Nat->Nat->List TK
 | 0,_=>[]
 | f+1,i=>
  if i<data.length then
   (if (bF data i).1=0\/(bF data i).1<(bF data (i+1)).1 then⟨data.getD i 0,0,0⟩::bL data f (i+1)
   else⟨0,((bF data i).1:Int),((bF data i).2:Int)⟩::bL data f (i+(bF data i).1))
  else []
def cY(data:List Nat):List TK:=if 16384<data.length then []else bL data data.length 0
theorem eE{data:List Nat}{f i:Nat}(h:data.length<=i):bL data f i=[]:=by
 cases f with
 | zero=>rfl
 | succ f=>rw[bL,if_neg (by omega)]
theorem jo{data:List Nat}{f i:Nat}(h:i<data.length)(hm:(bF data i).1=0\/(bF data i).1<(bF data (i+1)).1):bL data (f+1) i=⟨data.getD i 0,0,0⟩::bL data f (i+1):=by rw[bL,if_pos h,if_pos hm]
theorem jl{data:List Nat}{f i:Nat}(h:i<data.length)(hm:¬((bF data i).1=0\/(bF data i).1<(bF data (i+1)).1)):bL data (f+1) i=⟨0,((bF data i).1:Int),((bF data i).2:Int)⟩::bL data f (i+(bF data i).1):=by rw[bL,if_pos h,if_neg hm]
theorem D9{data:List Nat}{f g i:Nat}(hf:data.length-i<=f)(hg:data.length-i<=g):bL data f i=bL data g i:=by
 induction f generalizing g i with
 | zero=>rw[eE (by omega),eE (by omega)]
 | succ f ih=>
  by_cases h:i<data.length
  ·obtain⟨g,rfl⟩:∃g',g=g'+1:=⟨g-1,by omega⟩
   by_cases hm:(bF data i).1=0\/(bF data i).1<(bF data (i+1)).1
   ·rw[jo h hm,jo h hm,ih (g:=g) (by omega) (by omega)]
   ·rw[jl h hm,jl h hm,ih (g:=g) (by omega) (by omega)]
  ·rw[eE (by omega),eE (by omega)]
def wj(data:List Nat)(q a b c:Nat):Bool:=data.getD q 0==a && data.getD (q+1) 0==b && data.getD (q+2) 0==c
theorem vN(data:List Nat)(q a b c:Nat):wj data q a b c=true↔(data.getD q 0=a/\data.getD (q+1) 0=b/\data.getD (q+2) 0=c):=by simp[wj,and_assoc]
def i7(data:List Nat)(a b c:Nat):Nat->Option Nat
 | 0=>none
 | i+1=>if wj data i a b c=true then some i else i7 data a b c i
theorem ze{data:List Nat}{a b c i q:Nat}(h:i7 data a b c i=some q):q<i/\wj data q a b c=true/\∀p,q<p->p<i->wj data p a b c=false:=by
 induction i with
 | zero=>cases h
 | succ i ih=>
  unfold i7 at h;split at h
  ·rename_i h1;simp only[Option.some.injEq]at h;subst h;exact⟨by omega,h1,λp h2 h3=>by omega⟩
  ·rename_i h1;obtain⟨g1,g2,g3⟩:=ih h;refine⟨by omega,g2,λp h2 h3=>?_⟩;by_cases hp:p=i
   ·subst hp;simpa using h1
   ·exact g3 p h2 (by omega)
theorem zg{data:List Nat}{a b c i:Nat}(h:i7 data a b c i=none):∀p,p<i->wj data p a b c=false:=by
 induction i with
 | zero=>intro p hp;omega
 | succ i ih=>
  unfold i7 at h;split at h
  ·cases h
  ·rename_i h1;intro p hp;by_cases he:p=i
   ·subst he;simpa using h1
   ·exact ih h p (by omega)
def oL(data:List Nat)(i:Nat):Int:=
 match i7 data (data.getD i 0) (data.getD (i+1) 0) (data.getD (i+2) 0) i with
 | some q=>(q:Int)
 | none=>-1
def on(data:List Nat):List Int:=(List.range (data.length-2)).map (oL data)
theorem gL(data:List Nat):(on data).length=data.length-2:=by simp[on]
theorem Ch(data:List Nat)(i:Nat)(_h:i<data.length-2)(h':i<(on data).length):(on data)[i]=oL data i:=by simp[on]
def eX(data:List Nat)(p i:Nat):Bool:=wj data p (data.getD i 0) (data.getD (i+1) 0) (data.getD (i+2) 0)
theorem jb(data:List Nat)(p i:Nat):eX data p i=true↔(data.getD p 0=data.getD i 0/\data.getD (p+1) 0=data.getD (i+1) 0/\data.getD (p+2) 0=data.getD (i+2) 0):=vN _ _ _ _ _
theorem kw{data:List Nat}{p q i:Nat}(h:eX data q i=true):eX data p i=eX data p q:=by have h1:=(jb data q i).1 h;rw[Bool.eq_iff_iff,jb,jb,h1.1,h1.2.1,h1.2.2]
theorem lj(data:List Nat)(i:Nat):(∃q:Nat,oL data i=q/\q<i/\eX data q i=true/\∀p,q<p->p<i->eX data p i=false)\/(oL data i=-1/\∀p,p<i->eX data p i=false):=by
 unfold oL;split
 ·rename_i q h;exact .inl ⟨q,rfl,ze h⟩
 ·rename_i h;exact .inr ⟨rfl,zg h⟩
theorem kV{data:List Nat}{i d:Nat}(hd:d<=i)(h:eX data (i-d) i=false):jT data i d<3:=by
 refine Nat.lt_of_not_le (λhc=>?_);have h0:=(gF data i d 0 (by omega)).2;have h1:=(gF data i d 1 (by omega)).2;have h2:=(gF data i d 2 (by omega)).2;have:eX data (i-d) i=true:=by
  rw[jb];refine⟨?_,?_,?_⟩
  ·rw[show i-d=i+0-d by omega];exact h0.symm
  ·rw[show i-d+1=i+1-d by omega];exact h1.symm
  ·rw[show i-d+2=i+2-d by omega];exact h2.symm
 rw[h]at this;cases this
def Found(data:List Nat)(i:Nat)(fr:Int)(n d:Nat):Prop:=(n,d)=dP data i ((i:Int)-1-fr).toNat
theorem Found.start{data:List Nat}{i:Nat}:Found data i (oL data i) 0 0:=by
 unfold Found;rcases lj data i with⟨q,h1,h2,h3,h4⟩ | ⟨h1,h2⟩
 ·rw[h1,show((i:Int)-1-(q:Int)).toNat=0+(i-1-q)by omega,jC]
  ·rfl
  ·intro d Cq pC;exact kV (by omega) (h4 (i-d) (by omega) (by omega))
 ·rw[h1,show((i:Int)-1-(-1)).toNat=0+i by omega,jC]
  ·rfl
  ·intro d Cq pC;exact kV (by omega) (h2 (i-d) (by omega))
theorem Found.next{data:List Nat}{i q n d:Nat}(hq:q<i)(hs:eX data q i=true)(h:(n,d)=dP data i (i-q)):Found data i (oL data q) n d:=by
 unfold Found;rcases lj data q with⟨p,h1,h2,h3,h4⟩ | ⟨h1,h2⟩
 ·rw[h1,show((i:Int)-1-(p:Int)).toNat=(i-q)+(q-1-p)by omega,jC]
  ·exact h
  ·intro e X8 MQ;refine kV (by omega) ?_;rw[kw hs];exact h4 (i-e) (by omega) (by omega)
 ·rw[h1,show((i:Int)-1-(-1)).toNat=(i-q)+q by omega,jC]
  ·exact h
  ·intro e X8 MQ;refine kV (by omega) ?_;rw[kw hs];exact h2 (i-e) (by omega)
theorem Found.done{data:List Nat}{i n d:Nat}(h:Found data i (-1) n d):(n,d)=bF data i:=by unfold Found at h;rw[show((i:Int)-1-(-1)).toNat=i by omega]at h;exact h
theorem Found.at{data:List Nat}{i q n d:Nat}(hq:q<i)(h:Found data i (q:Int) n d):(n,d)=dP data i (i-q-1):=by unfold Found at h;rw[show((i:Int)-1-(q:Int)).toNat=i-q-1 by omega]at h;exact h
theorem Found.not{data:List Nat}{i q n d:Nat}(hq:q<i)(hs:eX data q i=true)(h:Found data i (q:Int) n d)(hm:jT data i (i-q)<=n):Found data i (oL data q) n d:=by
 refine Found.next hq hs ?_
 have h1:=h.at hq;have e:i-q=(i-q-1)+1:=by omega
 rw[e,mv (.inr (by rw[<-h1,<-e];exact hm))];exact h1
theorem Found.more{data:List Nat}{i q n d:Nat}(hq:q<i)(hs:eX data q i=true)(h:Found data i (q:Int) n d)(h3:3<=jT data i (i-q))(hm:n<jT data i (i-q)):Found data i (oL data q) (jT data i (i-q)) (i-q)/\dP data i (i-q)=(jT data i (i-q),i-q):=by
 have h1:=h.at hq;have e:i-q=(i-q-1)+1:=by omega
 have hb:dP data i (i-q)=(jT data i (i-q),i-q):=by have:=Ap (data:=data) (i:=i) (k:=i-q-1) (by rw[<-e];exact h3) (by rw[<-h1,<-e];exact hm);rw[<-e]at this;exact this
 exact⟨Found.next hq hs hb.symm,hb⟩
theorem Found.full{data:List Nat}{i q n d m:Nat}(hq:q<i)(hs:eX data q i=true)(h:Found data i (q:Int) n d)(hm:jT data i (i-q)=m)(h3:3<=m)(hn:n<m)(Nq:∀e,jT data i e<=m):(m,i-q)=bF data i:=by have h1:=(h.more hq hs (by omega) (by omega)).2;unfold bF;have:=yV (data:=data) (i:=i) (k:=i-q) m Nq (by rw[h1];simp only;omega) q;rw[show i-q+q=i by omega]at this;rw[this,h1,hm]
theorem Kd(data:List Nat)(i d:Nat)(h:i<=data.length):jT data i d<=min 258 (data.length-i):=by have h1:=Hd data i d;rcases Gj data i d with h2 | h2<;>omega
theorem zS{data:List Nat}{i:Nat}(h:data.length<i+3):bF data i=(0,0):=by
 rcases mw data i with h1 | ⟨n,d,_,h3,_,_,_,h4,_⟩
 ·exact h1
 ·omega
theorem nW(data:List Nat)(i:Nat)(h:i<data.length):data.take (i+1)=data.take i++[data.getD i 0]:=by rw[List.take_succ_eq_append_getElem h];simp[List.getD,h]
theorem GL{data:List Nat}{i d:Nat}(hd:1<=d)(pC:d<=i)(n:Nat)(hn:i+n<=data.length)(h:∀j,j<n->data.getD (i+j) 0=data.getD (i+j-d) 0):CT d n (data.take i)=data.take (i+n):=by
 induction n with
 | zero=>rfl
 | succ n ih=>
  have hl:(data.take (i+n)).length=i+n:=(by rw[List.length_take];omega);rw[Fe,ih (by omega) (λj hj=>h j (by omega)),hl,<-Nat.add_assoc,nW data (i+n) (by omega),h n (by omega)];have:(data.take (i+n)).getD (i+n-d) 0=data.getD (i+n-d) 0:=(by simp only[List.getD];rw[List.getElem?_take_of_lt (by omega)]);rw[this]
theorem tC{data:List Nat}{f i:Nat}(h:i<data.length):∃(t:TK) (n:Nat),bL data (f+1) i=t::bL data f (i+n)/\ph t i=true/\pv t=n/\1<=n/\i+n<=data.length/\nH (data.take i) t=data.take (i+n)/\(t.len=0->t.lit=data.getD i 0/\n=1):=by
 rcases mw data i with h0 | ⟨n,d,h0,h1,h2,h3,h4,h5,h6⟩
 ·refine⟨⟨data.getD i 0,0,0⟩,1,jo h (.inl (by rw[h0])),rfl,rfl,by omega,by omega,?_,λ_=>⟨rfl,rfl⟩⟩;unfold nH;rw[if_pos rfl,nW data i h]
 ·by_cases hm:(bF data i).1=0\/(bF data i).1<(bF data (i+1)).1
  ·refine⟨⟨data.getD i 0,0,0⟩,1,jo h hm,rfl,rfl,by omega,by omega,?_,λ_=>⟨rfl,rfl⟩⟩;unfold nH;rw[if_pos rfl,nW data i h]
  ·refine⟨⟨0,(n:Int),(d:Int)⟩,n,by rw[jl h hm,h0],?_,?_,by omega,h5,?_,λe=>?_⟩
   ·unfold ph;rw[if_neg (by simp;omega)];simp;omega
   ·unfold pv;simp only;omega
   ·unfold nH;rw[if_neg (by simp;omega)];exact GL h3 h4 n h5 h6
   ·simp at e;omega
theorem CW{data:List Nat}{f i:Nat}(hf:data.length-i<=f)(hi:i<=data.length):wH (bL data f i) (data.take i)=data:=by
 induction f generalizing i with
 | zero=>rw[eE (by omega),show i=data.length by omega,List.take_length];rfl
 | succ f ih=>
  by_cases h:i<data.length
  ·obtain⟨t,n,e,_,_,h1,h2,h3,_⟩:=tC (f:=f) h;rw[e];show wH (bL data f (i+n)) (nH (data.take i) t)=data;rw[h3];exact ih (by omega) h2
  ·rw[eE (by omega),show i=data.length by omega,List.take_length];rfl
theorem Ax{data:List Nat}{f i most:Nat}(hf:data.length-i<=f)(hi:i<=data.length)(hm:data.length<=most):cj most (bL data f i) i=.ok data.length:=by
 induction f generalizing i with
 | zero=>rw[eE (by omega),show i=data.length by omega];rfl
 | succ f ih=>
  by_cases h:i<data.length
  ·obtain⟨t,n,e,nO,ht,h1,h2,_,_⟩:=tC (f:=f) h;rw[e,cj,if_neg (by rw[nO];decide),ht,if_neg (by omega)];exact ih (by omega) h2
  ·rw[eE (by omega),show i=data.length by omega];rfl
end Go.Proofs.YtljlmfnbeofmmaaGreatDoor
