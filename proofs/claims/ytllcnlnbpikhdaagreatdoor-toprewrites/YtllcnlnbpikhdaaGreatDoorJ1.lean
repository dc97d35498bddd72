
namespace Go.Proofs.YtllcnlnbpikhdaaGreatDoor

def aN : List Nat → Nat
  | [] => 0
  | b :: r => b + 256 * aN r

def n2 : List Nat → Nat
  | [] => 0
  | b :: r => b + 2 * n2 r

theorem fz (a b : List Nat) : aN (a ++ b) = aN a + 256 ^ a.length * aN b := by
  induction a with
  | nil => simp [aN]
  | cons x r ih =>
    simp only [List.cons_append, aN, ih, List.length_cons, Nat.pow_succ, Nat.mul_add, Nat.add_assoc]
    rw [Nat.mul_comm (256 ^ r.length) 256, Nat.mul_assoc]

theorem dj (a b : List Nat) : n2 (a ++ b) = n2 a + 2 ^ a.length * n2 b := by
  induction a with
  | nil => simp [n2]
  | cons x r ih =>
    simp only [List.cons_append, n2, ih, List.length_cons, Nat.pow_succ, Nat.mul_add, Nat.add_assoc]
    rw [Nat.mul_comm (2 ^ r.length) 2, Nat.mul_assoc]

theorem mi (l : List Nat) (h : ∀ b ∈ l, b < 256) : aN l < 256 ^ l.length := by
  induction l with
  | nil => simp [aN]
  | cons x r ih =>
    have h1 := h x (by simp)
    have h2 := ih (fun b hb => h b (by simp [hb]))
    simp only [aN, List.length_cons, Nat.pow_succ]
    omega

theorem wG (l : List Nat) (h : ∀ b ∈ l, b < 2) : n2 l < 2 ^ l.length := by
  induction l with
  | nil => simp [n2]
  | cons x r ih =>
    have h1 := h x (by simp)
    have h2 := ih (fun b hb => h b (by simp [hb]))
    simp only [n2, List.length_cons, Nat.pow_succ]
    omega

theorem FP (a b : List Nat) (hl : a.length = b.length) (ha : ∀ x ∈ a, x < 256) (hb : ∀ x ∈ b, x < 256) (h : aN a = aN b) : a = b := by
  induction a generalizing b with
  | nil => cases b with
    | nil => rfl
    | cons => simp at hl
  | cons x r ih => cases b with
    | nil => simp at hl
    | cons y s =>
      have h1 := ha x (by simp)
      have h2 := hb y (by simp)
      simp only [aN] at h
      simp only [List.length_cons, Nat.add_right_cancel_iff] at hl
      have e := ih s hl (fun b iH => ha b (by simp [iH])) (fun b iH => hb b (by simp [iH])) (by omega)
      rw [e]
      congr 1
      omega

theorem Js (k : Nat) : 256 ^ k = 2 ^ (8 * k) := by rw [Nat.pow_mul]

theorem FV (l : List Nat) (h : ∀ b ∈ l, b < 256) (i : Nat) (hi : i < l.length) : aN l / 2 ^ (8 * i) % 256 = l[i] := by
  rw [← Js]
  induction l generalizing i with
  | nil => simp at hi
  | cons x r ih =>
    have h1 := h x (by simp)
    cases i with
    | zero => simp [aN]; omega
    | succ k =>
      have := ih (fun b hb => h b (by simp [hb])) k (by simpa using hi)
      simp only [aN, Nat.pow_succ, List.getElem_cons_succ]
      rw [Nat.mul_comm (256 ^ k) 256, ← Nat.div_div_eq_div_mul, show (x + 256 * aN r) / 256 = aN r by omega]
      exact this

theorem I9 (bs : List Nat) (b c free : Nat) (hc : 8 * (bs.length + 1) = c + free) (hf : free ≤ 8) (h : aN (bs ++ [b]) < 2 ^ c) : b < 2 ^ (8 - free) := by
  rw [fz] at h
  simp only [aN, Nat.mul_zero, Nat.add_zero] at h
  have e : c = 8 * bs.length + (8 - free) := by omega
  rw [e, Nat.pow_add, ← Js] at h
  have : 256 ^ bs.length * b < 256 ^ bs.length * 2 ^ (8 - free) := by omega
  exact Nat.lt_of_mul_lt_mul_left this

theorem FF (bs : List Nat) (b c free x : Nat) (hc : 8 * (bs.length + 1) = c + free) (hf : free ≤ 8) : aN (bs ++ [b + 2 ^ (8 - free) * x]) = aN (bs ++ [b]) + 2 ^ c * x := by
  have e : c = 8 * bs.length + (8 - free) := by omega
  simp only [fz, aN, Nat.mul_zero, Nat.add_zero]
  rw [e, Nat.pow_add, ← Js, Nat.mul_add, Nat.mul_assoc, Nat.add_assoc]

theorem GE (b k x : Nat) (h : b < 2 ^ k) : b ||| (2 ^ k * x) = b + 2 ^ k * x := by
  rw [Nat.or_comm, ← Nat.two_pow_add_eq_or_of_lt h, Nat.add_comm]

theorem Gk (v free : Nat) (hf : free ≤ 8) : v * 2 ^ (8 - free) % 256 = 2 ^ (8 - free) * (v % 2 ^ free) := by
  have : (256 : Nat) = 2 ^ (8 - free) * 2 ^ free := by rw [← Nat.pow_add]; simp [hf]
  rw [this, Nat.mul_comm, Nat.mul_mod_mul_left]

theorem Dj (v k : Nat) : v % 2 ^ k + 2 ^ k * (v / 2 ^ k) = v := by rw [Nat.mod_add_div]

theorem FQ (X v n c free : Nat) (hv : v < 2 ^ n) :
    X + 2 ^ c * (v % 2 ^ free) + v / 2 ^ (min free n) * 2 ^ (c + min free n) = X + v * 2 ^ c := by
  by_cases h : free ≤ n
  · rw [Nat.min_eq_left h, Nat.pow_add]
    have e := Dj v free
    calc X + 2 ^ c * (v % 2 ^ free) + v / 2 ^ free * (2 ^ c * 2 ^ free) = X + 2 ^ c * (v % 2 ^ free + 2 ^ free * (v / 2 ^ free)) := by
          rw [Nat.mul_add, Nat.add_assoc]; congr 2; rw [Nat.mul_comm, Nat.mul_assoc]
      _ = _ := by rw [e, Nat.mul_comm]
  · have h' : n ≤ free := by omega
    have h2 : v < 2 ^ free := Nat.lt_of_lt_of_le hv (Nat.pow_le_pow_right (by omega) h')
    rw [Nat.min_eq_right h', Nat.div_eq_of_lt hv, Nat.mod_eq_of_lt h2, Nat.zero_mul, Nat.add_zero, Nat.mul_comm]

theorem Df (Z u k : Nat) (h : u + k ≤ 8) : Z % 256 / 2 ^ u % 2 ^ k = Z / 2 ^ u % 2 ^ k := by
  have e : (256 : Nat) = 2 ^ u * 2 ^ (8 - u) := by rw [← Nat.pow_add, show u + (8 - u) = 8 by omega]
  rw [e, Nat.mod_mul_right_div_self, Nat.mod_mod_of_dvd _ (Nat.pow_dvd_pow 2 (by omega))]

theorem sD (Y a k : Nat) : Y % 2 ^ (a + k) = Y % 2 ^ a + 2 ^ a * (Y / 2 ^ a % 2 ^ k) := by
  rw [Nat.pow_add, Nat.mod_mul]

theorem FK (bs : List Nat) (hb : ∀ b ∈ bs, b < 256) (g got k : Nat) (hk : (g + got) % 8 + k ≤ 8) (hlt : (g + got) / 8 < bs.length) :
    aN bs / 2 ^ g % 2 ^ got + 2 ^ got * (bs[(g + got) / 8] / 2 ^ ((g + got) % 8) % 2 ^ k) = aN bs / 2 ^ g % 2 ^ (got + k) := by
  have e := FV bs hb _ hlt
  rw [← e, Df _ _ _ hk, Nat.div_div_eq_div_mul, ← Nat.pow_add, show 8 * ((g + got) / 8) + (g + got) % 8 = g + got by omega, sD, Nat.div_div_eq_div_mul, ← Nat.pow_add]

theorem vZ (x k : Nat) : x &&& (2 ^ k - 1) = x % 2 ^ k := Nat.and_two_pow_sub_one_eq_mod x k
def aQ(v:Nat):Nat->List Nat
 | 0=>[]
 | n+1=>aQ v n++[v / 256 ^ n % 256]
theorem aA(v n:Nat):(aQ v n).length=n:=by
 induction n with
 | zero=>rfl
 | succ n ih=>simp[aQ,ih]
theorem Cj(v n:Nat):aN (aQ v n)=v % 256 ^ n:=by
 induction n with
 | zero=>simp[aQ,aN,Nat.mod_one]
 | succ n ih=>
  rw[aQ,fz,ih,aA,Nat.pow_succ,Nat.mod_mul];simp[aN]
def cP(cs:List Nat)(a n:Nat):Nat:=aN ((cs.drop a).take n)
theorem Jm(cs:List Nat)(hb:∀b∈cs,b<256)(a n:Nat):cP cs a n<256 ^ n:=by have h:=mi ((cs.drop a).take n) (λb h=>hb b (List.mem_of_mem_drop (List.mem_of_mem_take h)));exact Nat.lt_of_lt_of_le h (Nat.pow_le_pow_right (by omega) (List.length_take_le _ _))
def rB(r:Nat):Nat:=(r / 2) ^^^ (r % 2*3988292384)
def wW:Nat->Nat->Nat
 | 0,r=>r
 | n+1,r=>rB (wW n r)
def BC(r:Nat):Nat:=wW 8 r
def Ll(r:Nat)(bs:List Nat):Nat:=bs.foldl (λr b=>BC (r ^^^ b)) r
def mU(x:Nat):Nat:=4294967295-x
def more(sum:Nat)(bs:List Nat):Nat:=mU (Ll (mU sum) bs)
theorem uE(x:Nat):mU x<4294967296:=by unfold mU;omega
theorem qX{a b:Nat}(ha:a<4294967296)(hb:b<4294967296):a ^^^ b<4294967296:=by
 have e:(4294967296:Nat)=2 ^ 32:=by decide
 rw[e]at *
 exact Nat.xor_lt_two_pow ha hb
theorem IU{r:Nat}(h:r<4294967296):rB r<4294967296:=by
 unfold rB;refine qX (by omega) ?_;have h2:r % 2<=1:=by omega
 have h3:r % 2*3988292384<=1*3988292384:=Nat.mul_le_mul_right _ h2;omega
theorem uJ{r:Nat}(h:r<4294967296)(n:Nat):wW n r<4294967296:=by
 induction n with
 | zero=>exact h
 | succ n ih=>exact IU ih
theorem Lc{r:Nat}(h:r<4294967296)(bs:List Nat)(hb:∀b∈bs,b<256):Ll r bs<4294967296:=by
 induction bs generalizing r with
 | nil=>exact h
 | cons b s ih=>
  have h1:=hb b (by simp);exact ih (uJ (qX h (by omega)) 8) (λx hx=>hb x (by simp[hx]))
theorem F4(r:Nat)(bs:List Nat)(b:Nat):Ll r (bs++[b])=BC (Ll r bs ^^^ b):=by simp[Ll]
theorem IZ(s:Nat)(a:List Nat):more s a<4294967296:=uE _
structure Mk where
 way:Nat
 sum:Nat
 packed:Nat
 size:Nat
 name:List Nat
deriving DecidableEq
def eF(n:Nat)(r:List Nat):Option (List Nat×List Nat):=if n<=r.length then some (r.take n,r.drop n)else none
def dS(n:Nat)(r:List Nat):Option (Nat×List Nat):=match eF n r with
 | none=>none
 | some p=>some (aN p.1,p.2)
def eM(n v:Nat)(r:List Nat):Option (List Nat):=match dS n r with
 | none=>none
 | some p=>if p.1=v then some p.2 else none
def da{α β:Type}(o:Option α)(f:α->Option β):Option β:=match o with
 | none=>none
 | some x=>f x
theorem aB{α β:Type}{o:Option α}{f:α->Option β}{x:α}(h:o=some x):da o f=f x:=by rw[h];rfl
theorem nM{α β:Type}{o:Option α}{f:α->Option β}(h:o=none):da o f=none:=by rw[h];rfl
def fH(r:List Nat):Option ((Mk×Nat)×List Nat):=
 da (eF 2 r) λa=>da (eM 2 0 a.2) λr=>da (dS 2 r) λway=>da (eF 4 way.2) λa=>
 da (dS 4 a.2) λsum=>da (dS 4 sum.2) λpacked=>da (dS 4 packed.2) λsize=>da (dS 2 size.2) λlong=>
 da (eM 2 0 long.2) λr=>some ((⟨way.1,sum.1,packed.1,size.1,[]⟩,long.1),r)
def Mk.named(m:Mk)(s:List Nat):Mk:=⟨m.way,m.sum,m.packed,m.size,s⟩
def eU(r:List Nat):Option ((Mk×Nat)×List Nat):=
 da (eM 4 33639248 r) λr=>da (eF 2 r) λa=>da (fH a.2) λl=>da (eM 2 0 l.2) λr=>da (eM 2 0 r) λr=>
 da (eF 6 r) λa=>da (dS 4 a.2) λat'=>da (eF l.1.2 at'.2) λs=>some ((l.1.1.named s.1,at'.1),s.2)
def oO(m:Mk)(r:List Nat):Option (List Nat):=
 da (eM 4 67324752 r) λr=>da (fH r) λl=>da (eF l.1.2 l.2) λs=>if l.1.1.named s.1=m then some s.2 else none
def iC(m:Mk)(r:List Nat):Option (List Nat×List Nat):=da (oO m r) λr=>eF m.packed r
def gX(m:Mk):List Nat:=aQ 20 2++(aQ 0 2++(aQ m.way 2++(aQ 0 2++(aQ 33 2++(aQ m.sum 4++(aQ m.packed 4++(aQ m.size 4++(aQ m.name.length 2++aQ 0 2))))))))
def jC(m:Mk):List Nat:=aQ 67324752 4++(gX m++m.name)
def kO(m:Mk)(at':Nat):List Nat:=aQ 33639248 4++(aQ 20 2++(gX m++(aQ 0 2++(aQ 0 2++(aQ 0 2++(aQ 0 4++(aQ at' 4++m.name)))))))
def lM(n long first:Nat):List Nat:=aQ 101010256 4++(aQ 0 2++(aQ 0 2++(aQ n 2++(aQ n 2++(aQ long 4++(aQ first 4++aQ 0 2))))))
structure gE(m:Mk):Prop where
 way:m.way<65536
 sum:m.sum<4294967296
 packed:m.packed<4294967296
 size:m.size<4294967296
 name:m.name.length<65536
theorem hQ(a r:List Nat){n:Nat}(h:a.length=n):eF n (a++r)=some (a,r):=by subst h;unfold eF;rw[if_pos (by simp),List.take_left,List.drop_left]
theorem fo(v n:Nat)(r:List Nat)(h:v<256 ^ n):dS n (aQ v n++r)=some (v,r):=by unfold dS;rw[hQ _ _ (aA v n)];simp only;rw[Cj,Nat.mod_eq_of_lt h]
theorem eo(v n:Nat)(r:List Nat)(h:v<256 ^ n):eM n v (aQ v n++r)=some r:=by unfold eM;rw[fo v n r h];simp
theorem uI(m:Mk)(h:gE m)(r:List Nat):fH (gX m++r)=some ((m.named [],m.name.length),r):=by unfold fH gX;simp only[List.append_assoc];rw[aB (hQ _ _ (aA 20 2))];simp only;rw[aB (eo 0 2 _ (by decide)),aB (fo m.way 2 _ h.way)];simp only;rw[show aQ 0 2++(aQ 33 2++(aQ m.sum 4++(aQ m.packed 4++(aQ m.size 4++(aQ m.name.length 2++(aQ 0 2++r))))))=(aQ 0 2++aQ 33 2)++(aQ m.sum 4++(aQ m.packed 4++(aQ m.size 4++(aQ m.name.length 2++(aQ 0 2++r)))))by simp];rw[aB (hQ _ _ (by simp[aA]))];simp only;rw[aB (fo m.sum 4 _ h.sum)];simp only;rw[aB (fo m.packed 4 _ h.packed)];simp only;rw[aB (fo m.size 4 _ h.size)];simp only;rw[aB (fo m.name.length 2 _ h.name)];simp only;rw[aB (eo 0 2 _ (by decide))];rfl
theorem Mk.named_self(m:Mk):(m.named []).named m.name=m:=rfl
theorem Gd(m:Mk)(h:gE m)(at':Nat)(ha:at'<4294967296)(r:List Nat):eU (kO m at'++r)=some ((m,at'),r):=by unfold eU kO;simp only[List.append_assoc];rw[aB (eo 33639248 4 _ (by decide)),aB (hQ _ _ (aA 20 2))];simp only;rw[aB (uI m h _)];simp only;rw[aB (eo 0 2 _ (by decide)),aB (eo 0 2 _ (by decide))];rw[show aQ 0 2++(aQ 0 4++(aQ at' 4++(m.name++r)))=(aQ 0 2++aQ 0 4)++(aQ at' 4++(m.name++r))by simp];rw[aB (hQ _ _ (by simp[aA]))];simp only;rw[aB (fo at' 4 _ ha)];simp only;rw[aB (hQ _ _ rfl)];rfl
theorem EX(m:Mk)(h:gE m)(r:List Nat):oO m (jC m++r)=some r:=by unfold oO jC;simp only[List.append_assoc];rw[aB (eo 67324752 4 _ (by decide)),aB (uI m h _)];simp only;rw[aB (hQ _ _ rfl)];simp only;rw[Mk.named_self,if_pos rfl]
theorem Gx(m:Mk)(h:gE m)(b r:List Nat)(hb:b.length=m.packed):iC m (jC m++(b++r))=some (b,r):=by unfold iC;rw[aB (EX m h _),hQ _ _ hb]
theorem oF(m:Mk):(gX m).length=26:=by simp[gX,aA]
theorem vV(m:Mk):(jC m).length=30+m.name.length:=by simp[jC,oF,aA];omega
theorem xE(m:Mk)(a:Nat):(kO m a).length=46+m.name.length:=by simp[kO,oF,aA];omega
theorem wZ(n l f:Nat):(lM n l f).length=22:=by simp[lM,aA]
theorem A5{β:Type}(n o:Nat)(r:List Nat)(hn:0<n)(f:List Nat×List Nat->Option β):da (eF n (r.drop o)) f=if o+n<=r.length then f ((r.drop o).take n,r.drop (o+n))else none:=by
 unfold eF;rw[List.length_drop,List.drop_drop];by_cases h:o+n<=r.length
 ·rw[if_pos (by omega),if_pos h];rfl
 ·rw[if_neg (by omega),if_neg h];rfl
theorem BH{β:Type}(n o:Nat)(r:List Nat)(hn:0<n)(f:Nat×List Nat->Option β):da (dS n (r.drop o)) f=if o+n<=r.length then f (cP r o n,r.drop (o+n))else none:=by
 unfold dS eF;rw[List.length_drop,List.drop_drop];by_cases h:o+n<=r.length
 ·rw[if_pos (by omega),if_pos h];rfl
 ·rw[if_neg (by omega),if_neg h];rfl
theorem tF{β:Type}(n v o:Nat)(r:List Nat)(hn:0<n)(f:List Nat->Option β):da (eM n v (r.drop o)) f=if o+n<=r.length then(if cP r o n=v then f (r.drop (o+n))else none)else none:=by
 unfold eM dS eF;rw[List.length_drop,List.drop_drop];by_cases h:o+n<=r.length
 ·rw[if_pos (by omega),if_pos h];simp only;by_cases h2:cP r o n=v
  ·rw[if_pos h2,if_pos (by exact h2)];rfl
  ·rw[if_neg h2,if_neg (by exact h2)];rfl
 ·rw[if_neg (by omega),if_neg h];rfl
def GJ(r:List Nat)(o:Nat):Mk:=⟨cP r (o+4) 2,cP r (o+10) 4,cP r (o+14) 4,cP r (o+18) 4,[]⟩
theorem A2{β:Type}(r:List Nat)(o:Nat)(f:(Mk×Nat)×List Nat->Option β):da (fH (r.drop o)) f=if o+26<=r.length/\cP r (o+2) 2=0/\cP r (o+24) 2=0 then f ((GJ r o,cP r (o+22) 2),r.drop (o+26))else none:=by
 unfold fH;simp only[A5,BH,tF,Nat.add_assoc,Nat.reduceAdd,show(0:Nat)<2 by decide,show(0:Nat)<4 by decide];by_cases TJ:o+26<=r.length
 ·rw[if_pos (by omega),if_pos (by omega)];by_cases h1:cP r (o+2) 2=0
  ·rw[if_pos h1,if_pos (by omega),if_pos (by omega),if_pos (by omega),if_pos (by omega),if_pos (by omega),if_pos (by omega),if_pos (by omega)];by_cases h2:cP r (o+24) 2=0
   ·rw[if_pos h2,if_pos ⟨TJ,h1,h2⟩];rfl
   ·rw[if_neg h2,if_neg (λh=>h2 h.2.2)];rfl
  ·rw[if_neg h1,if_neg (λh=>h1 h.2.1)];rfl
 ·conv=>rhs;rw[if_neg (λh=>TJ h.1)]
  repeat' split
  all_goals first | rfl | omega
theorem JL(r:List Nat):eU r=if 46<=r.length/\cP r 0 4=33639248/\cP r 8 2=0/\cP r 30 2=0/\cP r 32 2=0/\cP r 34 2=0/\46+cP r 28 2<=r.length then some (((GJ r 6).named ((r.drop 46).take (cP r 28 2)),cP r 42 4),r.drop (46+cP r 28 2))else none:=by
 have h0:r=r.drop 0:=rfl;unfold eU;conv=>lhs;rw[h0]
 simp only[A5,BH,tF,A2,Nat.zero_add,Nat.reduceAdd,show(0:Nat)<2 by decide,show(0:Nat)<4 by decide,show(0:Nat)<6 by decide];by_cases SP:46<=r.length
 ·by_cases h1:cP r 0 4=33639248
  ·by_cases h2:cP r 8 2=0
   ·by_cases h3:cP r 30 2=0
    ·by_cases h4:cP r 32 2=0
     ·by_cases h5:cP r 34 2=0
      ·rw[if_pos (by omega),if_pos h1,if_pos (by omega),if_pos ⟨by omega,h2,h3⟩,if_pos (by omega),if_pos h4,if_pos (by omega),if_pos h5,if_pos (by omega),if_pos (by omega)];unfold eF;rw[List.length_drop,List.drop_drop];by_cases h6:46+cP r 28 2<=r.length
       ·rw[if_pos (by omega),if_pos ⟨SP,h1,h2,h3,h4,h5,h6⟩];rfl
       ·rw[if_neg (by omega),if_neg (λh=>h6 h.2.2.2.2.2.2)];rfl
      ·conv=>rhs;rw[if_neg (λh=>h5 h.2.2.2.2.2.1)]
       repeat' split
       all_goals first | rfl | omega | (exfalso;exact h5 (by assumption))
     ·conv=>rhs;rw[if_neg (λh=>h4 h.2.2.2.2.1)]
      repeat' split
      all_goals first | rfl | omega | (exfalso;exact h4 (by assumption))
    ·conv=>rhs;rw[if_neg (λh=>h3 h.2.2.2.1)]
     repeat' split
     all_goals first | rfl | omega | (exfalso;exact h3 (And.right (And.right (by assumption))))
   ·conv=>rhs;rw[if_neg (λh=>h2 h.2.2.1)]
    repeat' split
    all_goals first | rfl | omega | (exfalso;exact h2 (And.left (And.right (by assumption))))
  ·conv=>rhs;rw[if_neg (λh=>h1 h.2.1)]
   repeat' split
   all_goals first | rfl | omega | (exfalso;exact h1 (by assumption))
 ·conv=>rhs;rw[if_neg (λh=>SP h.1)]
  repeat' split
  all_goals first | rfl | omega
theorem Bq(m:Mk)(r:List Nat):oO m r=if 30<=r.length/\cP r 0 4=67324752/\cP r 6 2=0/\cP r 28 2=0/\30+cP r 26 2<=r.length/\(GJ r 4).named ((r.drop 30).take (cP r 26 2))=m then some (r.drop (30+cP r 26 2))else none:=by
 have h0:r=r.drop 0:=rfl;unfold oO;conv=>lhs;rw[h0]
 simp only[tF,A2,Nat.zero_add,Nat.reduceAdd,show(0:Nat)<4 by decide];by_cases S6:30<=r.length
 ·by_cases h1:cP r 0 4=67324752
  ·by_cases h2:cP r 6 2=0
   ·by_cases h3:cP r 28 2=0
    ·rw[if_pos (by omega),if_pos h1,if_pos ⟨by omega,h2,h3⟩];unfold eF;rw[List.length_drop,List.drop_drop];by_cases h6:30+cP r 26 2<=r.length
     ·rw[if_pos (by omega)];show(if (GJ r 4).named ((r.drop 30).take (cP r 26 2))=m then some (r.drop (30+cP r 26 2))else none)=_;by_cases h7:(GJ r 4).named ((r.drop 30).take (cP r 26 2))=m
      ·rw[if_pos h7,if_pos ⟨S6,h1,h2,h3,h6,h7⟩]
      ·rw[if_neg h7,if_neg (λh=>h7 h.2.2.2.2.2)]
     ·rw[if_neg (by omega),if_neg (λh=>h6 h.2.2.2.2.1)];rfl
    ·conv=>rhs;rw[if_neg (λh=>h3 h.2.2.2.1)]
     repeat' split
     all_goals first | rfl | omega | (exfalso;exact h3 (And.right (And.right (by assumption))))
   ·conv=>rhs;rw[if_neg (λh=>h2 h.2.2.1)]
    repeat' split
    all_goals first | rfl | omega | (exfalso;exact h2 (And.left (And.right (by assumption))))
  ·conv=>rhs;rw[if_neg (λh=>h1 h.2.1)]
   repeat' split
   all_goals first | rfl | omega | (exfalso;exact h1 (by assumption))
 ·conv=>rhs;rw[if_neg (λh=>S6 h.1)]
  repeat' split
  all_goals first | rfl | omega
def aj(v:Nat):Nat->List Nat
 | 0=>[]
 | n+1=>aj v n++[v / 2 ^ n % 2]
theorem af(v n:Nat):(aj v n).length=n:=by
 induction n with
 | zero=>rfl
 | succ n ih=>simp[aj,ih]
theorem d9(v n:Nat):∀b∈aj v n,b<2:=by
 induction n with
 | zero=>simp[aj]
 | succ n ih=>
  intro b hb;rcases List.mem_append.1 hb with h | h
  ·exact ih b h
  ·simp at h;omega
theorem dq(v n:Nat):n2 (aj v n)=v % 2 ^ n:=by
 induction n with
 | zero=>simp[aj,n2,Nat.mod_one]
 | succ n ih=>
  rw[sD v n 1,aj,dj,ih,af];simp[n2]
theorem EC(n:Nat):n2 (List.replicate n 0)=0:=by
 induction n with
 | zero=>rfl
 | succ n ih=>simp[List.replicate_succ,n2,ih]
theorem K2(ls:List Nat)(v n:Nat)(h:v<2 ^ n):n2 (ls++aj v n)=n2 ls+v*2 ^ ls.length:=by rw[dj,dq,Nat.mod_eq_of_lt h,Nat.mul_comm]
theorem pX(ls:List Nat)(n:Nat):n2 (ls++List.replicate n 0)=n2 ls:=by rw[dj,EC];simp
theorem qj(ls:List Nat)(h:∀b∈ls,b<2)(i t:Nat):n2 ((ls.drop i).take t)<2 ^ t:=by have h1:=wG ((ls.drop i).take t) (λb hb=>h b (List.mem_of_mem_drop (List.mem_of_mem_take hb)));exact Nat.lt_of_lt_of_le h1 (Nat.pow_le_pow_right (by omega) (List.length_take_le _ _))
def ae:List Nat->List Nat
 | []=>[]
 | b::r=>aj b 8++ae r
theorem jQ(a b:List Nat):ae (a++b)=ae a++ae b:=by
 induction a with
 | nil=>rfl
 | cons x r ih=>simp[ae,ih]
theorem aq(l:List Nat):(ae l).length=8*l.length:=by
 induction l with
 | nil=>rfl
 | cons x r ih=>simp[ae,ih,af];omega
theorem az(l:List Nat):∀b∈ae l,b<2:=by
 induction l with
 | nil=>simp[ae]
 | cons x r ih=>
  intro b hb;rcases List.mem_append.1 hb with h | h
  ·exact d9 x 8 b h
  ·exact ih b h
theorem pD(l:List Nat)(h:∀b∈l,b<256):n2 (ae l)=aN l:=by
 induction l with
 | nil=>rfl
 | cons x r ih=>
  have h1:=h x (by simp);rw[ae,dj,dq,af,ih (λb hb=>h b (by simp[hb])),aN,show(2:Nat) ^ 8=256 from rfl,Nat.mod_eq_of_lt h1]
theorem Bh(ls:List Nat)(h:∀b∈ls,b<2)(a n:Nat)(hl:a+n<=ls.length):n2 ((ls.drop a).take n)=n2 ls / 2 ^ a % 2 ^ n:=by
 have e1:n2 ls=n2 (ls.take a)+2 ^ a*n2 (ls.drop a):=by have:=dj (ls.take a) (ls.drop a);rw[List.take_append_drop,List.length_take,Nat.min_eq_left (by omega)]at this;exact this
 have h1:n2 (ls.take a)<2 ^ a:=by have:=wG (ls.take a) (λb hb=>h b (List.mem_of_mem_take hb));rw[List.length_take,Nat.min_eq_left (by omega)]at this;exact this
 have e2:n2 (ls.drop a)=n2 ((ls.drop a).take n)+2 ^ n*n2 ((ls.drop a).drop n):=by have:=dj ((ls.drop a).take n) ((ls.drop a).drop n);rw[List.take_append_drop,List.length_take,List.length_drop,Nat.min_eq_left (by omega)]at this;exact this
 have h2:=qj ls h a n;rw[e1,Nat.add_mul_div_left _ _ (Nat.two_pow_pos _),Nat.div_eq_of_lt h1,Nat.zero_add,e2,Nat.add_mul_mod_self_left,Nat.mod_eq_of_lt (show n2 (List.take n (List.drop a ls))<2 ^ n from h2)]
structure TK where
 lit:Nat
 len:Int
 dist:Int
deriving DecidableEq
def o5(t:TK)(said:Nat):Bool:=
 if t.len=0 then decide (t.dist=0)else decide (t.lit=0/\3<=t.len/\t.len<=258/\1<=t.dist/\t.dist<=(said:Int))
def oW(t:TK):Nat:=(max t.len 1).toNat
def b7(most:Nat):List TK->Nat->Except Nat Nat
 | [],said=>.ok said
 | t::r,said=>if o5 t said=false then .error 60 else if most<said+oW t then .error 2 else b7 most r (said+oW t)
def Db(far:Nat):Nat->List Nat->List Nat
 | 0,out=>out
 | n+1,out=>Db far n (out++[out.getD (out.length-far) 0])
def mD(out:List Nat)(t:TK):List Nat:=if t.len=0 then out++[t.lit]else Db t.dist.toNat t.len.toNat out
def xj(ts:List TK)(out:List Nat):List Nat:=ts.foldl mD out
theorem zV(far n:Nat)(out:List Nat):(Db far n out).length=out.length+n:=by
 induction n generalizing out with
 | zero=>rfl
 | succ n ih=>rw[Db,ih,List.length_append];simp;omega
theorem Gn(far n:Nat)(out:List Nat):Db far (n+1) out=Db far n out++[(Db far n out).getD ((Db far n out).length-far) 0]:=by
 induction n generalizing out with
 | zero=>rfl
 | succ n ih=>rw[Db,ih,Db]
theorem eY{t:TK}{said:Nat}(h:o5 t said=true):(t.len=0/\t.dist=0/\oW t=1)\/(∃n d:Nat,t.len=n/\t.dist=d/\t.lit=0/\3<=n/\n<=258/\1<=d/\d<=said/\oW t=n):=by
 unfold o5 at h;split at h
 ·rename_i h0;refine .inl ⟨h0,by simpa using h,?_⟩;unfold oW;rw[h0];rfl
 ·have h:=of_decide_eq_true h;refine .inr ⟨t.len.toNat,t.dist.toNat,by omega,by omega,h.1,by omega,by omega,by omega,by omega,?_⟩;unfold oW;omega
theorem EE(t:TK):1<=oW t:=by unfold oW;omega
theorem uK{t:TK}{said:Nat}(h:o5 t said=true)(out:List Nat):(mD out t).length=out.length+oW t:=by
 unfold mD;rcases eY h with⟨h0,_,h1⟩ | ⟨n,d,h0,_,_,h3,_,_,_,h1⟩
 ·rw[if_pos h0,h1];simp
 ·rw[if_neg (by omega),zV,h1,h0];simp
theorem F0{most:Nat}{ts:List TK}{said n:Nat}(h:b7 most ts said=.ok n)(hs:said<=most):said<=n/\n<=most:=by
 induction ts generalizing said with
 | nil=>simp only[b7,Except.ok.injEq]at h;omega
 | cons t r ih=>
  unfold b7 at h;split at h
  ·cases h
  ·split at h
   ·cases h
   ·have:=ih h (by omega);omega
def oM(n:Nat):Nat:=if n=0 then 0 else Nat.log2 n+1
theorem fQ(n k:Nat):oM n<=k↔n<2 ^ k:=by
 unfold oM;split
 ·rename_i h;subst h;simp;exact Nat.two_pow_pos k
 ·rename_i h;rw[<-Nat.log2_lt h];omega
def jD(data:List Nat)(i d:Nat):Nat->Nat->Nat
 | 0,n=>n
 | f+1,n=>if i+n<data.length/\data.getD (i+n) 0=data.getD (i+n-d) 0 then jD data i d f (n+1)else n
def jw(data:List Nat)(i d:Nat):Nat:=jD data i d 258 0
theorem I0(data:List Nat)(i d f n:Nat):n<=jD data i d f n/\jD data i d f n<=n+f:=by
 induction f generalizing n with
 | zero=>exact⟨Nat.le_refl _,Nat.le_refl _⟩
 | succ f ih=>
  unfold jD;split
  ·have:=ih (n+1);omega
  ·omega
theorem yG(data:List Nat)(i d f n:Nat):∀j,n<=j->j<jD data i d f n->i+j<data.length/\data.getD (i+j) 0=data.getD (i+j-d) 0:=by
 induction f generalizing n with
 | zero=>intro j h1 h2;unfold jD at h2;omega
 | succ f ih=>
  intro j h1 h2;unfold jD at h2;split at h2
  ·rename_i hc;by_cases he:j=n
   ·subst he;exact hc
   ·exact ih (n+1) j (by omega) h2
  ·omega
theorem gh(data:List Nat)(i d j:Nat)(h:j<jw data i d):i+j<data.length/\data.getD (i+j) 0=data.getD (i+j-d) 0:=
 yG data i d 258 0 j (Nat.zero_le _) h
theorem GN(data:List Nat)(i d:Nat):jw data i d<=258:=by have:=I0 data i d 258 0;unfold jw;omega
theorem EO(data:List Nat)(i d:Nat):jw data i d=0\/i+jw data i d<=data.length:=by
 rcases Nat.eq_zero_or_pos (jw data i d)with h | h
 ·exact .inl h
 ·have:=(gh data i d (jw data i d-1) (by omega)).1;exact .inr (by omega)
theorem Lh{data:List Nat}{i d n:Nat}(h:data.getD (i+n) 0≠data.getD (i+n-d) 0):jw data i d<=n:=by refine Nat.le_of_not_lt (λhc=>h (gh data i d n hc).2)
theorem rZ{data:List Nat}{i d f n:Nat}(h1:i+n<data.length)(h2:data.getD (i+n) 0=data.getD (i+n-d) 0):jD data i d (f+1) n=jD data i d f (n+1):=by rw[jD,if_pos ⟨h1,h2⟩]
theorem sv{data:List Nat}{i d f n:Nat}(h:¬(i+n<data.length/\data.getD (i+n) 0=data.getD (i+n-d) 0)):jD data i d f n=n:=by
 cases f with
 | zero=>rfl
 | succ f=>rw[jD,if_neg h]
theorem FO{data:List Nat}{i d:Nat}(n:Nat)(hn:n<=258)(h:∀j,j<n->i+j<data.length/\data.getD (i+j) 0=data.getD (i+j-d) 0):jw data i d=jD data i d (258-n) n:=by
 induction n with
 | zero=>rfl
 | succ n ih=>
  rw[ih (by omega) (λj hj=>h j (by omega))];have:=h n (by omega);rw[show 258-n=(258-(n+1))+1 by omega,rZ this.1 this.2]
def dH(data:List Nat)(i:Nat):Nat->Nat×Nat
 | 0=>(0,0)
 | k+1=>if 3<=jw data i (k+1)/\(dH data i k).1<jw data i (k+1) then(jw data i (k+1),k+1)else dH data i k
def bD(data:List Nat)(i:Nat):Nat×Nat:=dH data i i
theorem lN{data:List Nat}{i k:Nat}(h:jw data i (k+1)<3\/jw data i (k+1)<=(dH data i k).1):dH data i (k+1)=dH data i k:=by rw[dH,if_neg (by omega)]
theorem zA{data:List Nat}{i k:Nat}(h:3<=jw data i (k+1))(h2:(dH data i k).1<jw data i (k+1)):dH data i (k+1)=(jw data i (k+1),k+1):=by rw[dH,if_pos ⟨h,h2⟩]
theorem Ez(data:List Nat)(i k:Nat):dH data i k=(0,0)\/∃d,1<=d/\d<=k/\dH data i k=(jw data i d,d)/\3<=jw data i d:=by
 induction k with
 | zero=>exact .inl rfl
 | succ k ih=>
  rw[dH];split
  ·rename_i h;exact .inr ⟨k+1,by omega,by omega,rfl,h.1⟩
  ·rcases ih with h | ⟨d,h1,h2,h3⟩
   ·exact .inl h
   ·exact .inr ⟨d,h1,by omega,h3⟩
theorem zz{data:List Nat}{i k:Nat}(m:Nat)(hm:∀d,jw data i d<=m)(h:m<=(dH data i k).1)(j:Nat):dH data i (k+j)=dH data i k:=by
 induction j with
 | zero=>rfl
 | succ j ih=>rw[<-Nat.add_assoc,lN (by rw[ih];have:=hm (k+j+1);omega),ih]
theorem jh{data:List Nat}{i k j:Nat}(h:∀d,k<d->d<=k+j->jw data i d<3):dH data i (k+j)=dH data i k:=by
 induction j with
 | zero=>rfl
 | succ j ih=>rw[<-Nat.add_assoc,lN (.inl (h (k+j+1) (by omega) (by omega))),ih (λd h1 h2=>h d h1 (by omega))]
theorem lF(data:List Nat)(i:Nat):(bD data i=(0,0))\/∃n d,bD data i=(n,d)/\3<=n/\n<=258/\1<=d/\d<=i/\i+n<=data.length/\∀j,j<n->data.getD (i+j) 0=data.getD (i+j-d) 0:=by
 rcases Ez data i i with h | ⟨d,h1,h2,h3,h4⟩
 ·exact .inl h
 ·refine .inr ⟨jw data i d,d,h3,h4,GN data i d,h1,h2,?_,λj hj=>(gh data i d j hj).2⟩;rcases EO data i d with h | h
  ·omega
  ·exact h
def bJ(data:List Nat):Nat->Nat->List TK
 | 0,_=>[]
 | f+1,i=>
  if i<data.length then
   (if (bD data i).1=0\/(bD data i).1<(bD data (i+1)).1 then⟨data.getD i 0,0,0⟩::bJ data f (i+1)
   else⟨0,((bD data i).1:Int),((bD data i).2:Int)⟩::bJ data f (i+(bD data i).1))
  else []
def dG(data:List Nat):List TK:=if 16384<data.length then []else bJ data data.length 0
theorem eB{data:List Nat}{f i:Nat}(h:data.length<=i):bJ data f i=[]:=by
 cases f with
 | zero=>rfl
 | succ f=>rw[bJ,if_neg (by omega)]
theorem iQ{data:List Nat}{f i:Nat}(h:i<data.length)(hm:(bD data i).1=0\/(bD data i).1<(bD data (i+1)).1):bJ data (f+1) i=⟨data.getD i 0,0,0⟩::bJ data f (i+1):=by rw[bJ,if_pos h,if_pos hm]
theorem iT{data:List Nat}{f i:Nat}(h:i<data.length)(hm:¬((bD data i).1=0\/(bD data i).1<(bD data (i+1)).1)):bJ data (f+1) i=⟨0,((bD data i).1:Int),((bD data i).2:Int)⟩::bJ data f (i+(bD data i).1):=by rw[bJ,if_pos h,if_neg hm]
theorem CC{data:List Nat}{f g i:Nat}(hf:data.length-i<=f)(hg:data.length-i<=g):bJ data f i=bJ data g i:=by
 induction f generalizing g i with
 | zero=>rw[eB (by omega),eB (by omega)]
 | succ f ih=>
  by_cases h:i<data.length
  ·obtain⟨g,rfl⟩:∃g',g=g'+1:=⟨g-1,by omega⟩
   by_cases hm:(bD data i).1=0\/(bD data i).1<(bD data (i+1)).1
   ·rw[iQ h hm,iQ h hm,ih (g:=g) (by omega) (by omega)]
   ·rw[iT h hm,iT h hm,ih (g:=g) (by omega) (by omega)]
  ·rw[eB (by omega),eB (by omega)]
def xO(data:List Nat)(q a b c:Nat):Bool:=data.getD q 0==a && data.getD (q+1) 0==b && data.getD (q+2) 0==c
theorem xI(data:List Nat)(q a b c:Nat):xO data q a b c=true↔(data.getD q 0=a/\data.getD (q+1) 0=b/\data.getD (q+2) 0=c):=by simp[xO,and_assoc]
def iS(data:List Nat)(a b c:Nat):Nat->Option Nat
 | 0=>none
 | i+1=>if xO data i a b c=true then some i else iS data a b c i
theorem zr{data:List Nat}{a b c i q:Nat}(h:iS data a b c i=some q):q<i/\xO data q a b c=true/\∀p,q<p->p<i->xO data p a b c=false:=by
 induction i with
 | zero=>cases h
 | succ i ih=>
  unfold iS at h;split at h
  ·rename_i h1;simp only[Option.some.injEq]at h;subst h;exact⟨by omega,h1,λp h2 h3=>by omega⟩
  ·rename_i h1;obtain⟨g1,g2,g3⟩:=ih h;refine⟨by omega,g2,λp h2 h3=>?_⟩;by_cases hp:p=i
   ·subst hp;simpa using h1
   ·exact g3 p h2 (by omega)
theorem zU{data:List Nat}{a b c i:Nat}(h:iS data a b c i=none):∀p,p<i->xO data p a b c=false:=by
 induction i with
 | zero=>intro p hp;omega
 | succ i ih=>
  unfold iS at h;split at h
  ·cases h
  ·rename_i h1;intro p hp;by_cases he:p=i
   ·subst he;simpa using h1
   ·exact ih h p (by omega)
def oH(data:List Nat)(i:Nat):Int:=
 match iS data (data.getD i 0) (data.getD (i+1) 0) (data.getD (i+2) 0) i with
 | some q=>(q:Int)
 | none=>-1
def nT(data:List Nat):List Int:=(List.range (data.length-2)).map (oH data)
theorem gM(data:List Nat):(nT data).length=data.length-2:=by simp[nT]
theorem Bc(data:List Nat)(i:Nat)(_h:i<data.length-2)(h':i<(nT data).length):(nT data)[i]=oH data i:=by simp[nT]
def eI(data:List Nat)(p i:Nat):Bool:=xO data p (data.getD i 0) (data.getD (i+1) 0) (data.getD (i+2) 0)
theorem iO(data:List Nat)(p i:Nat):eI data p i=true↔(data.getD p 0=data.getD i 0/\data.getD (p+1) 0=data.getD (i+1) 0/\data.getD (p+2) 0=data.getD (i+2) 0):=xI _ _ _ _ _
theorem jR{data:List Nat}{p q i:Nat}(h:eI data q i=true):eI data p i=eI data p q:=by have h1:=(iO data q i).1 h;rw[Bool.eq_iff_iff,iO,iO,h1.1,h1.2.1,h1.2.2]
theorem kj(data:List Nat)(i:Nat):(∃q:Nat,oH data i=q/\q<i/\eI data q i=true/\∀p,q<p->p<i->eI data p i=false)\/(oH data i=-1/\∀p,p<i->eI data p i=false):=by
 unfold oH;split
 ·rename_i q h;exact .inl ⟨q,rfl,zr h⟩
 ·rename_i h;exact .inr ⟨rfl,zU h⟩
theorem kz{data:List Nat}{i d:Nat}(hd:d<=i)(h:eI data (i-d) i=false):jw data i d<3:=by
 refine Nat.lt_of_not_le (λhc=>?_);have h0:=(gh data i d 0 (by omega)).2;have h1:=(gh data i d 1 (by omega)).2;have h2:=(gh data i d 2 (by omega)).2;have:eI data (i-d) i=true:=by
  rw[iO];refine⟨?_,?_,?_⟩
  ·rw[show i-d=i+0-d by omega];exact h0.symm
  ·rw[show i-d+1=i+1-d by omega];exact h1.symm
  ·rw[show i-d+2=i+2-d by omega];exact h2.symm
 rw[h]at this;cases this
def Found(data:List Nat)(i:Nat)(fr:Int)(n d:Nat):Prop:=(n,d)=dH data i ((i:Int)-1-fr).toNat
theorem Found.start{data:List Nat}{i:Nat}:Found data i (oH data i) 0 0:=by
 unfold Found;rcases kj data i with⟨q,h1,h2,h3,h4⟩ | ⟨h1,h2⟩
 ·rw[h1,show((i:Int)-1-(q:Int)).toNat=0+(i-1-q)by omega,jh]
  ·rfl
  ·intro d Cb pa;exact kz (by omega) (h4 (i-d) (by omega) (by omega))
 ·rw[h1,show((i:Int)-1-(-1)).toNat=0+i by omega,jh]
  ·rfl
  ·intro d Cb pa;exact kz (by omega) (h2 (i-d) (by omega))
theorem Found.next{data:List Nat}{i q n d:Nat}(hq:q<i)(hs:eI data q i=true)(h:(n,d)=dH data i (i-q)):Found data i (oH data q) n d:=by
 unfold Found;rcases kj data q with⟨p,h1,h2,h3,h4⟩ | ⟨h1,h2⟩
 ·rw[h1,show((i:Int)-1-(p:Int)).toNat=(i-q)+(q-1-p)by omega,jh]
  ·exact h
  ·intro e V1 LE;refine kz (by omega) ?_;rw[jR hs];exact h4 (i-e) (by omega) (by omega)
 ·rw[h1,show((i:Int)-1-(-1)).toNat=(i-q)+q by omega,jh]
  ·exact h
  ·intro e V1 LE;refine kz (by omega) ?_;rw[jR hs];exact h2 (i-e) (by omega)
theorem Found.done{data:List Nat}{i n d:Nat}(h:Found data i (-1) n d):(n,d)=bD data i:=by unfold Found at h;rw[show((i:Int)-1-(-1)).toNat=i by omega]at h;exact h
theorem Found.at{data:List Nat}{i q n d:Nat}(hq:q<i)(h:Found data i (q:Int) n d):(n,d)=dH data i (i-q-1):=by unfold Found at h;rw[show((i:Int)-1-(q:Int)).toNat=i-q-1 by omega]at h;exact h
theorem Found.not{data:List Nat}{i q n d:Nat}(hq:q<i)(hs:eI data q i=true)(h:Found data i (q:Int) n d)(hm:jw data i (i-q)<=n):Found data i (oH data q) n d:=by
 refine Found.next hq hs ?_
 have h1:=h.at hq;have e:i-q=(i-q-1)+1:=by omega
 rw[e,lN (.inr (by rw[<-h1,<-e];exact hm))];exact h1
theorem Found.more{data:List Nat}{i q n d:Nat}(hq:q<i)(hs:eI data q i=true)(h:Found data i (q:Int) n d)(h3:3<=jw data i (i-q))(hm:n<jw data i (i-q)):Found data i (oH data q) (jw data i (i-q)) (i-q)/\dH data i (i-q)=(jw data i (i-q),i-q):=by
 have h1:=h.at hq;have e:i-q=(i-q-1)+1:=by omega
 have hb:dH data i (i-q)=(jw data i (i-q),i-q):=by have:=zA (data:=data) (i:=i) (k:=i-q-1) (by rw[<-e];exact h3) (by rw[<-h1,<-e];exact hm);rw[<-e]at this;exact this
 exact⟨Found.next hq hs hb.symm,hb⟩
theorem Found.full{data:List Nat}{i q n d m:Nat}(hq:q<i)(hs:eI data q i=true)(h:Found data i (q:Int) n d)(hm:jw data i (i-q)=m)(h3:3<=m)(hn:n<m)(LN:∀e,jw data i e<=m):(m,i-q)=bD data i:=by have h1:=(h.more hq hs (by omega) (by omega)).2;unfold bD;have:=zz (data:=data) (i:=i) (k:=i-q) m LN (by rw[h1];simp only;omega) q;rw[show i-q+q=i by omega]at this;rw[this,h1,hm]
theorem JI(data:List Nat)(i d:Nat)(h:i<=data.length):jw data i d<=min 258 (data.length-i):=by have h1:=GN data i d;rcases EO data i d with h2 | h2<;>omega
theorem yD{data:List Nat}{i:Nat}(h:data.length<i+3):bD data i=(0,0):=by
 rcases lF data i with h1 | ⟨n,d,_,h3,_,_,_,h4,_⟩
 ·exact h1
 ·omega
theorem nS(data:List Nat)(i:Nat)(h:i<data.length):data.take (i+1)=data.take i++[data.getD i 0]:=by rw[List.take_succ_eq_append_getElem h];simp[List.getD,h]
theorem Fu{data:List Nat}{i d:Nat}(hd:1<=d)(pa:d<=i)(n:Nat)(hn:i+n<=data.length)(h:∀j,j<n->data.getD (i+j) 0=data.getD (i+j-d) 0):Db d n (data.take i)=data.take (i+n):=by
 induction n with
 | zero=>rfl
 | succ n ih=>
  have hl:(data.take (i+n)).length=i+n:=(by rw[List.length_take];omega);rw[Gn,ih (by omega) (λj hj=>h j (by omega)),hl,<-Nat.add_assoc,nS data (i+n) (by omega),h n (by omega)];have:(data.take (i+n)).getD (i+n-d) 0=data.getD (i+n-d) 0:=(by simp only[List.getD];rw[List.getElem?_take_of_lt (by omega)]);rw[this]
theorem sW{data:List Nat}{f i:Nat}(h:i<data.length):∃(t:TK) (n:Nat),bJ data (f+1) i=t::bJ data f (i+n)/\o5 t i=true/\oW t=n/\1<=n/\i+n<=data.length/\mD (data.take i) t=data.take (i+n)/\(t.len=0->t.lit=data.getD i 0/\n=1):=by
 rcases lF data i with h0 | ⟨n,d,h0,h1,h2,h3,h4,h5,h6⟩
 ·refine⟨⟨data.getD i 0,0,0⟩,1,iQ h (.inl (by rw[h0])),rfl,rfl,by omega,by omega,?_,λ_=>⟨rfl,rfl⟩⟩;unfold mD;rw[if_pos rfl,nS data i h]
 ·by_cases hm:(bD data i).1=0\/(bD data i).1<(bD data (i+1)).1
  ·refine⟨⟨data.getD i 0,0,0⟩,1,iQ h hm,rfl,rfl,by omega,by omega,?_,λ_=>⟨rfl,rfl⟩⟩;unfold mD;rw[if_pos rfl,nS data i h]
  ·refine⟨⟨0,(n:Int),(d:Int)⟩,n,by rw[iT h hm,h0],?_,?_,by omega,h5,?_,λe=>?_⟩
   ·unfold o5;rw[if_neg (by simp;omega)];simp;omega
   ·unfold oW;simp only;omega
   ·unfold mD;rw[if_neg (by simp;omega)];exact Fu h3 h4 n h5 h6
   ·simp at e;omega
theorem CX{data:List Nat}{f i:Nat}(hf:data.length-i<=f)(hi:i<=data.length):xj (bJ data f i) (data.take i)=data:=by
 induction f generalizing i with
 | zero=>rw[eB (by omega),show i=data.length by omega,List.take_length];rfl
 | succ f ih=>
  by_cases h:i<data.length
  ·obtain⟨t,n,e,_,_,h1,h2,h3,_⟩:=sW (f:=f) h;rw[e];show xj (bJ data f (i+n)) (mD (data.take i) t)=data;rw[h3];exact ih (by omega) h2
  ·rw[eB (by omega),show i=data.length by omega,List.take_length];rfl
theorem zS{data:List Nat}{f i most:Nat}(hf:data.length-i<=f)(hi:i<=data.length)(hm:data.length<=most):b7 most (bJ data f i) i=.ok data.length:=by
 induction f generalizing i with
 | zero=>rw[eB (by omega),show i=data.length by omega];rfl
 | succ f ih=>
  by_cases h:i<data.length
  ·obtain⟨t,n,e,m7,ht,h1,h2,_,_⟩:=sW (f:=f) h;rw[e,b7,if_neg (by rw[m7];decide),ht,if_neg (by omega)];exact ih (by omega) h2
  ·rw[eB (by omega),show i=data.length by omega];rfl
end Go.Proofs.YtllcnlnbpikhdaaGreatDoor
