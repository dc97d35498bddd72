
namespace Go.Proofs.YtkhagfgineifhaaGreatDoor

def aO : List Nat → Nat
  | [] => 0
  | b :: r => b + 256 * aO r

def n2 : List Nat → Nat
  | [] => 0
  | b :: r => b + 2 * n2 r

theorem fQ (a b : List Nat) : aO (a ++ b) = aO a + 256 ^ a.length * aO b := by
  induction a with
  | nil => simp [aO]
  | cons x r ih =>
    simp only [List.cons_append, aO, ih, List.length_cons, Nat.pow_succ, Nat.mul_add, Nat.add_assoc]
    rw [Nat.mul_comm (256 ^ r.length) 256, Nat.mul_assoc]

theorem dw (a b : List Nat) : n2 (a ++ b) = n2 a + 2 ^ a.length * n2 b := by
  induction a with
  | nil => simp [n2]
  | cons x r ih =>
    simp only [List.cons_append, n2, ih, List.length_cons, Nat.pow_succ, Nat.mul_add, Nat.add_assoc]
    rw [Nat.mul_comm (2 ^ r.length) 2, Nat.mul_assoc]

theorem mL (l : List Nat) (h : ∀ b ∈ l, b < 256) : aO l < 256 ^ l.length := by
  induction l with
  | nil => simp [aO]
  | cons x r ih =>
    have h1 := h x (by simp)
    have h2 := ih (fun b hb => h b (by simp [hb]))
    simp only [aO, List.length_cons, Nat.pow_succ]
    omega

theorem vR (l : List Nat) (h : ∀ b ∈ l, b < 2) : n2 l < 2 ^ l.length := by
  induction l with
  | nil => simp [n2]
  | cons x r ih =>
    have h1 := h x (by simp)
    have h2 := ih (fun b hb => h b (by simp [hb]))
    simp only [n2, List.length_cons, Nat.pow_succ]
    omega

theorem Hp (a b : List Nat) (hl : a.length = b.length) (ha : ∀ x ∈ a, x < 256) (hb : ∀ x ∈ b, x < 256) (h : aO a = aO b) : a = b := by
  induction a generalizing b with
  | nil => cases b with
    | nil => rfl
    | cons => simp at hl
  | cons x r ih => cases b with
    | nil => simp at hl
    | cons y s =>
      have h1 := ha x (by simp)
      have h2 := hb y (by simp)
      simp only [aO] at h
      simp only [List.length_cons, Nat.add_right_cancel_iff] at hl
      have e := ih s hl (fun b jD => ha b (by simp [jD])) (fun b jD => hb b (by simp [jD])) (by omega)
      rw [e]
      congr 1
      omega

theorem Kh (k : Nat) : 256 ^ k = 2 ^ (8 * k) := by rw [Nat.pow_mul]

theorem FF (l : List Nat) (h : ∀ b ∈ l, b < 256) (i : Nat) (hi : i < l.length) : aO l / 2 ^ (8 * i) % 256 = l[i] := by
  rw [← Kh]
  induction l generalizing i with
  | nil => simp at hi
  | cons x r ih =>
    have h1 := h x (by simp)
    cases i with
    | zero => simp [aO]; omega
    | succ k =>
      have := ih (fun b hb => h b (by simp [hb])) k (by simpa using hi)
      simp only [aO, Nat.pow_succ, List.getElem_cons_succ]
      rw [Nat.mul_comm (256 ^ k) 256, ← Nat.div_div_eq_div_mul, show (x + 256 * aO r) / 256 = aO r by omega]
      exact this

theorem Kn (bs : List Nat) (b c free : Nat) (hc : 8 * (bs.length + 1) = c + free) (hf : free ≤ 8) (h : aO (bs ++ [b]) < 2 ^ c) : b < 2 ^ (8 - free) := by
  rw [fQ] at h
  simp only [aO, Nat.mul_zero, Nat.add_zero] at h
  have e : c = 8 * bs.length + (8 - free) := by omega
  rw [e, Nat.pow_add, ← Kh] at h
  have : 256 ^ bs.length * b < 256 ^ bs.length * 2 ^ (8 - free) := by omega
  exact Nat.lt_of_mul_lt_mul_left this

theorem GC (bs : List Nat) (b c free x : Nat) (hc : 8 * (bs.length + 1) = c + free) (hf : free ≤ 8) : aO (bs ++ [b + 2 ^ (8 - free) * x]) = aO (bs ++ [b]) + 2 ^ c * x := by
  have e : c = 8 * bs.length + (8 - free) := by omega
  simp only [fQ, aO, Nat.mul_zero, Nat.add_zero]
  rw [e, Nat.pow_add, ← Kh, Nat.mul_add, Nat.mul_assoc, Nat.add_assoc]

theorem Gs (b k x : Nat) (h : b < 2 ^ k) : b ||| (2 ^ k * x) = b + 2 ^ k * x := by
  rw [Nat.or_comm, ← Nat.two_pow_add_eq_or_of_lt h, Nat.add_comm]

theorem Gc (v free : Nat) (hf : free ≤ 8) : v * 2 ^ (8 - free) % 256 = 2 ^ (8 - free) * (v % 2 ^ free) := by
  have : (256 : Nat) = 2 ^ (8 - free) * 2 ^ free := by rw [← Nat.pow_add]; simp [hf]
  rw [this, Nat.mul_comm, Nat.mul_mod_mul_left]

theorem CO (v k : Nat) : v % 2 ^ k + 2 ^ k * (v / 2 ^ k) = v := by rw [Nat.mod_add_div]

theorem GV (X v n c free : Nat) (hv : v < 2 ^ n) :
    X + 2 ^ c * (v % 2 ^ free) + v / 2 ^ (min free n) * 2 ^ (c + min free n) = X + v * 2 ^ c := by
  by_cases h : free ≤ n
  · rw [Nat.min_eq_left h, Nat.pow_add]
    have e := CO v free
    calc X + 2 ^ c * (v % 2 ^ free) + v / 2 ^ free * (2 ^ c * 2 ^ free) = X + 2 ^ c * (v % 2 ^ free + 2 ^ free * (v / 2 ^ free)) := by
          rw [Nat.mul_add, Nat.add_assoc]; congr 2; rw [Nat.mul_comm, Nat.mul_assoc]
      _ = _ := by rw [e, Nat.mul_comm]
  · have h' : n ≤ free := by omega
    have h2 : v < 2 ^ free := Nat.lt_of_lt_of_le hv (Nat.pow_le_pow_right (by omega) h')
    rw [Nat.min_eq_right h', Nat.div_eq_of_lt hv, Nat.mod_eq_of_lt h2, Nat.zero_mul, Nat.add_zero, Nat.mul_comm]

theorem D0 (Z u k : Nat) (h : u + k ≤ 8) : Z % 256 / 2 ^ u % 2 ^ k = Z / 2 ^ u % 2 ^ k := by
  have e : (256 : Nat) = 2 ^ u * 2 ^ (8 - u) := by rw [← Nat.pow_add, show u + (8 - u) = 8 by omega]
  rw [e, Nat.mod_mul_right_div_self, Nat.mod_mod_of_dvd _ (Nat.pow_dvd_pow 2 (by omega))]

theorem tm (Y a k : Nat) : Y % 2 ^ (a + k) = Y % 2 ^ a + 2 ^ a * (Y / 2 ^ a % 2 ^ k) := by
  rw [Nat.pow_add, Nat.mod_mul]

theorem G9 (bs : List Nat) (hb : ∀ b ∈ bs, b < 256) (g got k : Nat) (hk : (g + got) % 8 + k ≤ 8) (hlt : (g + got) / 8 < bs.length) :
    aO bs / 2 ^ g % 2 ^ got + 2 ^ got * (bs[(g + got) / 8] / 2 ^ ((g + got) % 8) % 2 ^ k) = aO bs / 2 ^ g % 2 ^ (got + k) := by
  have e := FF bs hb _ hlt
  rw [← e, D0 _ _ _ hk, Nat.div_div_eq_div_mul, ← Nat.pow_add, show 8 * ((g + got) / 8) + (g + got) % 8 = g + got by omega, tm, Nat.div_div_eq_div_mul, ← Nat.pow_add]

theorem ye (x k : Nat) : x &&& (2 ^ k - 1) = x % 2 ^ k := Nat.and_two_pow_sub_one_eq_mod x k
def aR(v:Nat):Nat->List Nat
 | 0=>[]
 | n+1=>aR v n++[v / 256 ^ n % 256]
theorem az(v n:Nat):(aR v n).length=n:=by
 induction n with
 | zero=>rfl
 | succ n ih=>simp[aR,ih]
theorem Ez(v n:Nat):aO (aR v n)=v % 256 ^ n:=by
 induction n with
 | zero=>simp[aR,aO,Nat.mod_one]
 | succ n ih=>
  rw[aR,fQ,ih,az,Nat.pow_succ,Nat.mod_mul];simp[aO]
def eG(cs:List Nat)(a n:Nat):Nat:=aO ((cs.drop a).take n)
theorem JP(cs:List Nat)(hb:∀b∈cs,b<256)(a n:Nat):eG cs a n<256 ^ n:=by have h:=mL ((cs.drop a).take n) (λb h=>hb b (List.mem_of_mem_drop (List.mem_of_mem_take h)));exact Nat.lt_of_lt_of_le h (Nat.pow_le_pow_right (by omega) (List.length_take_le _ _))
def jN(r:Nat):Nat:=(r / 2) ^^^ (r % 2*3988292384)
def iZ:Nat->Nat->Nat
 | 0,r=>r
 | n+1,r=>jN (iZ n r)
def dV(r:Nat):Nat:=iZ 8 r
def nO(r:Nat)(bs:List Nat):Nat:=bs.foldl (λr b=>dV (r ^^^ b)) r
def iT(x:Nat):Nat:=4294967295-x
def more(sum:Nat)(bs:List Nat):Nat:=iT (nO (iT sum) bs)
theorem nt(x:Nat):iT x<4294967296:=by unfold iT;omega
theorem Et{x y:Nat}(hx:x<4294967296)(hy:y<4294967296)(h:iT x=iT y):x=y:=by unfold iT at h;omega
theorem kd{a b:Nat}(ha:a<4294967296)(hb:b<4294967296):a ^^^ b<4294967296:=by
 have e:(4294967296:Nat)=2 ^ 32:=by decide
 rw[e]at *
 exact Nat.xor_lt_two_pow ha hb
theorem oJ{a b:Nat}(h:a ^^^ b=0):a=b:=by
 have:a ^^^ b ^^^ b=b:=by rw[h,Nat.zero_xor]
 rwa [Nat.xor_assoc,Nat.xor_self,Nat.xor_zero]at this
theorem JH{r:Nat}(h:r<4294967296):jN r<4294967296:=by
 unfold jN;refine kd (by omega) ?_;have h2:r % 2<=1:=by omega
 have h3:r % 2*3988292384<=1*3988292384:=Nat.mul_le_mul_right _ h2;omega
theorem mD{r:Nat}(h:r<4294967296)(n:Nat):iZ n r<4294967296:=by
 induction n with
 | zero=>exact h
 | succ n ih=>exact JH ih
theorem rB{r:Nat}(h:r<4294967296)(bs:List Nat)(hb:∀b∈bs,b<256):nO r bs<4294967296:=by
 induction bs generalizing r with
 | nil=>exact h
 | cons b s ih=>
  have h1:=hb b (by simp);exact ih (mD (kd h (by omega)) 8) (λx hx=>hb x (by simp[hx]))
theorem wM(r:Nat)(bs:List Nat)(b:Nat):nO r (bs++[b])=dV (nO r bs ^^^ b):=by simp[nO]
theorem qU(r:Nat)(a b:List Nat):nO r (a++b)=nO (nO r a) b:=by simp[nO]
theorem JU(s:Nat)(a:List Nat):more s a<4294967296:=nt _
theorem GO(a b:Nat):jN (a ^^^ b)=jN a ^^^ jN b:=by
 have h1:(a ^^^ b) / 2=(a / 2) ^^^ (b / 2):=by have:=Nat.shiftRight_xor_distrib (a:=a) (b:=b) (i:=1);simpa[Nat.shiftRight_eq_div_pow]using this
 have h2:(a ^^^ b) % 2=(a % 2) ^^^ (b % 2):=by have:=Nat.xor_mod_two_pow (a:=a) (b:=b) (n:=1);simpa using this
 have h3:((a % 2) ^^^ (b % 2))*3988292384=(a % 2*3988292384) ^^^ (b % 2*3988292384):=by rcases Nat.mod_two_eq_zero_or_one a with e | e<;>rcases Nat.mod_two_eq_zero_or_one b with f | f<;>rw[e,f]<;>decide
 unfold jN;rw[h1,h2,h3];ac_rfl
theorem tg(n a b:Nat):iZ n (a ^^^ b)=iZ n a ^^^ iZ n b:=by
 induction n with
 | zero=>rfl
 | succ n ih=>simp only[iZ,ih,GO]
theorem CX{d:Nat}(hd:d<4294967296)(h:jN d=0):d=0:=by unfold jN at h;have h':=oJ h;rcases Nat.mod_two_eq_zero_or_one d with e | e<;>rw[e]at h'<;>omega
theorem rf{d:Nat}(hd:d<4294967296)(n:Nat)(h:iZ n d=0):d=0:=by
 induction n with
 | zero=>exact h
 | succ n ih=>exact ih (CX (mD hd n) h)
theorem Eb{a b:Nat}(ha:a<4294967296)(hb:b<4294967296)(h:dV a=dV b):a=b:=by refine oJ (rf (kd ha hb) 8 ?_);rw[tg];show dV a ^^^ dV b=0;rw[h,Nat.xor_self]
theorem wI(x:Nat):jN (2*x)=x:=by unfold jN;rw[Nat.mul_mod_right,Nat.zero_mul,Nat.xor_zero];omega
theorem D3(n x:Nat):iZ n (2 ^ n*x)=x:=by
 induction n generalizing x with
 | zero=>simp[iZ]
 | succ n ih=>
  rw[iZ,Nat.pow_succ,Nat.mul_assoc,ih,wI]
theorem vU(z:Nat):dV (256*z)=z:=D3 8 z
theorem DC(ds:List Nat)(hd:∀b∈ds,b<256)(n:Nat)(hn:ds.length+n=4)(z:Nat)(hz:z<256 ^ n)(h:nO 0 ds=z):z=0/\∀b∈ds,b=0:=by
 obtain⟨m,hm⟩:∃m,m=ds.length:=⟨_,rfl⟩
 induction m generalizing ds n z with
 | zero=>
  have e0:ds=[]:=List.eq_nil_of_length_eq_zero hm.symm;subst e0;exact⟨by simpa[nO]using h.symm,by simp⟩
 | succ m ih=>
  obtain⟨es,e,rfl⟩:∃es e,ds=es++[e]:=by
   rcases List.eq_nil_or_concat ds with e0 | ⟨es,e,e0⟩
   ·subst e0;simp at hm
   ·exact⟨es,e,by simpa using e0⟩
  have he:e<256:=hd e (by simp);have UG:∀b∈es,b<256:=λb hb=>hd b (by simp[hb])
  rw[wM]at h;rw[List.length_append,List.length_singleton]at hn;have Zf:256*z<256 ^ (n+1):=(by rw[Nat.pow_succ];omega);have mr:(256:Nat) ^ (n+1)<=256 ^ 4:=Nat.pow_le_pow_right (by omega) (by omega);have QH:256*z<4294967296:=(by omega);have h1:=Eb (kd (rB (by omega) es UG) (by omega)) QH (h.trans (vU z).symm);have h2:nO 0 es=256*z+e:=by
   have h3:nO 0 es=(256*z) ^^^ e:=(by rw[<-h1,Nat.xor_assoc,Nat.xor_self,Nat.xor_zero]);rw[h3];have h4:=Nat.two_pow_add_eq_or_of_lt (i:=8) he z;have h5:(256*z) ^^^ e=(256*z) ||| e:=by
    apply Nat.eq_of_testBit_eq;intro i;have t1:(256*z).testBit i=(decide (8<=i) && z.testBit (i-8)):=(by rw[show 256*z=z*2 ^ 8 by omega];exact Nat.testBit_mul_two_pow z i 8);rw[Nat.testBit_xor,Nat.testBit_or,t1];by_cases hi:8<=i
    ·have:e.testBit i=false:=Nat.testBit_lt_two_pow (Nat.lt_of_lt_of_le he (Nat.pow_le_pow_right (n:=2) (by omega) hi));simp[this]
    ·simp[hi]
   rw[h5];exact h4.symm
  have h6:256*z+e<256 ^ (n+1):=(by rw[Nat.pow_succ];omega);obtain⟨h7,h8⟩:=ih es UG (n+1) (by omega) _ h6 h2 (by simpa using hm);refine⟨by omega,?_⟩;intro b hb;rcases List.mem_append.1 hb with hb | hb
  ·exact h8 b hb
  ·simp at hb;omega
theorem Kw(a c:Nat)(xs ys:List Nat)(hl:xs.length=ys.length):nO a xs ^^^ nO c ys=nO (a ^^^ c) (List.zipWith (· ^^^ ·) xs ys):=by
 induction xs generalizing a c ys with
 | nil=>cases ys with
  | nil=>rfl
  | cons=>simp at hl
 | cons x r ih=>cases ys with
  | nil=>simp at hl
  | cons y s=>
   simp only[List.length_cons,Nat.add_right_cancel_iff]at hl;have e:=ih (dV (a ^^^ x)) (dV (c ^^^ y)) s hl;have e2:dV (a ^^^ x) ^^^ dV (c ^^^ y)=dV (a ^^^ c ^^^ (x ^^^ y)):=by unfold dV;rw[<-tg];congr 1;ac_rfl
   show nO (dV (a ^^^ x)) r ^^^ nO (dV (c ^^^ y)) s=nO (dV (a ^^^ c ^^^ (x ^^^ y))) (List.zipWith (· ^^^ ·) r s);rw[e,e2]
theorem At:dV 0=0:=by decide
theorem CK(n:Nat):nO 0 (List.replicate n 0)=0:=by
 induction n with
 | zero=>rfl
 | succ n ih=>
  rw[List.replicate_succ];show nO (dV (0 ^^^ 0)) _=0;rw[Nat.xor_self,At];exact ih
theorem rT(n d:Nat)(hd:d<4294967296)(h:nO d (List.replicate n 0)=0):d=0:=by
 induction n generalizing d with
 | zero=>exact h
 | succ n ih=>
  rw[List.replicate_succ]at h;have h':nO (dV (d ^^^ 0)) (List.replicate n 0)=0:=h;rw[Nat.xor_zero]at h';exact rf hd 8 (ih _ (mD hd 8) h')
theorem Dd(r:Nat)(xs ys:List Nat)(hl:xs.length=ys.length)(a n:Nat)(ds:List Nat)(hd:∀b∈ds,b<256)(h4:ds.length≤4)
  (hz:List.zipWith (· ^^^ ·) xs ys=List.replicate a 0++ds++List.replicate n 0) (h:nO r xs=nO r ys):∀b∈ds,b=0:=by
 have e:=Kw r r xs ys hl;rw[h,Nat.xor_self,Nat.xor_self,hz,qU,qU,CK]at e;have h0:=rT n _ (rB (by omega) ds hd) e.symm;exact(DC ds hd (4-ds.length) (by omega) 0 (Nat.pow_pos (by omega)) h0).2
structure Mk where
 way:Nat
 sum:Nat
 packed:Nat
 size:Nat
 name:List Nat
deriving DecidableEq
def fi(n:Nat)(r:List Nat):Option (List Nat×List Nat):=if n<=r.length then some (r.take n,r.drop n)else none
def dY(n:Nat)(r:List Nat):Option (Nat×List Nat):=match fi n r with
 | none=>none
 | some p=>some (aO p.1,p.2)
def eX(n v:Nat)(r:List Nat):Option (List Nat):=match dY n r with
 | none=>none
 | some p=>if p.1=v then some p.2 else none
def dh{α β:Type}(o:Option α)(f:α->Option β):Option β:=match o with
 | none=>none
 | some x=>f x
theorem aA{α β:Type}{o:Option α}{f:α->Option β}{x:α}(h:o=some x):dh o f=f x:=by rw[h];rfl
theorem td{α β:Type}{o:Option α}{f:α->Option β}(h:o=none):dh o f=none:=by rw[h];rfl
def fH(r:List Nat):Option ((Mk×Nat)×List Nat):=
 dh (fi 2 r) λa=>dh (eX 2 0 a.2) λr=>dh (dY 2 r) λway=>dh (fi 4 way.2) λa=>
 dh (dY 4 a.2) λsum=>dh (dY 4 sum.2) λpacked=>dh (dY 4 packed.2) λsize=>dh (dY 2 size.2) λlong=>
 dh (eX 2 0 long.2) λr=>some ((⟨way.1,sum.1,packed.1,size.1,[]⟩,long.1),r)
def Mk.named(m:Mk)(s:List Nat):Mk:=⟨m.way,m.sum,m.packed,m.size,s⟩
def ii(r:List Nat):Option ((Mk×Nat)×List Nat):=
 dh (eX 4 33639248 r) λr=>dh (fi 2 r) λa=>dh (fH a.2) λl=>dh (eX 2 0 l.2) λr=>dh (eX 2 0 r) λr=>
 dh (fi 6 r) λa=>dh (dY 4 a.2) λat'=>dh (fi l.1.2 at'.2) λs=>some ((l.1.1.named s.1,at'.1),s.2)
def o0(m:Mk)(r:List Nat):Option (List Nat):=
 dh (eX 4 67324752 r) λr=>dh (fH r) λl=>dh (fi l.1.2 l.2) λs=>if l.1.1.named s.1=m then some s.2 else none
def kq(m:Mk)(r:List Nat):Option (List Nat×List Nat):=dh (o0 m r) λr=>fi m.packed r
def im(m:Mk):List Nat:=aR 20 2++(aR 0 2++(aR m.way 2++(aR 0 2++(aR 33 2++(aR m.sum 4++(aR m.packed 4++(aR m.size 4++(aR m.name.length 2++aR 0 2))))))))
def ig(m:Mk):List Nat:=aR 67324752 4++(im m++m.name)
def k9(m:Mk)(at':Nat):List Nat:=aR 33639248 4++(aR 20 2++(im m++(aR 0 2++(aR 0 2++(aR 0 2++(aR 0 4++(aR at' 4++m.name)))))))
def eO(n long first:Nat):List Nat:=aR 101010256 4++(aR 0 2++(aR 0 2++(aR n 2++(aR n 2++(aR long 4++(aR first 4++aR 0 2))))))
structure gN(m:Mk):Prop where
 way:m.way<65536
 sum:m.sum<4294967296
 packed:m.packed<4294967296
 size:m.size<4294967296
 name:m.name.length<65536
theorem ir(a r:List Nat){n:Nat}(h:a.length=n):fi n (a++r)=some (a,r):=by subst h;unfold fi;rw[if_pos (by simp),List.take_left,List.drop_left]
theorem fC(v n:Nat)(r:List Nat)(h:v<256 ^ n):dY n (aR v n++r)=some (v,r):=by unfold dY;rw[ir _ _ (az v n)];simp only;rw[Ez,Nat.mod_eq_of_lt h]
theorem eB(v n:Nat)(r:List Nat)(h:v<256 ^ n):eX n v (aR v n++r)=some r:=by unfold eX;rw[fC v n r h];simp
theorem xq(m:Mk)(h:gN m)(r:List Nat):fH (im m++r)=some ((m.named [],m.name.length),r):=by unfold fH im;simp only[List.append_assoc];rw[aA (ir _ _ (az 20 2))];simp only;rw[aA (eB 0 2 _ (by decide)),aA (fC m.way 2 _ h.way)];simp only;rw[show aR 0 2++(aR 33 2++(aR m.sum 4++(aR m.packed 4++(aR m.size 4++(aR m.name.length 2++(aR 0 2++r))))))=(aR 0 2++aR 33 2)++(aR m.sum 4++(aR m.packed 4++(aR m.size 4++(aR m.name.length 2++(aR 0 2++r)))))by simp];rw[aA (ir _ _ (by simp[az]))];simp only;rw[aA (fC m.sum 4 _ h.sum)];simp only;rw[aA (fC m.packed 4 _ h.packed)];simp only;rw[aA (fC m.size 4 _ h.size)];simp only;rw[aA (fC m.name.length 2 _ h.name)];simp only;rw[aA (eB 0 2 _ (by decide))];rfl
theorem Mk.named_self(m:Mk):(m.named []).named m.name=m:=rfl
theorem FK(m:Mk)(h:gN m)(at':Nat)(ha:at'<4294967296)(r:List Nat):ii (k9 m at'++r)=some ((m,at'),r):=by unfold ii k9;simp only[List.append_assoc];rw[aA (eB 33639248 4 _ (by decide)),aA (ir _ _ (az 20 2))];simp only;rw[aA (xq m h _)];simp only;rw[aA (eB 0 2 _ (by decide)),aA (eB 0 2 _ (by decide))];rw[show aR 0 2++(aR 0 4++(aR at' 4++(m.name++r)))=(aR 0 2++aR 0 4)++(aR at' 4++(m.name++r))by simp];rw[aA (ir _ _ (by simp[az]))];simp only;rw[aA (fC at' 4 _ ha)];simp only;rw[aA (ir _ _ rfl)];rfl
theorem FO(m:Mk)(h:gN m)(r:List Nat):o0 m (ig m++r)=some r:=by unfold o0 ig;simp only[List.append_assoc];rw[aA (eB 67324752 4 _ (by decide)),aA (xq m h _)];simp only;rw[aA (ir _ _ rfl)];simp only;rw[Mk.named_self,if_pos rfl]
theorem FZ(m:Mk)(h:gN m)(b r:List Nat)(hb:b.length=m.packed):kq m (ig m++(b++r))=some (b,r):=by unfold kq;rw[aA (FO m h _),ir _ _ hb]
theorem oI(m:Mk):(im m).length=26:=by simp[im,az]
theorem oU(m:Mk):(ig m).length=30+m.name.length:=by simp[ig,oI,az];omega
theorem yn(m:Mk)(a:Nat):(k9 m a).length=46+m.name.length:=by simp[k9,oI,az];omega
theorem vG(n l f:Nat):(eO n l f).length=22:=by simp[eO,az]
theorem Ku{β:Type}(n o:Nat)(r:List Nat)(hn:0<n)(f:List Nat×List Nat->Option β):dh (fi n (r.drop o)) f=if o+n<=r.length then f ((r.drop o).take n,r.drop (o+n))else none:=by
 unfold fi;rw[List.length_drop,List.drop_drop];by_cases h:o+n<=r.length
 ·rw[if_pos (by omega),if_pos h];rfl
 ·rw[if_neg (by omega),if_neg h];rfl
theorem Kz{β:Type}(n o:Nat)(r:List Nat)(hn:0<n)(f:Nat×List Nat->Option β):dh (dY n (r.drop o)) f=if o+n<=r.length then f (eG r o n,r.drop (o+n))else none:=by
 unfold dY fi;rw[List.length_drop,List.drop_drop];by_cases h:o+n<=r.length
 ·rw[if_pos (by omega),if_pos h];rfl
 ·rw[if_neg (by omega),if_neg h];rfl
theorem BT{β:Type}(n v o:Nat)(r:List Nat)(hn:0<n)(f:List Nat->Option β):dh (eX n v (r.drop o)) f=if o+n<=r.length then(if eG r o n=v then f (r.drop (o+n))else none)else none:=by
 unfold eX dY fi;rw[List.length_drop,List.drop_drop];by_cases h:o+n<=r.length
 ·rw[if_pos (by omega),if_pos h];simp only;by_cases h2:eG r o n=v
  ·rw[if_pos h2,if_pos (by exact h2)];rfl
  ·rw[if_neg h2,if_neg (by exact h2)];rfl
 ·rw[if_neg (by omega),if_neg h];rfl
def Ks(r:List Nat)(o:Nat):Mk:=⟨eG r (o+4) 2,eG r (o+10) 4,eG r (o+14) 4,eG r (o+18) 4,[]⟩
theorem J9{β:Type}(r:List Nat)(o:Nat)(f:(Mk×Nat)×List Nat->Option β):dh (fH (r.drop o)) f=if o+26<=r.length/\eG r (o+2) 2=0/\eG r (o+24) 2=0 then f ((Ks r o,eG r (o+22) 2),r.drop (o+26))else none:=by
 unfold fH;simp only[Ku,Kz,BT,Nat.add_assoc,Nat.reduceAdd,show(0:Nat)<2 by decide,show(0:Nat)<4 by decide];by_cases TX:o+26<=r.length
 ·rw[if_pos (by omega),if_pos (by omega)];by_cases h1:eG r (o+2) 2=0
  ·rw[if_pos h1,if_pos (by omega),if_pos (by omega),if_pos (by omega),if_pos (by omega),if_pos (by omega),if_pos (by omega),if_pos (by omega)];by_cases h2:eG r (o+24) 2=0
   ·rw[if_pos h2,if_pos ⟨TX,h1,h2⟩];rfl
   ·rw[if_neg h2,if_neg (λh=>h2 h.2.2)];rfl
  ·rw[if_neg h1,if_neg (λh=>h1 h.2.1)];rfl
 ·conv=>rhs;rw[if_neg (λh=>TX h.1)]
  repeat' split
  all_goals first | rfl | omega
theorem Js(m:Mk)(r:List Nat):o0 m r=if 30<=r.length/\eG r 0 4=67324752/\eG r 6 2=0/\eG r 28 2=0/\30+eG r 26 2<=r.length/\(Ks r 4).named ((r.drop 30).take (eG r 26 2))=m then some (r.drop (30+eG r 26 2))else none:=by
 have h0:r=r.drop 0:=rfl;unfold o0;conv=>lhs;rw[h0]
 simp only[BT,J9,Nat.zero_add,Nat.reduceAdd,show(0:Nat)<4 by decide];by_cases TL:30<=r.length
 ·by_cases h1:eG r 0 4=67324752
  ·by_cases h2:eG r 6 2=0
   ·by_cases h3:eG r 28 2=0
    ·rw[if_pos (by omega),if_pos h1,if_pos ⟨by omega,h2,h3⟩];unfold fi;rw[List.length_drop,List.drop_drop];by_cases h6:30+eG r 26 2<=r.length
     ·rw[if_pos (by omega)];show(if (Ks r 4).named ((r.drop 30).take (eG r 26 2))=m then some (r.drop (30+eG r 26 2))else none)=_;by_cases h7:(Ks r 4).named ((r.drop 30).take (eG r 26 2))=m
      ·rw[if_pos h7,if_pos ⟨TL,h1,h2,h3,h6,h7⟩]
      ·rw[if_neg h7,if_neg (λh=>h7 h.2.2.2.2.2)]
     ·rw[if_neg (by omega),if_neg (λh=>h6 h.2.2.2.2.1)];rfl
    ·conv=>rhs;rw[if_neg (λh=>h3 h.2.2.2.1)]
     repeat' split
     all_goals first | rfl | omega | (exfalso;exact h3 (And.right (And.right (by assumption))))
   ·conv=>rhs;rw[if_neg (λh=>h2 h.2.2.1)]
    repeat' split
    all_goals first | rfl | omega | (exfalso;exact h2 (And.left (And.right (by assumption))))
  ·conv=>rhs;rw[if_neg (λh=>h1 h.2.1)]
   repeat' split
   all_goals first | rfl | omega | (exfalso;exact h1 (by assumption))
 ·conv=>rhs;rw[if_neg (λh=>TL h.1)]
  repeat' split
  all_goals first | rfl | omega
def aj(v:Nat):Nat->List Nat
 | 0=>[]
 | n+1=>aj v n++[v / 2 ^ n % 2]
theorem af(v n:Nat):(aj v n).length=n:=by
 induction n with
 | zero=>rfl
 | succ n ih=>simp[aj,ih]
theorem ei(v n:Nat):∀b∈aj v n,b<2:=by
 induction n with
 | zero=>simp[aj]
 | succ n ih=>
  intro b hb;rcases List.mem_append.1 hb with h | h
  ·exact ih b h
  ·simp at h;omega
theorem eh(v n:Nat):n2 (aj v n)=v % 2 ^ n:=by
 induction n with
 | zero=>simp[aj,n2,Nat.mod_one]
 | succ n ih=>
  rw[tm v n 1,aj,dw,ih,af];simp[n2]
theorem Ha(n:Nat):n2 (List.replicate n 0)=0:=by
 induction n with
 | zero=>rfl
 | succ n ih=>simp[List.replicate_succ,n2,ih]
theorem Mi(ls:List Nat)(v n:Nat)(h:v<2 ^ n):n2 (ls++aj v n)=n2 ls+v*2 ^ ls.length:=by rw[dw,eh,Nat.mod_eq_of_lt h,Nat.mul_comm]
theorem qI(ls:List Nat)(n:Nat):n2 (ls++List.replicate n 0)=n2 ls:=by rw[dw,Ha];simp
theorem qT(ls:List Nat)(h:∀b∈ls,b<2)(i t:Nat):n2 ((ls.drop i).take t)<2 ^ t:=by have h1:=vR ((ls.drop i).take t) (λb hb=>h b (List.mem_of_mem_drop (List.mem_of_mem_take hb)));exact Nat.lt_of_lt_of_le h1 (Nat.pow_le_pow_right (by omega) (List.length_take_le _ _))
def ae:List Nat->List Nat
 | []=>[]
 | b::r=>aj b 8++ae r
theorem ks(a b:List Nat):ae (a++b)=ae a++ae b:=by
 induction a with
 | nil=>rfl
 | cons x r ih=>simp[ae,ih]
theorem aB(l:List Nat):(ae l).length=8*l.length:=by
 induction l with
 | nil=>rfl
 | cons x r ih=>simp[ae,ih,af];omega
theorem ay(l:List Nat):∀b∈ae l,b<2:=by
 induction l with
 | nil=>simp[ae]
 | cons x r ih=>
  intro b hb;rcases List.mem_append.1 hb with h | h
  ·exact ei x 8 b h
  ·exact ih b h
theorem qf(l:List Nat)(h:∀b∈l,b<256):n2 (ae l)=aO l:=by
 induction l with
 | nil=>rfl
 | cons x r ih=>
  have h1:=h x (by simp);rw[ae,dw,eh,af,ih (λb hb=>h b (by simp[hb])),aO,show(2:Nat) ^ 8=256 from rfl,Nat.mod_eq_of_lt h1]
theorem BE(ls:List Nat)(h:∀b∈ls,b<2)(a n:Nat)(hl:a+n<=ls.length):n2 ((ls.drop a).take n)=n2 ls / 2 ^ a % 2 ^ n:=by
 have e1:n2 ls=n2 (ls.take a)+2 ^ a*n2 (ls.drop a):=by have:=dw (ls.take a) (ls.drop a);rw[List.take_append_drop,List.length_take,Nat.min_eq_left (by omega)]at this;exact this
 have h1:n2 (ls.take a)<2 ^ a:=by have:=vR (ls.take a) (λb hb=>h b (List.mem_of_mem_take hb));rw[List.length_take,Nat.min_eq_left (by omega)]at this;exact this
 have e2:n2 (ls.drop a)=n2 ((ls.drop a).take n)+2 ^ n*n2 ((ls.drop a).drop n):=by have:=dw ((ls.drop a).take n) ((ls.drop a).drop n);rw[List.take_append_drop,List.length_take,List.length_drop,Nat.min_eq_left (by omega)]at this;exact this
 have h2:=qT ls h a n;rw[e1,Nat.add_mul_div_left _ _ (Nat.two_pow_pos _),Nat.div_eq_of_lt h1,Nat.zero_add,e2,Nat.add_mul_mod_self_left,Nat.mod_eq_of_lt (show n2 (List.take n (List.drop a ls))<2 ^ n from h2)]
structure TK where
 lit:Nat
 len:Int
 dist:Int
deriving DecidableEq
def pe(t:TK)(said:Nat):Bool:=
 if t.len=0 then decide (t.dist=0)else decide (t.lit=0/\3<=t.len/\t.len<=258/\1<=t.dist/\t.dist<=(said:Int))
def pc(t:TK):Nat:=(max t.len 1).toNat
def ce(most:Nat):List TK->Nat->Except Nat Nat
 | [],said=>.ok said
 | t::r,said=>if pe t said=false then .error 60 else if most<said+pc t then .error 2 else ce most r (said+pc t)
def Ew(far:Nat):Nat->List Nat->List Nat
 | 0,out=>out
 | n+1,out=>Ew far n (out++[out.getD (out.length-far) 0])
def mM(out:List Nat)(t:TK):List Nat:=if t.len=0 then out++[t.lit]else Ew t.dist.toNat t.len.toNat out
def xT(ts:List TK)(out:List Nat):List Nat:=ts.foldl mM out
theorem zy(far n:Nat)(out:List Nat):(Ew far n out).length=out.length+n:=by
 induction n generalizing out with
 | zero=>rfl
 | succ n ih=>rw[Ew,ih,List.length_append];simp;omega
theorem Fi(far n:Nat)(out:List Nat):Ew far (n+1) out=Ew far n out++[(Ew far n out).getD ((Ew far n out).length-far) 0]:=by
 induction n generalizing out with
 | zero=>rfl
 | succ n ih=>rw[Ew,ih,Ew]
theorem fa{t:TK}{said:Nat}(h:pe t said=true):(t.len=0/\t.dist=0/\pc t=1)\/(∃n d:Nat,t.len=n/\t.dist=d/\t.lit=0/\3<=n/\n<=258/\1<=d/\d<=said/\pc t=n):=by
 unfold pe at h;split at h
 ·rename_i h0;refine .inl ⟨h0,by simpa using h,?_⟩;unfold pc;rw[h0];rfl
 ·have h:=of_decide_eq_true h;refine .inr ⟨t.len.toNat,t.dist.toNat,by omega,by omega,h.1,by omega,by omega,by omega,by omega,?_⟩;unfold pc;omega
theorem FS(t:TK):1<=pc t:=by unfold pc;omega
theorem xM{t:TK}{said:Nat}(h:pe t said=true)(out:List Nat):(mM out t).length=out.length+pc t:=by
 unfold mM;rcases fa h with⟨h0,_,h1⟩ | ⟨n,d,h0,_,_,h3,_,_,_,h1⟩
 ·rw[if_pos h0,h1];simp
 ·rw[if_neg (by omega),zy,h1,h0];simp
theorem Fq{most:Nat}{ts:List TK}{said n:Nat}(h:ce most ts said=.ok n)(hs:said<=most):said<=n/\n<=most:=by
 induction ts generalizing said with
 | nil=>simp only[ce,Except.ok.injEq]at h;omega
 | cons t r ih=>
  unfold ce at h;split at h
  ·cases h
  ·split at h
   ·cases h
   ·have:=ih h (by omega);omega
def pt(n:Nat):Nat:=if n=0 then 0 else Nat.log2 n+1
theorem fZ(n k:Nat):pt n<=k↔n<2 ^ k:=by
 unfold pt;split
 ·rename_i h;subst h;simp;exact Nat.two_pow_pos k
 ·rename_i h;rw[<-Nat.log2_lt h];omega
def jO(data:List Nat)(i d:Nat):Nat->Nat->Nat
 | 0,n=>n
 | f+1,n=>if i+n<data.length/\data.getD (i+n) 0=data.getD (i+n-d) 0 then jO data i d f (n+1)else n
def jJ(data:List Nat)(i d:Nat):Nat:=jO data i d 258 0
theorem J7(data:List Nat)(i d f n:Nat):n<=jO data i d f n/\jO data i d f n<=n+f:=by
 induction f generalizing n with
 | zero=>exact⟨Nat.le_refl _,Nat.le_refl _⟩
 | succ f ih=>
  unfold jO;split
  ·have:=ih (n+1);omega
  ·omega
theorem Ay(data:List Nat)(i d f n:Nat):∀j,n<=j->j<jO data i d f n->i+j<data.length/\data.getD (i+j) 0=data.getD (i+j-d) 0:=by
 induction f generalizing n with
 | zero=>intro j h1 h2;unfold jO at h2;omega
 | succ f ih=>
  intro j h1 h2;unfold jO at h2;split at h2
  ·rename_i hc;by_cases he:j=n
   ·subst he;exact hc
   ·exact ih (n+1) j (by omega) h2
  ·omega
theorem gw(data:List Nat)(i d j:Nat)(h:j<jJ data i d):i+j<data.length/\data.getD (i+j) 0=data.getD (i+j-d) 0:=
 Ay data i d 258 0 j (Nat.zero_le _) h
theorem Hs(data:List Nat)(i d:Nat):jJ data i d<=258:=by have:=J7 data i d 258 0;unfold jJ;omega
theorem FG(data:List Nat)(i d:Nat):jJ data i d=0\/i+jJ data i d<=data.length:=by
 rcases Nat.eq_zero_or_pos (jJ data i d)with h | h
 ·exact .inl h
 ·have:=(gw data i d (jJ data i d-1) (by omega)).1;exact .inr (by omega)
theorem Mn{data:List Nat}{i d n:Nat}(h:data.getD (i+n) 0≠data.getD (i+n-d) 0):jJ data i d<=n:=by refine Nat.le_of_not_lt (λhc=>h (gw data i d n hc).2)
theorem tH{data:List Nat}{i d f n:Nat}(h1:i+n<data.length)(h2:data.getD (i+n) 0=data.getD (i+n-d) 0):jO data i d (f+1) n=jO data i d f (n+1):=by rw[jO,if_pos ⟨h1,h2⟩]
theorem ta{data:List Nat}{i d f n:Nat}(h:¬(i+n<data.length/\data.getD (i+n) 0=data.getD (i+n-d) 0)):jO data i d f n=n:=by
 cases f with
 | zero=>rfl
 | succ f=>rw[jO,if_neg h]
theorem Gv{data:List Nat}{i d:Nat}(n:Nat)(hn:n<=258)(h:∀j,j<n->i+j<data.length/\data.getD (i+j) 0=data.getD (i+j-d) 0):jJ data i d=jO data i d (258-n) n:=by
 induction n with
 | zero=>rfl
 | succ n ih=>
  rw[ih (by omega) (λj hj=>h j (by omega))];have:=h n (by omega);rw[show 258-n=(258-(n+1))+1 by omega,tH this.1 this.2]
def dM(data:List Nat)(i:Nat):Nat->Nat×Nat
 | 0=>(0,0)
 | k+1=>if 3<=jJ data i (k+1)/\(dM data i k).1<jJ data i (k+1) then(jJ data i (k+1),k+1)else dM data i k
def bD(data:List Nat)(i:Nat):Nat×Nat:=dM data i i
theorem mc{data:List Nat}{i k:Nat}(h:jJ data i (k+1)<3\/jJ data i (k+1)<=(dM data i k).1):dM data i (k+1)=dM data i k:=by rw[dM,if_neg (by omega)]
theorem AD{data:List Nat}{i k:Nat}(h:3<=jJ data i (k+1))(h2:(dM data i k).1<jJ data i (k+1)):dM data i (k+1)=(jJ data i (k+1),k+1):=by rw[dM,if_pos ⟨h,h2⟩]
theorem FX(data:List Nat)(i k:Nat):dM data i k=(0,0)\/∃d,1<=d/\d<=k/\dM data i k=(jJ data i d,d)/\3<=jJ data i d:=by
 induction k with
 | zero=>exact .inl rfl
 | succ k ih=>
  rw[dM];split
  ·rename_i h;exact .inr ⟨k+1,by omega,by omega,rfl,h.1⟩
  ·rcases ih with h | ⟨d,h1,h2,h3⟩
   ·exact .inl h
   ·exact .inr ⟨d,h1,by omega,h3⟩
theorem yU{data:List Nat}{i k:Nat}(m:Nat)(hm:∀d,jJ data i d<=m)(h:m<=(dM data i k).1)(j:Nat):dM data i (k+j)=dM data i k:=by
 induction j with
 | zero=>rfl
 | succ j ih=>rw[<-Nat.add_assoc,mc (by rw[ih];have:=hm (k+j+1);omega),ih]
theorem jn{data:List Nat}{i k j:Nat}(h:∀d,k<d->d<=k+j->jJ data i d<3):dM data i (k+j)=dM data i k:=by
 induction j with
 | zero=>rfl
 | succ j ih=>rw[<-Nat.add_assoc,mc (.inl (h (k+j+1) (by omega) (by omega))),ih (λd h1 h2=>h d h1 (by omega))]
theorem lV(data:List Nat)(i:Nat):(bD data i=(0,0))\/∃n d,bD data i=(n,d)/\3<=n/\n<=258/\1<=d/\d<=i/\i+n<=data.length/\∀j,j<n->data.getD (i+j) 0=data.getD (i+j-d) 0:=by
 rcases FX data i i with h | ⟨d,h1,h2,h3,h4⟩
 ·exact .inl h
 ·refine .inr ⟨jJ data i d,d,h3,h4,Hs data i d,h1,h2,?_,λj hj=>(gw data i d j hj).2⟩;rcases FG data i d with h | h
  ·omega
  ·exact h
def bK(data:List Nat):Nat->Nat->List TK
 | 0,_=>[]
 | f+1,i=>
  if i<data.length then
   (if (bD data i).1=0\/(bD data i).1<(bD data (i+1)).1 then⟨data.getD i 0,0,0⟩::bK data f (i+1)
   else⟨0,((bD data i).1:Int),((bD data i).2:Int)⟩::bK data f (i+(bD data i).1))
  else []
def cT(data:List Nat):List TK:=if 16384<data.length then []else bK data data.length 0
theorem eK{data:List Nat}{f i:Nat}(h:data.length<=i):bK data f i=[]:=by
 cases f with
 | zero=>rfl
 | succ f=>rw[bK,if_neg (by omega)]
theorem jc{data:List Nat}{f i:Nat}(h:i<data.length)(hm:(bD data i).1=0\/(bD data i).1<(bD data (i+1)).1):bK data (f+1) i=⟨data.getD i 0,0,0⟩::bK data f (i+1):=by rw[bK,if_pos h,if_pos hm]
theorem je{data:List Nat}{f i:Nat}(h:i<data.length)(hm:¬((bD data i).1=0\/(bD data i).1<(bD data (i+1)).1)):bK data (f+1) i=⟨0,((bD data i).1:Int),((bD data i).2:Int)⟩::bK data f (i+(bD data i).1):=by rw[bK,if_pos h,if_neg hm]
theorem C6{data:List Nat}{f g i:Nat}(hf:data.length-i<=f)(hg:data.length-i<=g):bK data f i=bK data g i:=by
 induction f generalizing g i with
 | zero=>rw[eK (by omega),eK (by omega)]
 | succ f ih=>
  by_cases h:i<data.length
  ·obtain⟨g,rfl⟩:∃g',g=g'+1:=⟨g-1,by omega⟩
   by_cases hm:(bD data i).1=0\/(bD data i).1<(bD data (i+1)).1
   ·rw[jc h hm,jc h hm,ih (g:=g) (by omega) (by omega)]
   ·rw[je h hm,je h hm,ih (g:=g) (by omega) (by omega)]
  ·rw[eK (by omega),eK (by omega)]
def xr(data:List Nat)(q a b c:Nat):Bool:=data.getD q 0==a && data.getD (q+1) 0==b && data.getD (q+2) 0==c
theorem xh(data:List Nat)(q a b c:Nat):xr data q a b c=true↔(data.getD q 0=a/\data.getD (q+1) 0=b/\data.getD (q+2) 0=c):=by simp[xr,and_assoc]
def iU(data:List Nat)(a b c:Nat):Nat->Option Nat
 | 0=>none
 | i+1=>if xr data i a b c=true then some i else iU data a b c i
theorem zP{data:List Nat}{a b c i q:Nat}(h:iU data a b c i=some q):q<i/\xr data q a b c=true/\∀p,q<p->p<i->xr data p a b c=false:=by
 induction i with
 | zero=>cases h
 | succ i ih=>
  unfold iU at h;split at h
  ·rename_i h1;simp only[Option.some.injEq]at h;subst h;exact⟨by omega,h1,λp h2 h3=>by omega⟩
  ·rename_i h1;obtain⟨g1,g2,g3⟩:=ih h;refine⟨by omega,g2,λp h2 h3=>?_⟩;by_cases hp:p=i
   ·subst hp;simpa using h1
   ·exact g3 p h2 (by omega)
theorem AO{data:List Nat}{a b c i:Nat}(h:iU data a b c i=none):∀p,p<i->xr data p a b c=false:=by
 induction i with
 | zero=>intro p hp;omega
 | succ i ih=>
  unfold iU at h;split at h
  ·cases h
  ·rename_i h1;intro p hp;by_cases he:p=i
   ·subst he;simpa using h1
   ·exact ih h p (by omega)
def oH(data:List Nat)(i:Nat):Int:=
 match iU data (data.getD i 0) (data.getD (i+1) 0) (data.getD (i+2) 0) i with
 | some q=>(q:Int)
 | none=>-1
def nW(data:List Nat):List Int:=(List.range (data.length-2)).map (oH data)
theorem gO(data:List Nat):(nW data).length=data.length-2:=by simp[nW]
theorem Bq(data:List Nat)(i:Nat)(_h:i<data.length-2)(h':i<(nW data).length):(nW data)[i]=oH data i:=by simp[nW]
def eV(data:List Nat)(p i:Nat):Bool:=xr data p (data.getD i 0) (data.getD (i+1) 0) (data.getD (i+2) 0)
theorem jf(data:List Nat)(p i:Nat):eV data p i=true↔(data.getD p 0=data.getD i 0/\data.getD (p+1) 0=data.getD (i+1) 0/\data.getD (p+2) 0=data.getD (i+2) 0):=xh _ _ _ _ _
theorem ki{data:List Nat}{p q i:Nat}(h:eV data q i=true):eV data p i=eV data p q:=by have h1:=(jf data q i).1 h;rw[Bool.eq_iff_iff,jf,jf,h1.1,h1.2.1,h1.2.2]
theorem kF(data:List Nat)(i:Nat):(∃q:Nat,oH data i=q/\q<i/\eV data q i=true/\∀p,q<p->p<i->eV data p i=false)\/(oH data i=-1/\∀p,p<i->eV data p i=false):=by
 unfold oH;split
 ·rename_i q h;exact .inl ⟨q,rfl,zP h⟩
 ·rename_i h;exact .inr ⟨rfl,AO h⟩
theorem kK{data:List Nat}{i d:Nat}(hd:d<=i)(h:eV data (i-d) i=false):jJ data i d<3:=by
 refine Nat.lt_of_not_le (λhc=>?_);have h0:=(gw data i d 0 (by omega)).2;have h1:=(gw data i d 1 (by omega)).2;have h2:=(gw data i d 2 (by omega)).2;have:eV data (i-d) i=true:=by
  rw[jf];refine⟨?_,?_,?_⟩
  ·rw[show i-d=i+0-d by omega];exact h0.symm
  ·rw[show i-d+1=i+1-d by omega];exact h1.symm
  ·rw[show i-d+2=i+2-d by omega];exact h2.symm
 rw[h]at this;cases this
def Found(data:List Nat)(i:Nat)(fr:Int)(n d:Nat):Prop:=(n,d)=dM data i ((i:Int)-1-fr).toNat
theorem Found.start{data:List Nat}{i:Nat}:Found data i (oH data i) 0 0:=by
 unfold Found;rcases kF data i with⟨q,h1,h2,h3,h4⟩ | ⟨h1,h2⟩
 ·rw[h1,show((i:Int)-1-(q:Int)).toNat=0+(i-1-q)by omega,jn]
  ·rfl
  ·intro d Cq pz;exact kK (by omega) (h4 (i-d) (by omega) (by omega))
 ·rw[h1,show((i:Int)-1-(-1)).toNat=0+i by omega,jn]
  ·rfl
  ·intro d Cq pz;exact kK (by omega) (h2 (i-d) (by omega))
theorem Found.next{data:List Nat}{i q n d:Nat}(hq:q<i)(hs:eV data q i=true)(h:(n,d)=dM data i (i-q)):Found data i (oH data q) n d:=by
 unfold Found;rcases kF data q with⟨p,h1,h2,h3,h4⟩ | ⟨h1,h2⟩
 ·rw[h1,show((i:Int)-1-(p:Int)).toNat=(i-q)+(q-1-p)by omega,jn]
  ·exact h
  ·intro e Yn MX;refine kK (by omega) ?_;rw[ki hs];exact h4 (i-e) (by omega) (by omega)
 ·rw[h1,show((i:Int)-1-(-1)).toNat=(i-q)+q by omega,jn]
  ·exact h
  ·intro e Yn MX;refine kK (by omega) ?_;rw[ki hs];exact h2 (i-e) (by omega)
theorem Found.done{data:List Nat}{i n d:Nat}(h:Found data i (-1) n d):(n,d)=bD data i:=by unfold Found at h;rw[show((i:Int)-1-(-1)).toNat=i by omega]at h;exact h
theorem Found.at{data:List Nat}{i q n d:Nat}(hq:q<i)(h:Found data i (q:Int) n d):(n,d)=dM data i (i-q-1):=by unfold Found at h;rw[show((i:Int)-1-(q:Int)).toNat=i-q-1 by omega]at h;exact h
theorem Found.not{data:List Nat}{i q n d:Nat}(hq:q<i)(hs:eV data q i=true)(h:Found data i (q:Int) n d)(hm:jJ data i (i-q)<=n):Found data i (oH data q) n d:=by
 refine Found.next hq hs ?_
 have h1:=h.at hq;have e:i-q=(i-q-1)+1:=by omega
 rw[e,mc (.inr (by rw[<-h1,<-e];exact hm))];exact h1
theorem Found.more{data:List Nat}{i q n d:Nat}(hq:q<i)(hs:eV data q i=true)(h:Found data i (q:Int) n d)(h3:3<=jJ data i (i-q))(hm:n<jJ data i (i-q)):Found data i (oH data q) (jJ data i (i-q)) (i-q)/\dM data i (i-q)=(jJ data i (i-q),i-q):=by
 have h1:=h.at hq;have e:i-q=(i-q-1)+1:=by omega
 have hb:dM data i (i-q)=(jJ data i (i-q),i-q):=by have:=AD (data:=data) (i:=i) (k:=i-q-1) (by rw[<-e];exact h3) (by rw[<-h1,<-e];exact hm);rw[<-e]at this;exact this
 exact⟨Found.next hq hs hb.symm,hb⟩
theorem Found.full{data:List Nat}{i q n d m:Nat}(hq:q<i)(hs:eV data q i=true)(h:Found data i (q:Int) n d)(hm:jJ data i (i-q)=m)(h3:3<=m)(hn:n<m)(Ni:∀e,jJ data i e<=m):(m,i-q)=bD data i:=by have h1:=(h.more hq hs (by omega) (by omega)).2;unfold bD;have:=yU (data:=data) (i:=i) (k:=i-q) m Ni (by rw[h1];simp only;omega) q;rw[show i-q+q=i by omega]at this;rw[this,h1,hm]
theorem J5(data:List Nat)(i d:Nat)(h:i<=data.length):jJ data i d<=min 258 (data.length-i):=by have h1:=Hs data i d;rcases FG data i d with h2 | h2<;>omega
theorem Aq{data:List Nat}{i:Nat}(h:data.length<i+3):bD data i=(0,0):=by
 rcases lV data i with h1 | ⟨n,d,_,h3,_,_,_,h4,_⟩
 ·exact h1
 ·omega
theorem nS(data:List Nat)(i:Nat)(h:i<data.length):data.take (i+1)=data.take i++[data.getD i 0]:=by rw[List.take_succ_eq_append_getElem h];simp[List.getD,h]
theorem Hk{data:List Nat}{i d:Nat}(hd:1<=d)(pz:d<=i)(n:Nat)(hn:i+n<=data.length)(h:∀j,j<n->data.getD (i+j) 0=data.getD (i+j-d) 0):Ew d n (data.take i)=data.take (i+n):=by
 induction n with
 | zero=>rfl
 | succ n ih=>
  have hl:(data.take (i+n)).length=i+n:=(by rw[List.length_take];omega);rw[Fi,ih (by omega) (λj hj=>h j (by omega)),hl,<-Nat.add_assoc,nS data (i+n) (by omega),h n (by omega)];have:(data.take (i+n)).getD (i+n-d) 0=data.getD (i+n-d) 0:=(by simp only[List.getD];rw[List.getElem?_take_of_lt (by omega)]);rw[this]
theorem tz{data:List Nat}{f i:Nat}(h:i<data.length):∃(t:TK) (n:Nat),bK data (f+1) i=t::bK data f (i+n)/\pe t i=true/\pc t=n/\1<=n/\i+n<=data.length/\mM (data.take i) t=data.take (i+n)/\(t.len=0->t.lit=data.getD i 0/\n=1):=by
 rcases lV data i with h0 | ⟨n,d,h0,h1,h2,h3,h4,h5,h6⟩
 ·refine⟨⟨data.getD i 0,0,0⟩,1,jc h (.inl (by rw[h0])),rfl,rfl,by omega,by omega,?_,λ_=>⟨rfl,rfl⟩⟩;unfold mM;rw[if_pos rfl,nS data i h]
 ·by_cases hm:(bD data i).1=0\/(bD data i).1<(bD data (i+1)).1
  ·refine⟨⟨data.getD i 0,0,0⟩,1,jc h hm,rfl,rfl,by omega,by omega,?_,λ_=>⟨rfl,rfl⟩⟩;unfold mM;rw[if_pos rfl,nS data i h]
  ·refine⟨⟨0,(n:Int),(d:Int)⟩,n,by rw[je h hm,h0],?_,?_,by omega,h5,?_,λe=>?_⟩
   ·unfold pe;rw[if_neg (by simp;omega)];simp;omega
   ·unfold pc;simp only;omega
   ·unfold mM;rw[if_neg (by simp;omega)];exact Hk h3 h4 n h5 h6
   ·simp at e;omega
theorem D7{data:List Nat}{f i:Nat}(hf:data.length-i<=f)(hi:i<=data.length):xT (bK data f i) (data.take i)=data:=by
 induction f generalizing i with
 | zero=>rw[eK (by omega),show i=data.length by omega,List.take_length];rfl
 | succ f ih=>
  by_cases h:i<data.length
  ·obtain⟨t,n,e,_,_,h1,h2,h3,_⟩:=tz (f:=f) h;rw[e];show xT (bK data f (i+n)) (mM (data.take i) t)=data;rw[h3];exact ih (by omega) h2
  ·rw[eK (by omega),show i=data.length by omega,List.take_length];rfl
theorem Ad{data:List Nat}{f i most:Nat}(hf:data.length-i<=f)(hi:i<=data.length)(hm:data.length<=most):ce most (bK data f i) i=.ok data.length:=by
 induction f generalizing i with
 | zero=>rw[eK (by omega),show i=data.length by omega];rfl
 | succ f ih=>
  by_cases h:i<data.length
  ·obtain⟨t,n,e,nI,ht,h1,h2,_,_⟩:=tz (f:=f) h;rw[e,ce,if_neg (by rw[nI];decide),ht,if_neg (by omega)];exact ih (by omega) h2
  ·rw[eK (by omega),show i=data.length by omega];rfl
end Go.Proofs.YtkhagfgineifhaaGreatDoor
