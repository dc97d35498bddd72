import Derived.Test.YtkhagfgineifhaaGreatDoorMath
namespace Go.Proofs.YtkhagfgineifhaaGreatDoor
def aR(v:Nat):Nat->List Nat
 | 0=>[]
 | n+1=>aR v n++[v / 256 ^ n % 256]
theorem az(v n:Nat):(aR v n).length=n:=by
 induction n with
 | zero=>rfl
 | succ n ih=>simp[aR,ih]
theorem Ez(v n:Nat):aO (aR v n)=v % 256 ^ n:=by
 induction n with
 | zero=>simp[aR,aO,Nat.mod_one]
 | succ n ih=>
  rw[aR,fQ,ih,az,Nat.pow_succ,Nat.mod_mul];simp[aO]
def eG(cs:List Nat)(a n:Nat):Nat:=aO ((cs.drop a).take n)
theorem JP(cs:List Nat)(hb:∀b∈cs,b<256)(a n:Nat):eG cs a n<256 ^ n:=by have h:=mL ((cs.drop a).take n) (λb h=>hb b (List.mem_of_mem_drop (List.mem_of_mem_take h)));exact Nat.lt_of_lt_of_le h (Nat.pow_le_pow_right (by omega) (List.length_take_le _ _))
def jN(r:Nat):Nat:=(r / 2) ^^^ (r % 2*3988292384)
def iZ:Nat->Nat->Nat
 | 0,r=>r
 | n+1,r=>jN (iZ n r)
def dV(r:Nat):Nat:=iZ 8 r
def nO(r:Nat)(bs:List Nat):Nat:=bs.foldl (λr b=>dV (r ^^^ b)) r
def iT(x:Nat):Nat:=4294967295-x
def more(sum:Nat)(bs:List Nat):Nat:=iT (nO (iT sum) bs)
theorem nt(x:Nat):iT x<4294967296:=by unfold iT;omega
theorem Et{x y:Nat}(hx:x<4294967296)(hy:y<4294967296)(h:iT x=iT y):x=y:=by unfold iT at h;omega
theorem kd{a b:Nat}(ha:a<4294967296)(hb:b<4294967296):a ^^^ b<4294967296:=by
 have e:(4294967296:Nat)=2 ^ 32:=by decide
 rw[e]at *
 exact Nat.xor_lt_two_pow ha hb
theorem oJ{a b:Nat}(h:a ^^^ b=0):a=b:=by
 have:a ^^^ b ^^^ b=b:=by rw[h,Nat.zero_xor]
 rwa [Nat.xor_assoc,Nat.xor_self,Nat.xor_zero]at this
theorem JH{r:Nat}(h:r<4294967296):jN r<4294967296:=by
 unfold jN;refine kd (by omega) ?_;have h2:r % 2<=1:=by omega
 have h3:r % 2*3988292384<=1*3988292384:=Nat.mul_le_mul_right _ h2;omega
theorem mD{r:Nat}(h:r<4294967296)(n:Nat):iZ n r<4294967296:=by
 induction n with
 | zero=>exact h
 | succ n ih=>exact JH ih
theorem rB{r:Nat}(h:r<4294967296)(bs:List Nat)(hb:∀b∈bs,b<256):nO r bs<4294967296:=by
 induction bs generalizing r with
 | nil=>exact h
 | cons b s ih=>
  have h1:=hb b (by simp);exact ih (mD (kd h (by omega)) 8) (λx hx=>hb x (by simp[hx]))
theorem wM(r:Nat)(bs:List Nat)(b:Nat):nO r (bs++[b])=dV (nO r bs ^^^ b):=by simp[nO]
theorem qU(r:Nat)(a b:List Nat):nO r (a++b)=nO (nO r a) b:=by simp[nO]
theorem JU(s:Nat)(a:List Nat):more s a<4294967296:=nt _
theorem GO(a b:Nat):jN (a ^^^ b)=jN a ^^^ jN b:=by
 have h1:(a ^^^ b) / 2=(a / 2) ^^^ (b / 2):=by have:=Nat.shiftRight_xor_distrib (a:=a) (b:=b) (i:=1);simpa[Nat.shiftRight_eq_div_pow]using this
 have h2:(a ^^^ b) % 2=(a % 2) ^^^ (b % 2):=by have:=Nat.xor_mod_two_pow (a:=a) (b:=b) (n:=1);simpa using this
 have h3:((a % 2) ^^^ (b % 2))*3988292384=(a % 2*3988292384) ^^^ (b % 2*3988292384):=by rcases Nat.mod_two_eq_zero_or_one a with e | e<;>rcases Nat.mod_two_eq_zero_or_one b with f | f<;>rw[e,f]<;>decide
 unfold jN;rw[h1,h2,h3];ac_rfl
theorem tg(n a b:Nat):iZ n (a ^^^ b)=iZ n a ^^^ iZ n b:=by
 induction n with
 | zero=>rfl
 | succ n ih=>simp only[iZ,ih,GO]
theorem CX{d:Nat}(hd:d<4294967296)(h:jN d=0):d=0:=by unfold jN at h;have h':=oJ h;rcases Nat.mod_two_eq_zero_or_one d with e | e<;>rw[e]at h'<;>omega
theorem rf{d:Nat}(hd:d<4294967296)(n:Nat)(h:iZ n d=0):d=0:=by
 induction n with
 | zero=>exact h
 | succ n ih=>exact ih (CX (mD hd n) h)
theorem Eb{a b:Nat}(ha:a<4294967296)(hb:b<4294967296)(h:dV a=dV b):a=b:=by refine oJ (rf (kd ha hb) 8 ?_);rw[tg];show dV a ^^^ dV b=0;rw[h,Nat.xor_self]
theorem wI(x:Nat):jN (2*x)=x:=by unfold jN;rw[Nat.mul_mod_right,Nat.zero_mul,Nat.xor_zero];omega
theorem D3(n x:Nat):iZ n (2 ^ n*x)=x:=by
 induction n generalizing x with
 | zero=>simp[iZ]
 | succ n ih=>
  rw[iZ,Nat.pow_succ,Nat.mul_assoc,ih,wI]
theorem vU(z:Nat):dV (256*z)=z:=D3 8 z
theorem DC(ds:List Nat)(hd:∀b∈ds,b<256)(n:Nat)(hn:ds.length+n=4)(z:Nat)(hz:z<256 ^ n)(h:nO 0 ds=z):z=0/\∀b∈ds,b=0:=by
 obtain⟨m,hm⟩:∃m,m=ds.length:=⟨_,rfl⟩
 induction m generalizing ds n z with
 | zero=>
  have e0:ds=[]:=List.eq_nil_of_length_eq_zero hm.symm;subst e0;exact⟨by simpa[nO]using h.symm,by simp⟩
 | succ m ih=>
  obtain⟨es,e,rfl⟩:∃es e,ds=es++[e]:=by
   rcases List.eq_nil_or_concat ds with e0 | ⟨es,e,e0⟩
   ·subst e0;simp at hm
   ·exact⟨es,e,by simpa using e0⟩
  have he:e<256:=hd e (by simp);have UG:∀b∈es,b<256:=λb hb=>hd b (by simp[hb])
  rw[wM]at h;rw[List.length_append,List.length_singleton]at hn;have Zf:256*z<256 ^ (n+1):=(by rw[Nat.pow_succ];omega);have mr:(256:Nat) ^ (n+1)<=256 ^ 4:=Nat.pow_le_pow_right (by omega) (by omega);have QH:256*z<4294967296:=(by omega);have h1:=Eb (kd (rB (by omega) es UG) (by omega)) QH (h.trans (vU z).symm);have h2:nO 0 es=256*z+e:=by
   have h3:nO 0 es=(256*z) ^^^ e:=(by rw[<-h1,Nat.xor_assoc,Nat.xor_self,Nat.xor_zero]);rw[h3];have h4:=Nat.two_pow_add_eq_or_of_lt (i:=8) he z;have h5:(256*z) ^^^ e=(256*z) ||| e:=by
    apply Nat.eq_of_testBit_eq;intro i;have t1:(256*z).testBit i=(decide (8<=i) && z.testBit (i-8)):=(by rw[show 256*z=z*2 ^ 8 by omega];exact Nat.testBit_mul_two_pow z i 8);rw[Nat.testBit_xor,Nat.testBit_or,t1];by_cases hi:8<=i
    ·have:e.testBit i=false:=Nat.testBit_lt_two_pow (Nat.lt_of_lt_of_le he (Nat.pow_le_pow_right (n:=2) (by omega) hi));simp[this]
    ·simp[hi]
   rw[h5];exact h4.symm
  have h6:256*z+e<256 ^ (n+1):=(by rw[Nat.pow_succ];omega);obtain⟨h7,h8⟩:=ih es UG (n+1) (by omega) _ h6 h2 (by simpa using hm);refine⟨by omega,?_⟩;intro b hb;rcases List.mem_append.1 hb with hb | hb
  ·exact h8 b hb
  ·simp at hb;omega
theorem Kw(a c:Nat)(xs ys:List Nat)(hl:xs.length=ys.length):nO a xs ^^^ nO c ys=nO (a ^^^ c) (List.zipWith (· ^^^ ·) xs ys):=by
 induction xs generalizing a c ys with
 | nil=>cases ys with
  | nil=>rfl
  | cons=>simp at hl
 | cons x r ih=>cases ys with
  | nil=>simp at hl
  | cons y s=>
   simp only[List.length_cons,Nat.add_right_cancel_iff]at hl;have e:=ih (dV (a ^^^ x)) (dV (c ^^^ y)) s hl;have e2:dV (a ^^^ x) ^^^ dV (c ^^^ y)=dV (a ^^^ c ^^^ (x ^^^ y)):=by unfold dV;rw[<-tg];congr 1;ac_rfl
   show nO (dV (a ^^^ x)) r ^^^ nO (dV (c ^^^ y)) s=nO (dV (a ^^^ c ^^^ (x ^^^ y))) (List.zipWith (· ^^^ ·) r s);rw[e,e2]
theorem At:dV 0=0:=by decide
theorem CK(n:Nat):nO 0 (List.replicate n 0)=0:=by
 induction n with
 | zero=>rfl
 | succ n ih=>
  rw[List.replicate_succ];show nO (dV (0 ^^^ 0)) _=0;rw[Nat.xor_self,At];exact ih
theorem rT(n d:Nat)(hd:d<4294967296)(h:nO d (List.replicate n 0)=0):d=0:=by
 induction n generalizing d with
 | zero=>exact h
 | succ n ih=>
  rw[List.replicate_succ]at h;have h':nO (dV (d ^^^ 0)) (List.replicate n 0)=0:=h;rw[Nat.xor_zero]at h';exact rf hd 8 (ih _ (mD hd 8) h')
theorem Dd(r:Nat)(xs ys:List Nat)(hl:xs.length=ys.length)(a n:Nat)(ds:List Nat)(hd:∀b∈ds,b<256)(h4:ds.length≤4)
  (hz:List.zipWith (· ^^^ ·) xs ys=List.replicate a 0++ds++List.replicate n 0) (h:nO r xs=nO r ys):∀b∈ds,b=0:=by
 have e:=Kw r r xs ys hl;rw[h,Nat.xor_self,Nat.xor_self,hz,qU,qU,CK]at e;have h0:=rT n _ (rB (by omega) ds hd) e.symm;exact(DC ds hd (4-ds.length) (by omega) 0 (Nat.pow_pos (by omega)) h0).2
end Go.Proofs.YtkhagfgineifhaaGreatDoor
