import Derived.Test.YtkhagfgineifhaaGreatDoorHRow
namespace Go.Proofs.YtkhagfgineifhaaGreatDoor
def key(ns:List Nat)(s:Nat):Nat:=ns.getD s 0
def Lt(ns:List Nat)(a b:Nat):Prop:=key ns a<key ns b\/key ns a=key ns b/\a<b
instance (ns:List Nat) (a b:Nat):Decidable (Lt ns a b):=inferInstanceAs (Decidable (_\/_))
theorem Lt.trans{ns:List Nat}{a b c:Nat}(h:Lt ns a b)(k:Lt ns b c):Lt ns a c:=by unfold Lt at *;omega
theorem Lt.irrefl(ns:List Nat)(a:Nat):¬Lt ns a a:=by unfold Lt;omega
theorem Lt.asymm{ns:List Nat}{a b:Nat}(h:Lt ns a b):¬Lt ns b a:=by unfold Lt at *;omega
theorem Lt.total(ns:List Nat)(a b:Nat)(h:a≠b):Lt ns a b\/Lt ns b a:=by unfold Lt;omega
theorem Lt.iff_of_gt{ns:List Nat}{x y:Nat}(h:x<y):Lt ns y x↔key ns y<key ns x:=by unfold Lt;omega
theorem Lt.of_not{ns:List Nat}{x y:Nat}(h:x<y)(hn:¬key ns y<key ns x):Lt ns x y:=by unfold Lt;omega
abbrev Sorted(ns:List Nat)(l:List Nat):Prop:=l.Pairwise (Lt ns)
def Ahead(l r:List Nat):Prop:=∀x∈l,∀y∈r,x<y
def AllLt(ns:List Nat)(l r:List Nat):Prop:=∀x∈l,∀y∈r,Lt ns x y
theorem Sorted.append{ns l r:List Nat}(hl:Sorted ns l)(hr:Sorted ns r)(h:AllLt ns l r):Sorted ns (l++r):=List.pairwise_append.2 ⟨hl,hr,h⟩
theorem Sorted.left{ns l r:List Nat}(h:Sorted ns (l++r)):Sorted ns l:=(List.pairwise_append.1 h).1
theorem Sorted.right{ns l r:List Nat}(h:Sorted ns (l++r)):Sorted ns r:=(List.pairwise_append.1 h).2.1
theorem Sorted.cross{ns l r:List Nat}(h:Sorted ns (l++r)):AllLt ns l r:=(List.pairwise_append.1 h).2.2
theorem Sorted.eq{ns l r:List Nat}(hl:Sorted ns l)(hr:Sorted ns r)(hp:l.Perm r):l=r:=
 hp.eq_of_pairwise (λ_ _ _ _ h k=>absurd k h.asymm) hl hr
theorem AllLt.perm{ns l l' r r':List Nat}(h:AllLt ns l r)(hl:l'.Perm l)(hr:r'.Perm r):AllLt ns l' r':=
 λx hx y hy=>h x (hl.mem_iff.1 hx) y (hr.mem_iff.1 hy)
theorem Ahead.perm{l l' r r':List Nat}(h:Ahead l r)(hl:l'.Perm l)(hr:r'.Perm r):Ahead l' r':=
 λx hx y hy=>h x (hl.mem_iff.1 hx) y (hr.mem_iff.1 hy)
theorem Ahead.sub{l l' r r':List Nat}(h:Ahead l r)(hl:∀x∈l',x∈l)(hr:∀x∈r',x∈r):Ahead l' r':=
 λx hx y hy=>h x (hl x hx) y (hr y hy)
theorem Sorted.at{ns l:List Nat}(h:Sorted ns l){i j:Nat}(Hy:i<j)(hj:j<l.length):Lt ns (l[i]'(by omega)) l[j]:=
 List.pairwise_iff_getElem.1 h i j (by omega) hj Hy
theorem i5{ns A B:List Nat}(i j:Nat)(hA:Sorted ns A)(hB:Sorted ns B)(h1:i=0∨B.length≤j∨∃(x:0<i∧i≤A.length∧j<B.length),Lt ns (A[i-1]'(by omega)) (B[j]'(by omega)))
  (h2:j=0\/A.length<=i\/∃(x:0<j/\j<=B.length/\i<A.length),Lt ns (B[j-1]'(by omega)) (A[i]'(by omega))):
  AllLt ns (A.take i++B.take j) (A.drop i++B.drop j):=by
 have XP:AllLt ns (A.take i) (A.drop i):=Sorted.cross (by rw[List.take_append_drop];exact hA);have Yj:AllLt ns (B.take j) (B.drop j):=Sorted.cross (by rw[List.take_append_drop];exact hB);have le_last:∀(L:List Nat) (n:Nat) (h:Sorted ns L) (hn:0<n) (hl:n<=L.length) (x:Nat),x∈L.take n->x=L[n-1]'(by omega)\/Lt ns x (L[n-1]'(by omega)):=by
  intro L n h hn hl x hx;obtain⟨k,hk,rfl⟩:=List.getElem_of_mem hx;simp at hk;rw[List.getElem_take];by_cases e:k=n-1
  ·left;subst e;rfl
  ·right;exact h.at (by omega) (by omega)
 have ge_first:∀(L:List Nat) (n:Nat) (h:Sorted ns L) (hn:n<L.length) (x:Nat),x∈L.drop n->x=L[n]\/Lt ns L[n] x:=by
  intro L n h hn x hx;obtain⟨k,hk,rfl⟩:=List.getElem_of_mem hx;simp at hk;rw[List.getElem_drop];by_cases e:k=0
  ·left;subst e;rfl
  ·right;exact h.at (by omega) (by omega)
 have Yr:AllLt ns (A.take i) (B.drop j):=by
  intro x hx y hy;rcases h1 with rfl | h | ⟨⟨ha,hb,hc⟩,hlt⟩
  ·simp at hx
  ·rw[List.drop_eq_nil_of_le h]at hy;simp at hy
  ·rcases le_last A i hA ha hb x hx with rfl | h3
   ·rcases ge_first B j hB hc y hy with rfl | h4
    ·exact hlt
    ·exact hlt.trans h4
   ·rcases ge_first B j hB hc y hy with rfl | h4
    ·exact h3.trans hlt
    ·exact(h3.trans hlt).trans h4
 have VM:AllLt ns (B.take j) (A.drop i):=by
  intro x hx y hy;rcases h2 with rfl | h | ⟨⟨ha,hb,hc⟩,hlt⟩
  ·simp at hx
  ·rw[List.drop_eq_nil_of_le h]at hy;simp at hy
  ·rcases le_last B j hB ha hb x hx with rfl | h3
   ·rcases ge_first A i hA hc y hy with rfl | h4
    ·exact hlt
    ·exact hlt.trans h4
   ·rcases ge_first A i hA hc y hy with rfl | h4
    ·exact h3.trans hlt
    ·exact(h3.trans hlt).trans h4
 intro x hx y hy;rcases List.mem_append.1 hx with hx | hx<;>rcases List.mem_append.1 hy with hy | hy
 ·exact XP x hx y hy
 ·exact Yr x hx y hy
 ·exact VM x hx y hy
 ·exact Yj x hx y hy
def zK(ns:List Nat)(x:Nat):List Nat->List Nat
 | []=>[x]
 | y::r=>if Lt ns x y then x::y::r else y::zK ns x r
theorem th(ns:List Nat)(x:Nat)(l:List Nat):(zK ns x l).Perm (x::l):=by
 induction l with
 | nil=>exact List.Perm.refl _
 | cons y r ih=>
  unfold zK;split
  ·exact List.Perm.refl _
  ·exact(ih.cons y).trans (List.Perm.swap x y r)
theorem wO(ns:List Nat)(x:Nat)(l:List Nat)(h:Sorted ns l)(hx:x∉l):Sorted ns (zK ns x l):=by
 induction l with
 | nil=>simp[zK,Sorted]
 | cons y r ih=>
  have hy:=List.pairwise_cons.1 h;unfold zK;split
  ·rename_i hlt;refine List.pairwise_cons.2 ⟨λz hz=>?_,h⟩;rcases List.mem_cons.1 hz with rfl | hz
   ·exact hlt
   ·exact hlt.trans (hy.1 z hz)
  ·rename_i hlt;have bm:x≠y:=λe=>hx (by simp[e])
   have Oa:Lt ns y x:=(Lt.total ns x y bm).resolve_left hlt;refine List.pairwise_cons.2 ⟨λz hz=>?_,ih hy.2 (λe=>hx (List.mem_cons_of_mem _ e))⟩;rcases List.mem_cons.1 ((th ns x r).mem_iff.1 hz)with rfl | hz
   ·exact Oa
   ·exact hy.1 z hz
def eU(ns:List Nat):List Nat:=(List.range ns.length).filter (λs=>key ns s != 0)
def Cg(ns:List Nat):List Nat->List Nat
 | []=>[]
 | x::r=>zK ns x (Cg ns r)
def aD(ns:List Nat):List Nat:=Cg ns (eU ns)
theorem rk(ns l:List Nat):(Cg ns l).Perm l:=by
 induction l with
 | nil=>exact List.Perm.refl _
 | cons x r ih=>exact(th ns x _).trans (ih.cons x)
theorem uD(ns l:List Nat)(h:l.Nodup):Sorted ns (Cg ns l):=by
 induction l with
 | nil=>exact List.Pairwise.nil
 | cons x r ih=>
  have:=List.nodup_cons.1 h;exact wO ns x _ (ih this.2) (λe=>this.1 ((rk ns r).mem_iff.1 e))
theorem wn(ns:List Nat):(eU ns).Pairwise (· < ·):=List.Pairwise.filter _ List.pairwise_lt_range
theorem oT(ns:List Nat):(eU ns).Nodup:=(wn ns).imp (λh=>Nat.ne_of_lt h)
theorem fP(ns:List Nat):(aD ns).Perm (eU ns):=rk ns _
theorem gR(ns:List Nat):Sorted ns (aD ns):=uD ns _ (oT ns)
theorem Mb{ns l:List Nat}(h:Sorted ns l)(hp:l.Perm (eU ns)):l=aD ns:=h.eq (gR ns) (hp.trans (fP ns).symm)
theorem sN{ns:List Nat}{s:Nat}:s∈eU ns↔s<ns.length/\key ns s≠0:=by simp[eU]
theorem aW{ns:List Nat}{s:Nat}:s∈aD ns↔s<ns.length/\key ns s≠0:=by rw[(fP ns).mem_iff,sN]
theorem ny(ns:List Nat):(eU ns).length<=ns.length:=by have:=List.length_filter_le (λs=>key ns s != 0) (List.range ns.length);simpa[eU]using this
theorem cJ(ns:List Nat):(aD ns).length<=ns.length:=by rw[(fP ns).length_eq];exact ny ns
theorem Dn(ns:List Nat):(aD ns).Nodup:=(fP ns).nodup_iff.2 (oT ns)
theorem aZ{ns:List Nat}{s:Nat}(h:s<ns.length):key ns s=ns[s]:=by simp[key,h]
example:aD [2,1,3,3]=[1,0,2,3]:=by decide
example:aD [5,1,1,1]=[1,2,3,0]:=by decide
end Go.Proofs.YtkhagfgineifhaaGreatDoor
