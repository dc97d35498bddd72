import Derived.Test.YtkhagfgineifhaaGreatDoorMtM
namespace Go.Proofs.YtkhagfgineifhaaGreatDoor
theorem nS(data:List Nat)(i:Nat)(h:i<data.length):data.take (i+1)=data.take i++[data.getD i 0]:=by rw[List.take_succ_eq_append_getElem h];simp[List.getD,h]
theorem Hk{data:List Nat}{i d:Nat}(hd:1<=d)(pz:d<=i)(n:Nat)(hn:i+n<=data.length)(h:∀j,j<n->data.getD (i+j) 0=data.getD (i+j-d) 0):Ew d n (data.take i)=data.take (i+n):=by
 induction n with
 | zero=>rfl
 | succ n ih=>
  have hl:(data.take (i+n)).length=i+n:=(by rw[List.length_take];omega);rw[Fi,ih (by omega) (λj hj=>h j (by omega)),hl,<-Nat.add_assoc,nS data (i+n) (by omega),h n (by omega)];have:(data.take (i+n)).getD (i+n-d) 0=data.getD (i+n-d) 0:=(by simp only[List.getD];rw[List.getElem?_take_of_lt (by omega)]);rw[this]
theorem tz{data:List Nat}{f i:Nat}(h:i<data.length):∃(t:TK) (n:Nat),bK data (f+1) i=t::bK data f (i+n)/\pe t i=true/\pc t=n/\1<=n/\i+n<=data.length/\mM (data.take i) t=data.take (i+n)/\(t.len=0->t.lit=data.getD i 0/\n=1):=by
 rcases lV data i with h0 | ⟨n,d,h0,h1,h2,h3,h4,h5,h6⟩
 ·refine⟨⟨data.getD i 0,0,0⟩,1,jc h (.inl (by rw[h0])),rfl,rfl,by omega,by omega,?_,λ_=>⟨rfl,rfl⟩⟩;unfold mM;rw[if_pos rfl,nS data i h]
 ·by_cases hm:(bD data i).1=0\/(bD data i).1<(bD data (i+1)).1
  ·refine⟨⟨data.getD i 0,0,0⟩,1,jc h hm,rfl,rfl,by omega,by omega,?_,λ_=>⟨rfl,rfl⟩⟩;unfold mM;rw[if_pos rfl,nS data i h]
  ·refine⟨⟨0,(n:Int),(d:Int)⟩,n,by rw[je h hm,h0],?_,?_,by omega,h5,?_,λe=>?_⟩
   ·unfold pe;rw[if_neg (by simp;omega)];simp;omega
   ·unfold pc;simp only;omega
   ·unfold mM;rw[if_neg (by simp;omega)];exact Hk h3 h4 n h5 h6
   ·simp at e;omega
theorem D7{data:List Nat}{f i:Nat}(hf:data.length-i<=f)(hi:i<=data.length):xT (bK data f i) (data.take i)=data:=by
 induction f generalizing i with
 | zero=>rw[eK (by omega),show i=data.length by omega,List.take_length];rfl
 | succ f ih=>
  by_cases h:i<data.length
  ·obtain⟨t,n,e,_,_,h1,h2,h3,_⟩:=tz (f:=f) h;rw[e];show xT (bK data f (i+n)) (mM (data.take i) t)=data;rw[h3];exact ih (by omega) h2
  ·rw[eK (by omega),show i=data.length by omega,List.take_length];rfl
theorem Ad{data:List Nat}{f i most:Nat}(hf:data.length-i<=f)(hi:i<=data.length)(hm:data.length<=most):ce most (bK data f i) i=.ok data.length:=by
 induction f generalizing i with
 | zero=>rw[eK (by omega),show i=data.length by omega];rfl
 | succ f ih=>
  by_cases h:i<data.length
  ·obtain⟨t,n,e,nI,ht,h1,h2,_,_⟩:=tz (f:=f) h;rw[e,ce,if_neg (by rw[nI];decide),ht,if_neg (by omega)];exact ih (by omega) h2
  ·rw[eK (by omega),show i=data.length by omega];rfl
end Go.Proofs.YtkhagfgineifhaaGreatDoor
