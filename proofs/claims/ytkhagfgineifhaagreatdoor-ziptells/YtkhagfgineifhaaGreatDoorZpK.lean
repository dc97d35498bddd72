import Derived.Test.YtkhagfgineifhaaGreatDoorInPe
namespace Go.Proofs.YtkhagfgineifhaaGreatDoor
noncomputable def tX (ls:List Nat) (most:Nat):S5:=
 @dite S5 (∃p:Ps×Nat,Ends ls most ps0 p.1 p.2) (Classical.propDecidable _) (λh=>⟨(Classical.choose h).1.c,(Classical.choose h).1.out,(Classical.choose h).2⟩) (λ_=>⟨0,[],1⟩)
theorem F4{ls:List Nat}{most:Nat}{t:Ps}{er:Nat}(h:Ends ls most ps0 t er):(tX ls most).e=er/\(er=0\/er=55->(tX ls most).out=t.out)/\(er=0->(tX ls most).c=t.c):=by
 have hx:∃p:Ps×Nat,Ends ls most ps0 p.1 p.2:=⟨(t,er),h⟩
 obtain⟨e1,e2⟩:=(Classical.choose_spec hx).det h;unfold tX;rw[dif_pos hx];exact⟨e2,λ_=>by rw[e1],λ_=>by rw[e1]⟩
end Go.Proofs.YtkhagfgineifhaaGreatDoor
