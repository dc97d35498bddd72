import Derived.Test.YtkhagfgineifhaaGreatDoorDfQ
import Derived.Test.YtkhagfgineifhaaGreatDoorInPA
import Derived.Laws.BytesArg
import Derived.Test.YtkhagfgineifhaaGreatDoorInPz
import Derived.Test.YtkhagfgineifhaaGreatDoorInPe
import Derived.Test.YtkhagfgineifhaaGreatDoorHArgs
namespace Go.Proofs.YtkhagfgineifhaaGreatDoor
theorem PFix.reads{ts:List TK}{x:List Nat}(h:PFix ts x){n most:Nat}(hm:ce 16384 ts 0=.ok n)(hb:∀t∈ts,t.lit<256)(hn:n<=most)(sA:most<=16384):∃t,Ends (ae x) most ps0 t 0/\t.out=xT ts []/\(t.c+7) / 8=x.length:=wU hm hb hn sA h.1
theorem PDyn.reads{ts:List TK}{x:List Nat}(h:PDyn ts x){n most:Nat}(hm:ce 16384 ts 0=.ok n)(hb:∀t∈ts,t.lit<256)(hn:n<=most)(sA:most<=16384):∃t,Ends (ae x) most ps0 t 0/\t.out=xT ts []/\(t.c+7) / 8=x.length:=by have hd:=Hb hm hb;exact EA hd.ok h.2 hd.toks hm hn sA h.1.1
theorem PDef.cases{data bs:List Nat}(h:PDef data bs):bs=bE data\/PFix (cT data) bs\/PDyn (cT data) bs:=by
 obtain⟨x2,x3,rfl,h2,h3⟩:=h;have hb:∀a b:List Nat,bX a b=a\/bX a b=b:=λa b=>by unfold bX;split<;>simp
 rcases hb (bX (bE data) x2) x3 with e | e
 ·rw[e];rcases hb (bE data) x2 with e | e
  ·exact .inl e
  ·rw[e];exact .inr (.inl h2)
 ·rw[e];exact .inr (.inr h3)
theorem PDef.reads{data bs:List Nat}(h:PDef data bs)(hb:∀b∈data,b<256){most:Nat}(hl:data.length<=most)(sA:most<=16384):∃t,Ends (ae bs) most ps0 t 0/\t.out=data/\(t.c+7) / 8=bs.length:=by
 obtain⟨hm,Jg,he⟩:=vQ hb (Nat.le_trans hl sA);rcases h.cases with rfl | h | h
 ·exact uc hb hl sA
 ·have:=h.reads hm Jg hl sA;rwa [he]at this
 ·have:=h.reads hm Jg hl sA;rwa [he]at this
end Go.Proofs.YtkhagfgineifhaaGreatDoor
