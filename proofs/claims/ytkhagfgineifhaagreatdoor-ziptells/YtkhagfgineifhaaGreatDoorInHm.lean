import Derived.Test.YtkhagfgineifhaaGreatDoorInM
import Derived.Test.YtkhagfgineifhaaGreatDoorBlk
import Derived.Test.YtkhagfgineifhaaGreatDoorHNextM
import Derived.Test.YtkhagfgineifhaaGreatDoorBits
import Derived.Test.YtkhagfgineifhaaGreatDoorReader
import Derived.Test.YtkhagfgineifhaaGreatDoorHArgs
import Derived.Test.YtkhagfgineifhaaGreatDoorHChk
import Derived.Test.YtkhagfgineifhaaGreatDoorLnRef
import Derived.Test.YtkhagfgineifhaaGreatDoorRowX
import Derived.Deep.RegionLaw
import Derived.Test.YtkhagfgineifhaaGreatDoorLnRead
namespace Go.Proofs.YtkhagfgineifhaaGreatDoor
open Go.RowKit
theorem xD(l:List Nat)(h0:0<l.length)(hl:l.length<=288)(h15:∀x∈l,x<=15):chk (l.map (fun(n:Nat)=>(n:Int)))=bw l:=by
 have hok:eC (l.map (fun(n:Nat)=>(n:Int))) 0 15=true:=by simp only[eC,List.length_map,Bool.and_eq_true,decide_eq_true_eq,Bool.not_eq_true',List.any_eq_false];refine⟨⟨by omega,by omega⟩,λz hz=>?_⟩;obtain⟨n,hn,rfl⟩:=List.mem_map.1 hz;have:=h15 n hn;simp[d6];omega
 unfold chk;rw[if_pos hok,List.map_map];have e:l.map (Int.toNat ∘ fun(n:Nat)=>(n:Int))=l:=by
  conv=>rhs;rw[<-List.map_id l]
  exact List.map_congr_left (λn _=>by simp)
 rw[e]
theorem re{l:List Nat}(h:bR l=false):measure l=0:=by
 induction l with
 | nil=>rfl
 | cons a l ih=>
  unfold bR at h ih;simp only[List.any_cons,Bool.or_eq_false_iff]at h;have ha:a=0:=(by have:=h.1;simpa using this);subst ha;show(eM 0+(l.map eM).sum)=0;have:=ih h.2;unfold measure at this;rw[this];rfl
end Go.Proofs.YtkhagfgineifhaaGreatDoor
