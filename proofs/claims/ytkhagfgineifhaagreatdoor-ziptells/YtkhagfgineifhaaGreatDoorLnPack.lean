import Derived.Test.YtkhagfgineifhaaGreatDoorLnPackM
import Derived.Test.YtkhagfgineifhaaGreatDoorLnRef
namespace Go.Proofs.YtkhagfgineifhaaGreatDoor
open Go.RowKit
theorem zh(ns:List Nat)(i n:Nat)(hi:i<ns.length)(hn:n=1+bJ ns[i] (ns.drop (i+1))):ba (ns.drop i)=eI ns[i] n++ba (ns.drop (i+n)):=by rw[List.drop_eq_getElem_cons hi,gY,List.drop_drop,hn];congr 3;omega
end Go.Proofs.YtkhagfgineifhaaGreatDoor
