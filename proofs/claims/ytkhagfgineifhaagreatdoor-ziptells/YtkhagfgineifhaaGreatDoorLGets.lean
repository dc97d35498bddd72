import Derived.Test.YtkhagfgineifhaaGreatDoorLGet
import Derived.Test.YtkhagfgineifhaaGreatDoorCrc
set_option maxHeartbeats 1000000
namespace Go.Proofs.YtkhagfgineifhaaGreatDoor
open Go.RowKit Go.Shelf
theorem wN(k a:Nat)(g:Nat->Nat):(List.range (k+1)).map (λj=>g (a+j))=g a::(List.range k).map (λj=>g (a+1+j)):=by rw[List.range_succ_eq_map];simp only[List.map_cons,List.map_map,Nat.add_zero,List.cons.injEq,true_and];apply List.map_congr_left;intro j _;simp only[Function.comp];congr 1;omega
theorem Fw(f:Nat→Fin 256)(a n:Nat)(hn:n≤8)(k:Nat)(hk:k≤n):
  vh (upto (λj=>(n-1-j,f (a+(n-1-j)))) k)=aO ((List.range k).map (λj=>(f (a+(n-k)+j)).val)):=by
 induction k with
 | zero=>rfl
 | succ k ih=>
  have e:=wN k (a+(n-(k+1))) (λj=>(f j).val);rw[ot,rF,ih (by omega),e,aO];have hlt:aO ((List.range k).map (λj=>(f (a+(n-k)+j)).val))<256 ^ ((List.range k).map (λj=>(f (a+(n-k)+j)).val)).length:=(by apply mL;intro b hb;obtain⟨j,_,rfl⟩:=List.mem_map.1 hb;exact(f _).isLt);rw[List.length_map,List.length_range]at hlt;have Vj:(256:Nat) ^ k<=256 ^ 7:=Nat.pow_le_pow_right (by omega) (by omega);have h7:(256:Nat) ^ 7=72057594037927936:=(by decide);have e1:a+(n-(k+1))+1=a+(n-k):=(by omega);have e2:a+(n-1-k)=a+(n-(k+1)):=(by omega);rw[e1];show aO _*256 % 18446744073709551616+(f (a+(n-1-k))).val=_;rw[e2];omega
def ra(cs:List Nat)(j:Nat):Fin 256:=⟨cs[j]?.getD 0 % 256,Nat.mod_lt _ (by decide)⟩
theorem qE(cs:List Nat)(hb:∀b∈cs,b<256)(j:Nat)(hj:j<cs.length):(ra cs j).val=cs[j]:=by simp only[ra,List.getElem?_eq_getElem hj,Option.getD_some];exact Nat.mod_eq_of_lt (hb _ (List.getElem_mem hj))
theorem zY(cs:List Nat)(hb:∀b∈cs,b<256)(a n:Nat)(h:a+n<=cs.length):(List.range n).map (λj=>(ra cs (a+j)).val)=(cs.drop a).take n:=by
 apply List.ext_getElem
 ·simp;omega
 ·intro i h1 h2;simp only[List.length_map,List.length_range]at h1;simp only[List.getElem_map,List.getElem_range,List.getElem_take,List.getElem_drop];exact qE cs hb _ (by omega)
theorem Fl(w:World)(v:Value)(I:Nat→Prop)(cs:List Nat)(hsrc:Src w I v cs)(iD:∀a n c,v=.slice a n c→n≤c)(hb:∀b∈cs,b<256)(ag:cs.length≤100000000)(a n:Nat)(hn:n≤8)(nG:0<n)(h:a+n≤cs.length):
  Calls Tryz.prog 129 #[v,.int .i64 (a:Nat),.int .i64 (n:Nat)] w λe w'=>e=.returned (.tuple #[.int .u64 (eG cs a n:Nat),.int .i64 0])/\Below w.heap.size w w':=by
 obtain⟨ao,cap,rfl,Jm⟩:=hsrc;obtain⟨b,o,rfl,_,pJ⟩:=Jm (by intro e;rw[e]at h;simp at h;omega);have Jh:b<w.heap.size:=World.block_lt_of_cell? w _ (pJ a (by omega));refine(callsIn_wide (n:=3)).1 ?_;refine(LW Fence.wide 3 trivial trivial trivial rfl (by omega) w b o cs.length cap a n (ra cs) (λj hj=>by rw[qE cs hb j hj];exact pJ j hj) ag (iD _ _ _ rfl) hn nG h Jh).mono ?_;rintro e w' ⟨rfl,uR⟩;have e1:=Fw (ra cs) a n hn n (Nat.le_refl _);rw[Nat.sub_self,Nat.add_zero,zY cs hb a n h]at e1;refine⟨?_,uR⟩;rw[e1];rfl
theorem Jp(w:World)(ao:Option Addr)(len cap n:Nat)(z:Int)(hn:n≤8)(ag:len≤100000000)(h:z<0∨(len:Int)-(n:Int)<z):
  Calls Tryz.prog 129 #[.slice ao len cap,.int .i64 z,.int .i64 (n:Nat)] w λe w'=>e=.returned (.tuple #[.int .u64 0,.int .i64 20])/\w'=w:=by
 by_cases h0:z<0
 ·have Cq:decide (z<0)=true:=(by simpa using h0);clear h;go_enter Tryz.func129,Tryz.ntmps129;go_wp2_with fail;go_ret2;exact⟨rfl,rfl⟩
 ·have Cq:decide (z<0)=false:=(by simpa using h0);have pz:decide ((len:Int)-(n:Int)<z)=true:=(by simp;omega);clear h;go_enter Tryz.func129,Tryz.ntmps129;go_wp2_with fail;go_ret2;exact⟨rfl,rfl⟩
def rn(cs:List Nat)(z:Int)(n:Nat):Nat:=if 0<=z/\z+n<=cs.length then eG cs z.toNat n else 0
def tV(len:Nat)(z:Int)(n:Nat):Int:=if 0<=z/\z+n<=len then 0 else 20
theorem BD(cs:List Nat)(hb:∀b∈cs,b<256)(z:Int)(n:Nat):rn cs z n<256 ^ n:=by
 unfold rn;split
 ·exact JP cs hb _ n
 ·exact Nat.pow_pos (by omega)
theorem BU(w:World)(v:Value)(I:Nat→Prop)(cs:List Nat)(hsrc:Src w I v cs)(iD:∀a n c,v=.slice a n c→n≤c)(hb:∀b∈cs,b<256)(ag:cs.length≤100000000)(z:Int)(n:Nat)(hn:n≤8)(nG:0<n):
  Calls Tryz.prog 129 #[v,.int .i64 z,.int .i64 (n:Nat)] w λe w'=>e=.returned (.tuple #[.int .u64 (rn cs z n:Nat),.int .i64 (tV cs.length z n)])/\Below w.heap.size w w':=by
 by_cases h:0<=z/\z+n<=cs.length
 ·obtain⟨a,rfl⟩:∃a:Nat,z=a:=⟨z.toNat,by omega⟩
  refine(Fl w v I cs hsrc iD hb ag a n hn nG (by omega)).mono ?_;rintro e w' ⟨rfl,uR⟩;simp only[rn,tV,if_pos h];exact⟨rfl,uR⟩
 ·obtain⟨ao,cap,rfl,_⟩:=hsrc;refine(Jp w ao cs.length cap n z hn ag (by omega)).mono ?_;rintro e w' ⟨rfl,rfl⟩;simp only[rn,tV,if_neg h];exact⟨rfl,Below.refl _ _⟩
theorem DQ(w:World)(v:Value)(I:Nat→Prop)(cs:List Nat)(hsrc:Src w I v cs)(iD:∀a n c,v=.slice a n c→n≤c)(hb:∀b∈cs,b<256)(ag:cs.length≤100000000)(z:Int):
  Calls Tryz.prog 97 #[v,.int .i64 z] w λe w'=>e=.returned (.tuple #[.int .u16 (rn cs z 2:Nat),.int .i64 (tV cs.length z 2)])/\Below w.heap.size w w':=by
 have HC:=BU w v I cs hsrc iD hb ag z 2 (by omega) (by omega);have hV:=BD cs hb z 2;obtain⟨V,KO⟩:∃V,V=rn cs z 2:=⟨_,rfl⟩
 obtain⟨E,Nl⟩:∃E,E=tV cs.length z 2:=⟨_,rfl⟩
 rw[<-KO,<-Nl];rw[<-KO,<-Nl]at HC;rw[<-KO]at hV;have SH:V<65536:=hV;clear hV KO Nl;go_enter Tryz.func97,Tryz.ntmps97;go_wp2_with fail;refine HC.mono ?_;rintro e w' ⟨rfl,uR⟩;go_wp2_with fail;go_ret2;exact⟨by congr 4,uR⟩
theorem Es(w:World)(v:Value)(I:Nat→Prop)(cs:List Nat)(hsrc:Src w I v cs)(iD:∀a n c,v=.slice a n c→n≤c)(hb:∀b∈cs,b<256)(ag:cs.length≤100000000)(z:Int):
  Calls Tryz.prog 98 #[v,.int .i64 z] w λe w'=>e=.returned (.tuple #[.int .u32 (rn cs z 4:Nat),.int .i64 (tV cs.length z 4)])/\Below w.heap.size w w':=by
 have HC:=BU w v I cs hsrc iD hb ag z 4 (by omega) (by omega);have hV:=BD cs hb z 4;obtain⟨V,KO⟩:∃V,V=rn cs z 4:=⟨_,rfl⟩
 obtain⟨E,Nl⟩:∃E,E=tV cs.length z 4:=⟨_,rfl⟩
 rw[<-KO,<-Nl];rw[<-KO,<-Nl]at HC;rw[<-KO]at hV;have SH:V<4294967296:=hV;clear hV KO Nl;go_enter Tryz.func98,Tryz.ntmps98;go_wp2_with fail;refine HC.mono ?_;rintro e w' ⟨rfl,uR⟩;go_wp2_with fail;go_ret2;exact⟨by congr 4,uR⟩
end Go.Proofs.YtkhagfgineifhaaGreatDoor
