import Derived.Test.YtkhagfgineifhaaGreatDoorZqC
import Derived.Test.YtkhagfgineifhaaGreatDoorZpH
import Derived.Test.YtkhagfgineifhaaGreatDoorZpZ
set_option maxHeartbeats 400000
set_option maxRecDepth 100000
namespace Go.Proofs.YtkhagfgineifhaaGreatDoor
open Go.RowKit
theorem Ex(w:World)(a:Option Addr)(n c:Nat)(hn:1048576<n)(hn2:n≤100000000):
  Calls Tryz.prog 22 #[.slice a n c] w λe w'=>e=aG 2/\Same w w':=by
 have b1:decide ((n:Int)<=1048576)=false:=by simp;omega
 have b2:decide (n<=1048576)=false:=by simp;omega
 have HO:=aL w 2;clear hn;go_enter Tryz.func22,Tryz.ntmps22;go_wp2_with fail;refine HO.mono ?_;rintro e w1 ⟨rfl,hw1⟩;subst hw1;clear HO;unfold aG;go_wp2_with fail;exact⟨rfl,rfl,Kept.refl _ _⟩
theorem AQ(w:World)(a:Option Addr)(n c:Nat)(hn:n<22):
  Calls Tryz.prog 22 #[.slice a n c] w λe w'=>e=aG 81/\Same w w':=by
 have b1:decide ((n:Int)<=1048576)=true:=by simp;omega
 have b2:decide (n<=1048576)=true:=by simp;omega
 have b3:decide ((22:Int)<=(n:Int))=false:=by simp;omega
 have b4:decide (22<=n)=false:=by simp;omega
 have HO:=bh w (.int .i64 2);have HP:=aL w 81;clear hn;go_enter Tryz.func22,Tryz.ntmps22;go_wp2_with fail;refine HO.mono ?_;rintro e w1 ⟨rfl,hw1⟩;subst hw1;clear HO;go_wp2_with fail;refine HP.mono ?_;rintro e w2 ⟨rfl,hw2⟩;subst hw2;clear HP;unfold aG;go_wp2_with fail;exact⟨rfl,rfl,Kept.refl _ _⟩
theorem FQ(w:World)(b o:Nat)(c:Nat)(bs:List Nat)(n:Nat)(hL:n=bs.length)(hs:Src w (fun k=>k<w.heap.size) (.slice (some ⟨b,o,none⟩) n c) bs)(hb:∀x∈bs,x<256)(cD:n≤c)(h1:22≤n)(h2:n≤1048576)(x:Nat)(he:jP (bs.drop (n-22)) (n-22)=.error x):
  Calls Tryz.prog 22 #[.slice (some ⟨b,o,none⟩) n c] w λe w'=>e=aG x/\Same w w':=by
 have b1:decide ((n:Int)<=1048576)=true:=by simp;omega
 have b2:decide (n<=1048576)=true:=by simp;omega
 have b3:decide ((22:Int)<=(n:Int))=true:=by simp;omega
 have b4:decide (22<=n)=true:=by simp;omega
 obtain⟨p,hp⟩:∃p,p=n-22:=⟨_,rfl⟩
 have Lz:(n:Int)-22=(p:Int):=by omega
 have ml:IntKind.i64.wrap (p:Int)=(p:Int):=by rw[IntKind.wrap_i64];omega
 have i1:(0:Int)<=(p:Int):=by omega
 have i2:(p:Int)<=(n:Int):=by omega
 have i3:(n:Int)<=(c:Int):=by omega
 have HO:=bh w (.int .i64 2);have HP:=bh w (.int .i64 81);rw[<-hp]at he;have EU:(bs.drop p).length=22:=by rw[List.length_drop];omega
 have HSD:Hid (∀c',Src w (λk=>k<w.heap.size) (.slice (some ⟨b,o+p,none⟩) (bs.drop p).length c') (bs.drop p)):=hid (λc'=>by
  obtain⟨ao,cap,e,h9⟩:=hs;simp only[Value.slice.injEq]at e;obtain⟨e1,e2,e3⟩:=e;refine⟨_,_,rfl,λ_=>⟨b,o+p,rfl,?_⟩⟩;obtain⟨b',o',e4,h5,h6⟩:=h9 (λe=>by rw[e]at hL;simp at hL;omega);rw[<-e1]at e4;simp only[Option.some.injEq,Addr.mk.injEq,and_true]at e4;obtain⟨rfl,rfl⟩:=e4;refine⟨h5,λj hj=>?_⟩;rw[List.length_drop]at hj;have:=h6 (p+j) (by omega);rw[List.getElem_drop,Nat.add_assoc];exact this)
 have HE:Hid (∀c',22<=c'->Calls Tryz.prog 42 #[.slice (some ⟨b,o+p,none⟩) 22 c',.int .i64 (p:Nat)] w λe w'=>EndA w w' (jP (bs.drop p) p) e):=hid (λc' h9=>by
  have h8:=Bz w.heap.size w (bs.drop p) (some ⟨b,o+p,none⟩) c' p (HSD.out c') (by omega) (Nat.le_refl _) (λx hx=>hb x (List.mem_of_mem_drop hx)) (by omega) (by omega) (by simp);rw[EU]at h8;exact h8)
 have Jc:n-p=22:=by omega
 have HER:Hid (jP (bs.drop p) p=.error x):=he;clear hs hb h1 h2 EU he hp hL;go_enter Tryz.func22,Tryz.ntmps22;go_wp2_with fail;refine HO.mono ?_;rintro e w1 ⟨rfl,hw1⟩;subst hw1;clear HO;go_wp2_with fail;refine HP.mono ?_;rintro e w2 ⟨rfl,hw2⟩;subst hw2;clear HP;go_wp2_with fail;refine(HE.out _ (by omega)).mono ?_;intro e w3 h3;obtain⟨rfl,hk3⟩:=h3.2 x HER.out;have HK3:Hid (Same w2 w3):=hk3;clear h3 hk3;unfold aG;go_wp2_with fail;exact⟨rfl,rfl,HK3.out⟩
end Go.Proofs.YtkhagfgineifhaaGreatDoor
