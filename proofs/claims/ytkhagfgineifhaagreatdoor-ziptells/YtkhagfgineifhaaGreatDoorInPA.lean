import Derived.Test.YtkhagfgineifhaaGreatDoorInPz
set_option maxHeartbeats 2000000
set_option maxRecDepth 100000
namespace Go.Proofs.YtkhagfgineifhaaGreatDoor
open Go.RowKit
theorem Tab.lt{w:World}(h:Tab w):0<w.heap.size:=World.block_lt_of_cell? w _ (h 0 (by decide))
theorem SI.init(w:World)(h most:Nat)(hs:Sm w h most (.slice none 0 0) (.pointer none) (.slice none 0 0) 0 55)(hm:most<=16384)(hT:Tab w)(hh:h≠0):∃ρ:bP,SI w ρ h most 55 (.slice none 0 0) [] ps0 (.slice none 0 0) (.pointer none)/\(∀j,ρ j=0\/de (ρ j))/\(∀j,iG (ρ j)->j=h)/\(∀j,j≠h->j≠0->ρ j=0):=by
 refine⟨λj=>if j=h then 1 else if j=0 then 10 else 0,⟨hs,World.ownsRow_nil w 0 5 1,Nat.zero_le _,hm,rfl,GR _,World.ownsRow_nil w 0 5 1,λb hb=>(by simp at hb),hT,if_pos rfl,λk e=>(by cases e),λk e=>(by cases e),?_,λj hj=>?_⟩,λj=>?_,λj hj=>?_,λj h1 h2=>?_⟩
 ·simp only;rw[if_neg (λe=>hh e.symm),if_pos trivial]
 ·by_cases h1:j=h
  ·rw[h1];exact hs.lt
  ·rw[if_neg h1]at hj;by_cases h2:j=0
   ·rw[h2];exact hT.lt
   ·rw[if_neg h2]at hj;exact absurd rfl hj
 ·simp only;by_cases h1:j=h
  ·rw[if_pos h1];exact .inr (.inl rfl)
  ·rw[if_neg h1];by_cases h2:j=0
   ·rw[if_pos h2];exact .inr (by unfold de;omega)
   ·rw[if_neg h2];exact .inl rfl
 ·simp only at hj;refine Classical.byContradiction (λh1=>?_);rw[if_neg h1]at hj;by_cases h2:j=0
  ·rw[if_pos h2]at hj;unfold iG at hj;omega
  ·rw[if_neg h2]at hj;unfold iG at hj;omega
 ·simp only;rw[if_neg h1,if_neg h2]
inductive Rf(w w':World)(cs:List Nat)(most:Nat)(x:Ending):Prop
 | done (t:Ps) (v':Value) (he:Ends (ae cs) most ps0 t 0) (hx:x=.returned (.tuple #[v',.int .i64 (((t.c+7) / 8:Nat):Int),.int .i64 0])) (hr:Row w' v' t.out) (hv:∀k,v'.ownBlock=some k->w.heap.size<=k) (hk:Same w w') (hw:Whole w' v')
 | fail (t:Ps) (er:Nat) (he:Ends (ae cs) most ps0 t er) (h0:er≠0) (hx:x=.returned (.tuple #[.slice none 0 0,.int .i64 0,.int .i64 (er:Nat)])) (hk:Same w w')
theorem Ee(w:World)(v:Value)(I:Nat→Prop)(cs:List Nat)(most:Nat)(hv:Src w I v cs)(hb:∀b∈cs,b<256)(fB:∀n c,v=.slice none n c→n=0∧c=0)(ag:cs.length≤2000000)(hm:most≤16384)(hT:Tab w):
  Calls Tryz.prog 46 #[v,.int .i64 (most:Nat)] w λx w'=>Rf w w' cs most x:=by
 have HN:=Ac w most hm;have HV:Hid (Src w I v cs):=hv;have HB:Hid (∀b∈cs,b<256):=hb;have HNIL:Hid (∀n c,v=.slice none n c->n=0/\c=0):=fB;have HT:Hid (Tab w):=hT;obtain⟨av,cv,A1,_⟩:=id hv;obtain⟨nv,EC⟩:∃n,n=cs.length:=⟨_,rfl⟩
 rw[<-EC]at A1;subst A1;have HNV:Hid (nv=cs.length):=EC;have rO:nv<=2000000:=by omega
 clear hv hb fB hT EC ag;go_enter Tryz.func46,Tryz.ntmps46;go_wp2_with fail;refine HN.mono ?_;rintro x w1 ⟨rfl,hsm1,hk1⟩;have Q1:=HT.out.lt;obtain⟨ρ,hsi,nG,h4,_⟩:=SI.init w1 w.heap.size most hsm1 hm (HT.out.kept hk1 (λf=>f)) (by omega);have HF:=zU w1 ρ w.heap.size most _ [] ps0 _ _ hsi nG (by decide) (.slice av nv cv) I cs (HV.out.kept hk1 (λ_ _ _ f=>f)) HB.out HNIL.out (by rw[<-HNV.out];simp;omega);have HK1:Hid (Same w w1):=hk1;have H4:Hid (∀j,iG (ρ j)->j=w.heap.size):=h4;clear hsm1 hk1 hsi nG h4 HN;go_wp2_with fail;refine HF.mono ?_;rintro x w2 hf;have HKK:Hid (∀w3,Kept (λj=>iG (ρ j)) w1 w3->Same w w3):=hid (λw3 hk=>Kept.trans HK1.out hk (λ_ _ f=>f) (λj hj f=>by have:=H4.out j f;omega));rw[List.nil_append]at hf;clear HF;cases hf with
 | done t v' va' he hx hr iO hs ha UK Bd hk hw=>
  subst hx;have HW:Hid (Whole w2 v'):=hw;clear hw;have HC:=lU w2 w.heap.size _ _ _ _ _ _ hs;have c3:=hs.cell 3;simp at c3;obtain⟨a3,U7,A9,_⟩:=ha.shape;obtain⟨n3,hn3⟩:∃n,n=(cs.drop ((t.c+7) / 8)).length:=⟨_,rfl⟩
  rw[<-hn3]at A9;subst A9;have ey:t.c<=8*cs.length:=by have:=(he.inv (ay cs) (GR _)).1.le;rwa [aB]at this
  obtain⟨q,hq⟩:∃q,q=(t.c+7) / 8:=⟨_,rfl⟩
  have jE:(nv:Int)-(n3:Int)=(q:Int):=(by have:=HNV.out;rw[List.length_drop]at hn3;omega);have Zz:IntKind.i64.wrap (q:Int)=(q:Int):=(by rw[IntKind.wrap_i64];omega);have HE:Hid (Ends (ae cs) most ps0 t 0):=he;have HR:Hid (Row w2 v' t.out):=hid (by simpa[ps0]using hr);have HVN:Hid (∀k,v'.ownBlock=some k->w.heap.size<=k):=hid (λk e=>Nat.le_trans HK1.out.size (iO k e));have HK2:Hid (Same w w2):=hid (HKK.out w2 hk);have HQ:Hid (q=(t.c+7) / 8):=hq;obtain⟨a5,jT,gt,_⟩:=HR.out.shape;generalize t.out.length=n5 at gt;subst gt;clear he hr iO hs ha UK Bd hk hq hn3 ey HKK;go_wp2_with fail;refine HC.mono ?_;rintro x w3 ⟨rfl,hw3⟩;subst hw3;clear HC;go_wp2_with fail;go_quiet (fail);go_wp2_with fail;refine bodyPost_ret (v:=.tuple #[.slice a5 n5 jT,.int .i64 (q:Nat),.int .i64 0]) (by simp[results,Tryz.results46,go_sem]) rfl ?_;exact .done t _ HE.out (by rw[<-HQ.out]) (HR.out.kept ((Kept.refl (λ_=>False) _).drewN _) (λ_ _ f=>f)) HVN.out (HK2.out.drewN _) (HW.out.kept ((Kept.refl (λ_=>False) _).drewN _) (λ_ _ f=>f))
 | wait t v' va' ρ' vl bv he hx hr iO hs hn ho hk=>
  subst hx;have HC:=lU w2 w.heap.size _ _ _ _ _ _ hs.sm;have HE:Hid (Ends (ae cs) most ps0 t 55):=he;have HK2:Hid (Same w w2):=hid (HKK.out w2 hk);obtain⟨a5,jT,gt,_⟩:=hr.shape;generalize (t.out.drop ps0.out.length).length=n5 at gt;subst gt;clear he hr iO hs hn ho hk HKK;go_wp2_with fail;refine HC.mono ?_;rintro x w3 ⟨rfl,hw3⟩;subst hw3;clear HC;go_wp2_with fail;refine bodyPost_ret (v:=.tuple #[.slice none 0 0,.int .i64 0,.int .i64 55]) (by simp[results,Tryz.results46,go_sem]) rfl ?_;exact .fail t 55 HE.out (by decide) rfl HK2.out
 | fail t er he h0 h5 hx hs hk=>
  subst hx;have HC:=lU w2 w.heap.size _ _ _ _ _ _ hs;have HE:Hid (Ends (ae cs) most ps0 t er):=he;have HE0:Hid (er≠0):=h0;have lL:((er:Int) != 0)=true:=(by simp;omega);have HK2:Hid (Same w w2):=hid (HKK.out w2 hk);clear he hs hk HKK h0 h5;go_wp2_with fail;refine HC.mono ?_;rintro x w3 ⟨rfl,hw3⟩;subst hw3;clear HC;go_wp2_with fail;refine bodyPost_ret (v:=.tuple #[.slice none 0 0,.int .i64 0,.int .i64 (er:Nat)]) (by simp[results,Tryz.results46,go_sem]) rfl ?_;exact .fail t er HE.out HE0.out rfl HK2.out
end Go.Proofs.YtkhagfgineifhaaGreatDoor
