import Derived.Test.YtkhagfgineifhaaGreatDoorZpXd
set_option maxHeartbeats 400000
set_option maxRecDepth 100000
namespace Go.Proofs.YtkhagfgineifhaaGreatDoor
open Go.RowKit
def UnpZ(w w':World)(o:Except Nat (List Nat))(e:Ending):Prop:=
 (∀d,o=.ok d->e=.returned (.string (bH d)))/\(∀n,o=.error n->e=aG n)/\Same w w'
theorem uO(w:World)(m:Mk)(a:Option Addr)(n c:Nat)(I:Nat→Prop)(bs:List Nat)(hs:Src w I (.slice a n c) bs)(hb:∀b∈bs,b<256)(hl:bs.length≤100000)(hw:m.way=0)(hq:more 0 bs=m.sum):
  Calls Tryz.prog 30 #[.agg (jr m (.slice a n c))] w λe w'=>UnpZ w w' (.ok bs) e:=by
 have HS:Hid (Src w I (.slice a n c) bs):=hs;have HB:Hid ((∀b∈bs,b<256)/\bs.length<=100000):=hid ⟨hb,hl⟩;have w8:((m.way:Int)==8)=false:=by simp;omega
 clear hs hb hl;obtain⟨W1,hW1⟩:∃W,W=w.alloc (.cells (jr m (.slice a n c)) 60):=⟨_,rfl⟩
 obtain⟨xb,ie⟩:∃b,b=w.heap.size:=⟨_,rfl⟩
 have HK1:Hid (Same w W1):=hid (by rw[hW1];exact(Kept.refl _ w).alloc _);have HX1:Hid (Blk W1 xb (jr m (.slice a n c)) 60):=hid (by rw[hW1,ie];exact Blk.new w _ _);have q1:W1.cell? ⟨xb,1,none⟩=some (.int .u32 (m.sum:Nat)):=HX1.out.cell 1;have HSN:Hid (∀wx,Same W1 wx->Calls Tryz.prog 35 #[.slice a n c] wx λe w'=>e=.returned (.int .u32 (more 0 bs:Nat))/\w'=wx):=hid (λwx hk=>jb wx _ _ _ (HS.out.kept (Same.trans HK1.out hk) (λ_ _ _ f=>f)) HB.out.1 (by have:=HB.out.2;omega));have HGS:Hid (∀wx,Same W1 wx->(convert 25 9 (.slice a n c)).run Tryz.prog wx=.ok (.string (bH bs)) wx):=hid (λwx hk=>GX (HS.out.kept (Same.trans HK1.out hk) (λ_ _ _ f=>f)) (by obtain⟨_,_,e,_⟩:=HS.out;simp only[Value.slice.injEq]at e;exact e.2.1.symm));obtain⟨sm,gp⟩:∃s,s=more 0 bs:=⟨_,rfl⟩
 rw[<-gp]at HSN hq;unfold jr at hW1 ⊢
 ·have Rs:((sm:Int)==(m.sum:Int))=true:=(by simp;omega);clear gp hq;go_enter Tryz.func30,Tryz.ntmps30;go_wp2_with fail;rw[hw]at hW1;rw[<-ie];have e1:w.alloc (Obj.cells #[Value.int .u16 0,.int .u32 (m.sum:Nat),.int .u32 (m.packed:Nat),.int .u32 (m.size:Nat),.string (bH m.name),.slice a n c] 60)=W1:=hW1.symm;rw[e1];clear hW1 e1 ie;go_region_held3 (λw'=>w'.cell? ⟨xb,1,none⟩=some (.int .u32 (m.sum:Nat)))
   (first
    | (go_split_ands;assumption)
    | go_keep)
   (first
    | (go_at_call 35;refine(HSN.out _ (by first | exact Kept.refl _ _ | exact(Kept.refl _ _).drew | exact(Kept.refl _ _).drewN _)).mono ?_;rintro e w4 ⟨rfl,hw4⟩;subst hw4)
    | (go_at_call 29;refine(bh _ _).mono ?_;rintro e w5 ⟨rfl,jU⟩;subst jU))
  all_goals
   have gs:=HGS.out W1.drew ((Kept.refl _ W1).drew);go_wp2_with fail;go_ret;exact⟨λd e=>by simp only[Except.ok.injEq]at e;subst e;rfl,λk e=>by simp at e,Same.trans HK1.out ((Kept.refl _ W1).drew)⟩
end Go.Proofs.YtkhagfgineifhaaGreatDoor
