import Derived.Test.YtkhagfgineifhaaGreatDoorFresh
import Derived.Test.YtkhagfgineifhaaGreatDoorBlk
import Derived.Lib.SliceRun
set_option maxHeartbeats 1000000
set_option maxRecDepth 100000
namespace Go.Proofs.YtkhagfgineifhaaGreatDoor
open Go.RowKit
theorem Row.rest{w:World}{ao:Option Addr}{cap:Nat}{bs:List Nat}(h:Row w (.slice ao bs.length cap) bs)(k:Nat)(hk:k≤bs.length)(a':Option Addr)(c':Nat)(ha:k<bs.length→∃g,ao=some ⟨g,0,none⟩∧a'=some ⟨g,k,none⟩):
  Src w (λj=>(Value.slice ao bs.length cap).ownBlock=some j) (.slice a' (bs.length-k) c') (bs.drop k):=by
 refine⟨a',c',by rw[List.length_drop],λbm=>?_⟩;have hlt:k<bs.length:=by refine Classical.byContradiction (λhc=>bm (List.drop_eq_nil_of_le (by omega)))
 obtain⟨g,rfl,rfl⟩:=ha hlt;refine⟨g,k,rfl,rfl,λj hj=>?_⟩;have Cw:k+j<bs.length:=by rw[List.length_drop]at hj;omega
 have:=h.cell (k+j) Cw;rw[List.getElem_drop];exact this
theorem vM(w:World):Row (w.alloc (.cells #[] 5)) (.slice (some ⟨w.heap.size,0,none⟩) 0 0) []:=
 ⟨rfl,.inr ⟨w.heap.size,0,#[],rfl,Nat.zero_le _,Blk.new w #[] _,Nat.le_refl _,Nat.zero_le _,rfl,rfl⟩⟩
theorem AA(w:World)(v:Value)(I:Nat→Prop)(cs:List Nat)(hs:Src w I v cs)(hn:cs.length≤1000000000):
  Calls Tryz.prog 101 #[v] w λe w'=>∃v',e=.returned v'/\Fresh w w' v' cs:=by
 obtain⟨ao,cap,rfl,hc⟩:=id hs;have Tz:∀(w:World) (a:Option Addr) (n c n' c':Nat),(binOp .eql 25 (.slice a n c) (.slice none n' c')).run Tryz.prog w=.ok (.bool a.isNone) w:=λw a n c n' c'=>Lib.run_eql_slice_nil w _ _ a n c n' c' Tryz.underlying25
 cases ao with
 | none=>
  have e0:cs=[]:=Classical.byContradiction (λh=>by obtain⟨_,_,e,_⟩:=hc h;cases e);subst e0;clear hs hc;go_enter Tryz.func101,Tryz.ntmps101;go_wp2_with fail;go_ret;exact⟨_,rfl,World.ownsRow_nil w 0 5 1,Kept.refl _ _,λk e=>by cases e⟩
 | some ad=>
  have HS:Hid (Src w I (.slice (some ad) cs.length cap) cs):=hs;have HR0:Hid (Row (w.alloc (.cells #[] 5)) (.slice (some ⟨w.heap.size,0,none⟩) 0 0) []):=hid (vM w);have HK0:Hid (Same w (w.alloc (.cells #[] 5))):=hid ((Kept.refl _ w).alloc _);obtain⟨L,hL⟩:∃L,L=cs.length:=⟨_,rfl⟩
  have HL:Hid (L=cs.length):=hL;rw[<-hL]at HS hn ⊢;clear hs hc hL;go_enter Tryz.func101,Tryz.ntmps101;have HLN:Hid (([]:List Nat).length+cs.length<=1000000000000):=hid (by have:=HL.out;simp;omega);go_wp2_with (at_builtin;refine bi _ rfl (.tmp 5) (.tmp 6) rfl (.slice (some ⟨w.heap.size,0,none⟩) 0 0) [] rfl HR0.out I (.slice (some ad) L cap) cs rfl (λn c e=>by cases e) (HS.out.kept HK0.out (λ_ _ _ f=>f)) HLN.out ?_);intro v3 w3 hr3 jW Fc;have HR3:Hid (Row w3 v3 cs):=hid (by simpa using hr3);have HK3:Hid (Same w w3):=hid (HK0.out.grown jW (λj e=>.inr (by
   have e1:w.heap.size=j:=(by simpa[Value.ownBlock]using e);omega)))
  have HO3:Hid (∀k,v3.ownBlock=some k->w.heap.size<=k):=hid (λk e=>by
   rcases Fc with h9 | h9
   ·rw[h9]at e;have e1:w.heap.size=k:=(by simpa[Value.ownBlock]using e);omega
   ·rw[h9]at e;have e1:w.heap.size+1=k:=(by simpa using e);omega)
  obtain⟨a3,U7,sk,_⟩:=hr3.shape;clear hr3 jW Fc;go_wp2_with fail;go_ret;exact⟨_,rfl,HR3.out,HK3.out,HO3.out⟩
theorem gV(w:World)(v:Value)(I:Nat→Prop)(cs:List Nat)(hs:Src w I v cs)(hn:cs.length≤2000000):
  Calls Tryz.prog 101 #[v] w λe w'=>∃v',e=.returned v'/\Fresh w w' v' cs:=AA w v I cs hs (Nat.le_trans hn (by decide))
end Go.Proofs.YtkhagfgineifhaaGreatDoor
