import Derived.Lib.SliceRun
import Derived.Test.YtkhagfgineifhaaGreatDoorJ3
set_option maxHeartbeats 1000000
set_option maxRecDepth 100000
namespace Go.Proofs.YtkhagfgineifhaaGreatDoor
open Go.RowKit
theorem Row.rest{w:World}{ao:Option Addr}{cap:Nat}{bs:List Nat}(h:Row w (.slice ao bs.length cap) bs)(k:Nat)(hk:k≤bs.length)(a':Option Addr)(c':Nat)(ha:k<bs.length→∃g,ao=some ⟨g,0,none⟩∧a'=some ⟨g,k,none⟩):
  Src w (λj=>(Value.slice ao bs.length cap).ownBlock=some j) (.slice a' (bs.length-k) c') (bs.drop k):=by
 refine⟨a',c',by rw[List.length_drop],λbm=>?_⟩;have hlt:k<bs.length:=by refine Classical.byContradiction (λhc=>bm (List.drop_eq_nil_of_le (by omega)))
 obtain⟨g,rfl,rfl⟩:=ha hlt;refine⟨g,k,rfl,rfl,λj hj=>?_⟩;have Cw:k+j<bs.length:=by rw[List.length_drop]at hj;omega
 have:=h.cell (k+j) Cw;rw[List.getElem_drop];exact this
theorem vM(w:World):Row (w.alloc (.cells #[] 5)) (.slice (some ⟨w.heap.size,0,none⟩) 0 0) []:=
 ⟨rfl,.inr ⟨w.heap.size,0,#[],rfl,Nat.zero_le _,Blk.new w #[] _,Nat.le_refl _,Nat.zero_le _,rfl,rfl⟩⟩
theorem AA(w:World)(v:Value)(I:Nat→Prop)(cs:List Nat)(hs:Src w I v cs)(hn:cs.length≤1000000000):
  Calls Tryz.prog 101 #[v] w λe w'=>∃v',e=.returned v'/\Fresh w w' v' cs:=by
 obtain⟨ao,cap,rfl,hc⟩:=id hs;have Tz:∀(w:World) (a:Option Addr) (n c n' c':Nat),(binOp .eql 25 (.slice a n c) (.slice none n' c')).run Tryz.prog w=.ok (.bool a.isNone) w:=λw a n c n' c'=>Lib.run_eql_slice_nil w _ _ a n c n' c' Tryz.underlying25
 cases ao with
 | none=>
  have e0:cs=[]:=Classical.byContradiction (λh=>by obtain⟨_,_,e,_⟩:=hc h;cases e);subst e0;clear hs hc;go_enter Tryz.func101,Tryz.ntmps101;go_wp2_with fail;go_ret;exact⟨_,rfl,World.ownsRow_nil w 0 5 1,Kept.refl _ _,λk e=>by cases e⟩
 | some ad=>
  have HS:Hid (Src w I (.slice (some ad) cs.length cap) cs):=hs;have HR0:Hid (Row (w.alloc (.cells #[] 5)) (.slice (some ⟨w.heap.size,0,none⟩) 0 0) []):=hid (vM w);have HK0:Hid (Same w (w.alloc (.cells #[] 5))):=hid ((Kept.refl _ w).alloc _);obtain⟨L,hL⟩:∃L,L=cs.length:=⟨_,rfl⟩
  have HL:Hid (L=cs.length):=hL;rw[<-hL]at HS hn ⊢;clear hs hc hL;go_enter Tryz.func101,Tryz.ntmps101;have HLN:Hid (([]:List Nat).length+cs.length<=1000000000000):=hid (by have:=HL.out;simp;omega);go_wp2_with (at_builtin;refine bi _ rfl (.tmp 5) (.tmp 6) rfl (.slice (some ⟨w.heap.size,0,none⟩) 0 0) [] rfl HR0.out I (.slice (some ad) L cap) cs rfl (λn c e=>by cases e) (HS.out.kept HK0.out (λ_ _ _ f=>f)) HLN.out ?_);intro v3 w3 hr3 jW Fc;have HR3:Hid (Row w3 v3 cs):=hid (by simpa using hr3);have HK3:Hid (Same w w3):=hid (HK0.out.grown jW (λj e=>.inr (by
   have e1:w.heap.size=j:=(by simpa[Value.ownBlock]using e);omega)))
  have HO3:Hid (∀k,v3.ownBlock=some k->w.heap.size<=k):=hid (λk e=>by
   rcases Fc with h9 | h9
   ·rw[h9]at e;have e1:w.heap.size=k:=(by simpa[Value.ownBlock]using e);omega
   ·rw[h9]at e;have e1:w.heap.size+1=k:=(by simpa using e);omega)
  obtain⟨a3,U7,sk,_⟩:=hr3.shape;clear hr3 jW Fc;go_wp2_with fail;go_ret;exact⟨_,rfl,HR3.out,HK3.out,HO3.out⟩
theorem gV(w:World)(v:Value)(I:Nat→Prop)(cs:List Nat)(hs:Src w I v cs)(hn:cs.length≤2000000):
  Calls Tryz.prog 101 #[v] w λe w'=>∃v',e=.returned v'/\Fresh w w' v' cs:=AA w v I cs hs (Nat.le_trans hn (by decide))
def Whole(w:World)(v:Value):Prop:=∀g n c,v=.slice (some ⟨g,0,none⟩) n c->∃ds,Row w (.slice (some ⟨g,0,none⟩) c c) ds
theorem Whole.kept{F:Nat->Prop}{w w':World}{v:Value}(h:Whole w v)(hk:Kept F w w')(hn:∀k,v.ownBlock=some k->¬F k):Whole w' v:=by intro g n c e;obtain⟨ds,hr⟩:=h g n c e;exact⟨ds,hr.kept hk (λk e2=>hn k (by rw[e];exact e2))⟩
theorem CT(w:World):Whole w (.slice none 0 0):=λg n c e=>by cases e
theorem n7(w:World)(ty:TypeId)(g:Nat)(hrow:Row w (.slice (some ⟨g,0,none⟩) 0 0) [])(a:Addr)(c:Nat)(cs:List Nat)(eY:gg w a cs)(ag:cs.length≤1000000000000)(v':Value)(w':World)
  (hr:(Builtin.append_ #[25,25] ty #[.slice (some ⟨g,0,none⟩) 0 0,.slice (some a) cs.length c]).run Tryz.prog w=.ok v' w') (lw:Row w' v' ([]++cs)):Whole w' v':=by
 obtain⟨i0,hi,fG,iN,gj⟩:=info_parts Tryz.info8;have dA:i0.size=1:=iN;have hl:(cs.map be).length=cs.length*1:=by simp
 by_cases h0:cs=[]
 ·subst h0;obtain⟨w2,hr2,_⟩:=run_append_fits (P:=Tryz.prog) w 0 25 ty 5 i0 1 Tryz.underlying25 hi iN g 0 0 [] hrow a 0 c [] rfl (by intro j u hu;simp at hu) (by simp) (Nat.le_refl _);have hr3:(Builtin.append_ #[25,25] ty #[.slice (some ⟨g,0,none⟩) 0 0,.slice (some a) 0 c]).run Tryz.prog w=.ok v' w':=hr;rw[hr3]at hr2;simp only[Result.ok.injEq]at hr2;intro g9 n9 c9 e9;have e8:v'=.slice (some ⟨g,0,none⟩) 0 0:=hr2.1;rw[e8]at e9 lw;simp only[Value.slice.injEq,Option.some.injEq,Addr.mk.injEq,and_true]at e9;obtain⟨rfl,rfl,rfl⟩:=e9;exact⟨[],lw⟩
 ·have uT:0<cs.length:=by cases cs with | nil=>exact absurd rfl h0 | cons _ _=>simp
  have hr2:=run_append_grow (P:=Tryz.prog) w 25 ty 5 i0 (.int .u8 0) Tryz.underlying25 hi fG ⟨g,0,none⟩ 0 0 [] (by simp) (by intro j u hu;simp at hu) a cs.length c (cs.map be) (by rw[dA];simp) eY (by omega) (by omega) (growslice_fits (by omega) (by rw[gj];omega));rw[hr]at hr2;simp only[Result.ok.injEq]at hr2;have N8:=grownCap_ge w (0+cs.length) 0 5;have rP:=grownCap_le_maxLen w (0+cs.length) 0 5 (by simp only[maxLen];omega);obtain⟨K,hK⟩:∃K,K=grownCap w (0+cs.length) 0 5:=⟨_,rfl⟩
  rw[<-hK]at hr2 N8 rP;obtain⟨e8,e9⟩:=hr2;intro g9 n9 c9 e7;rw[e8]at e7;simp only[Value.slice.injEq,Option.some.injEq,Addr.mk.injEq,and_true]at e7;obtain⟨rfl,_,rfl⟩:=e7;obtain⟨cur,lq⟩:∃cur,cur=([]:List Value).toArray++(cs.map be).toArray++Builtin.zeroCells (Value.int .u8 0).cells (K-(0+cs.length)):=⟨_,rfl⟩
  have ey:cur.toList=(cs++List.replicate (K-cs.length) 0).map be:=(by have e:(Value.int .u8 0).cells=#[.int .u8 0]:=rfl;rw[lq];simp[Builtin.zeroCells,e,be];refine List.ext_getElem (by simp) (λi h1 h2=>?_);simp[Nat.mod_one]);have rO:(cs++List.replicate (K-cs.length) 0).length=K:=(by simp;omega);rw[<-lq]at e9;refine⟨cs++List.replicate (K-cs.length) 0,by simp,.inr ⟨w.heap.size,K,cur,by rw[rO],Nat.zero_le _,?_,by omega,rP,?_,?_⟩⟩
  ·rw[e9];exact Blk.new w.drew cur 5
  ·have:=congrArg List.length ey;rw[List.length_map,rO]at this;simpa using this
  ·rw[ey,Nat.mul_one,List.take_of_length_le (by simp)]
theorem lj{ops:Array Oper}{rest:List Oper}{o:Oper}{a:Act}{Q:Exit→Act→World→Prop}(w:World)(jS:o.guard=none)(s x:Operand)
  (ho:o.op=.call {callee:=.builtin .append,args:=#[s,x],argTypes:=#[25,25]})
  (g:Nat) (hs:a.eval s=.slice (some ⟨g,0,none⟩) 0 0) (hrow:Row w (.slice (some ⟨g,0,none⟩) 0 0) []) (I:Nat->Prop) (ad:Addr) (n c:Nat) (cs:List Nat) (hx:a.eval x=.slice (some ad) n c) (hsrc:Src w I (.slice (some ad) n c) cs) (ag:cs.length<=1000000000000)
  (h:∀v' w',Row w' v' cs->Whole w' v'->w.grownBy w' (some g)->(v'.ownBlock=some g\/v'.ownBlock=some w.heap.size)->wpList Tryz.prog ops Q rest (a.put o.dst v') w'):wpList Tryz.prog ops Q (o::rest) a w:=by
 have hat:=Src.at hsrc;obtain⟨hn,hb⟩:=hat;subst hn;have eY:gg w ad cs:=by
  by_cases h0:cs=[]
  ·subst h0;intro j u hu;simp at hu
  ·obtain⟨a',e,jD⟩:=hb h0;injection e with e;subst e;exact jD
 refine wpList_plain jS λK hK=>?_
 obtain⟨v',w',hr,h2,h3,h4⟩:=gI w o.type (.slice (some ⟨g,0,none⟩) 0 0) [] hrow ad c cs eY (by simpa using ag);have h5:=n7 w o.type g hrow ad c cs eY ag v' w' hr h2;unfold Oper.wp execOp;simp only[ho,resolve,invoke,builtin,Sem.run_bind,Sem.run_pure,Result.andThen_ok,List.map_toArray,List.map_cons,List.map_nil,hs,hx,hr];exact hK _ _ (h v' w' (by simpa using h2) h5 h3 h4)
theorem wW(w:World)(v:Value)(I:Nat→Prop)(cs:List Nat)(hs:Src w I v cs)(hn:cs.length≤1000000000):
  Calls Tryz.prog 101 #[v] w λe w'=>∃v',e=.returned v'/\Fresh w w' v' cs/\Whole w' v':=by
 obtain⟨ao,cap,rfl,hc⟩:=id hs;have Tz:∀(w:World) (a:Option Addr) (n c n' c':Nat),(binOp .eql 25 (.slice a n c) (.slice none n' c')).run Tryz.prog w=.ok (.bool a.isNone) w:=λw a n c n' c'=>Lib.run_eql_slice_nil w _ _ a n c n' c' Tryz.underlying25
 cases ao with
 | none=>
  have e0:cs=[]:=Classical.byContradiction (λh=>by obtain⟨_,_,e,_⟩:=hc h;cases e);subst e0;clear hs hc;go_enter Tryz.func101,Tryz.ntmps101;go_wp2_with fail;go_ret;exact⟨_,rfl,⟨World.ownsRow_nil w 0 5 1,Kept.refl _ _,λk e=>by cases e⟩,CT _⟩
 | some ad=>
  have HS:Hid (Src w I (.slice (some ad) cs.length cap) cs):=hs;have HR0:Hid (Row (w.alloc (.cells #[] 5)) (.slice (some ⟨w.heap.size,0,none⟩) 0 0) []):=hid (vM w);have HK0:Hid (Same w (w.alloc (.cells #[] 5))):=hid ((Kept.refl _ w).alloc _);obtain⟨L,hL⟩:∃L,L=cs.length:=⟨_,rfl⟩
  have HL:Hid (L=cs.length):=hL;rw[<-hL]at HS hn ⊢;clear hs hc hL;go_enter Tryz.func101,Tryz.ntmps101;have HLN:Hid (cs.length<=1000000000000):=hid (by have:=HL.out;omega);go_wp2_with (at_builtin;refine lj _ rfl (.tmp 5) (.tmp 6) rfl w.heap.size rfl HR0.out I ad L cap cs rfl (HS.out.kept HK0.out (λ_ _ _ f=>f)) HLN.out ?_);intro v3 w3 hr3 hw3 jW Fc;have HR3:Hid (Row w3 v3 cs):=hr3;have HW3:Hid (Whole w3 v3):=hw3;have HK3:Hid (Same w w3):=hid (HK0.out.grown jW (λj e=>.inr (by injection e with e;omega)));have HO3:Hid (∀k,v3.ownBlock=some k->w.heap.size<=k):=hid (λk e=>by
   rcases Fc with h9 | h9
   ·rw[h9]at e;injection e with e;omega
   ·rw[h9]at e;have e1:w.heap.size+1=k:=(by simpa using e);omega)
  obtain⟨a3,U7,sk,_⟩:=hr3.shape;clear hr3 jW Fc hw3;go_wp2_with fail;go_ret;exact⟨_,rfl,⟨HR3.out,HK3.out,HO3.out⟩,HW3.out⟩
theorem ug(w:World)(v:Value)(I:Nat→Prop)(cs:List Nat)(hs:Src w I v cs)(hn:cs.length≤2000000):
  Calls Tryz.prog 101 #[v] w λe w'=>∃v',e=.returned v'/\Fresh w w' v' cs/\Whole w' v':=wW w v I cs hs (Nat.le_trans hn (by decide))
end Go.Proofs.YtkhagfgineifhaaGreatDoor
