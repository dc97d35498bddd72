import Derived.Test.YtkhagfgineifhaaGreatDoorZpQ
import Derived.Deep.RegionHeld3
import Derived.Lib.AppendStr
set_option maxHeartbeats 400000
set_option maxRecDepth 100000
namespace Go.Proofs.YtkhagfgineifhaaGreatDoor
open Go.RowKit
theorem CP(cs:List Nat)(h:∀b∈cs,b<256):Lib.strCells (bH cs)=cs.map be:=by unfold Lib.strCells bH;simp only[List.map_map];refine List.map_congr_left (λb hb=>?_);have:=h b hb;simp only[Function.comp_apply,UInt8.toNat_ofNat',be];congr 1;omega
theorem Ch{w w':World}(h:Same w.drew w'):Same w w':=⟨h.os,h.tape,h.output,h.size,h.block⟩
theorem iz{ops:Array Oper}{rest:List Oper}{o:Oper}{a:Act}{Q:Exit→Act→World→Prop}(w:World)(jS:o.guard=none)(s x:Operand)
  (ho:o.op=.call {callee:=.builtin .append,args:=#[s,x],argTypes:=#[25,9]})
  (w0:World) (v:Value) (bs:List Nat) (hs:a.eval s=v) (hf:Fresh w0 w v bs) (cs:List Nat) (hx:a.eval x=.string (bH cs)) (hc:∀b∈cs,b<256) (ag:bs.length+cs.length<=1000000000000)
  (h:∀v' w',Fresh w0 w' v' (bs++cs)->wpList Tryz.prog ops Q rest (a.put o.dst v') w'):wpList Tryz.prog ops Q (o::rest) a w:=by
 obtain⟨i0,hi,fG,iN,gj⟩:=info_parts Tryz.info8;have dA:=nz cs;have Hz:w.ownsRow w0.heap.size 5 1 v bs.length (bs.map be):=by
  refine⟨hf.row.1,?_⟩;rcases hf.row.2 with h1 | ⟨g,cap,cur,rfl,h0,h2⟩
  ·exact .inl h1
  ·exact .inr ⟨g,cap,cur,rfl,hf.new g rfl,h2⟩
 refine Lib.wpList_append_own_string (P:=Tryz.prog) w jS s x 25 9 ho w0.heap.size 5 i0 Tryz.underlying25 Tryz.underlying9 hi fG iN gj v bs.length (bs.map be) hs Hz (bH cs) hx (by simp only[maxLen];omega) (by omega) hf.kept.size ?_;intro v' w' h1 h2 _;refine h v' w' ⟨?_,hf.kept.grown h2 (λk e=>.inr (hf.new k e)),λk e=>(World.ownsRow.lt h1 k e).1⟩;rw[CP cs hc,dA,<-List.map_append]at h1;have h3:w'.ownsRow 0 5 1 v' (bs.length+cs.length) ((bs++cs).map be):=by
  refine⟨h1.1,?_⟩;rcases h1.2 with h4 | ⟨g,cap,cur,h5,_,h6⟩
  ·exact .inl h4
  ·exact .inr ⟨g,cap,cur,h5,Nat.zero_le _,h6⟩
 show w'.ownsRow 0 5 1 v' (bs++cs).length ((bs++cs).map be);rw[List.length_append];exact h3
theorem GS(w:World)(m:Mk)(hm:gN m)(vk:∀b∈m.name,b<256):
  Calls Tryz.prog 17 #[.agg (lA m)] w λe w'=>∃v',e=.returned v'/\Fresh w w' v' (ig m):=by
 obtain⟨W1,hW1⟩:∃W,W=w.alloc (.cells #[.int .u16 (m.way:Nat),.int .u32 (m.sum:Nat),.int .u32 (m.packed:Nat),.int .u32 (m.size:Nat),.string (bH m.name)] 49):=⟨_,rfl⟩
 obtain⟨mb,lu⟩:∃b,b=w.heap.size:=⟨_,rfl⟩
 have HK1:Hid (Same w W1):=hid (by rw[hW1];exact(Kept.refl _ w).alloc _);have HL1:Hid (LabBk W1 mb m):=hid (by rw[hW1,lu];exact Blk.new w _ _);have HM:Hid (gN m/\∀b∈m.name,b<256):=hid ⟨hm,vk⟩;have H1:=λwx=>kH wx (.slice none 0 0) (λ_=>False) [] ⟨none,0,rfl,λh=>absurd rfl h⟩ 67324752 rfl (by decide) (by simp)
 clear hm vk;unfold lA;go_enter Tryz.func17,Tryz.ntmps17;go_wp2_with fail;rw[<-hW1,<-lu];clear hW1 lu;obtain⟨c0,c1,c2,c3,c4⟩:=HL1.out.cells;go_region_held3 (λw'=>w'.cell? ⟨mb,0,none⟩=some (.int .u16 (m.way:Nat))/\w'.cell? ⟨mb,1,none⟩=some (.int .u32 (m.sum:Nat))/\w'.cell? ⟨mb,2,none⟩=some (.int .u32 (m.packed:Nat))/\w'.cell? ⟨mb,3,none⟩=some (.int .u32 (m.size:Nat))/\w'.cell? ⟨mb,4,none⟩=some (.string (bH m.name)))
  (first
   | (go_split_ands;exact⟨hf3.kept.cell (by assumption) (λf=>f),hf3.kept.cell (by assumption) (λf=>f),hf3.kept.cell (by assumption) (λf=>f),hf3.kept.cell (by assumption) (λf=>f),hf3.kept.cell (by assumption) (λf=>f)⟩)
   | (go_split_ands;exact⟨hf2.kept.cell (by assumption) (λf=>f),hf2.kept.cell (by assumption) (λf=>f),hf2.kept.cell (by assumption) (λf=>f),hf2.kept.cell (by assumption) (λf=>f),hf2.kept.cell (by assumption) (λf=>f)⟩)
   | go_keep)
  (first
   | (go_at_call 38;refine(H1 _).mono ?_;rintro e w2 ⟨v2,rfl,hf2⟩)
   | (go_at_call 39;refine(mJ _ v2 _ _ m (Src.kept (Src.ofRow hf2.row) (by first | exact Kept.refl (λ_=>False) _ | exact(Kept.refl (λ_=>False) _).drew | exact(Kept.refl (λ_=>False) _).drewN _) (λ_ _ _ f=>f)) HM.out.1 (by simp[az])).mono ?_;rintro e w3 ⟨v3,rfl,hf3⟩))
 all_goals
  have HF3:Hid (Fresh w w3 v3 (aR 67324752 4++im m)):=hid ⟨by simpa using hf3.row,Same.trans HK1.out (Same.trans (by first | exact hf2.kept | exact Ch hf2.kept) hf3.kept),λk e=>Nat.le_trans (Same.trans HK1.out (by first | exact hf2.kept | exact Ch hf2.kept)).size (hf3.new k e)⟩;have d4:w3.cell? ⟨mb,4,none⟩=some (.string (bH m.name)):=(by go_split_ands;assumption);obtain⟨a3,p3,sk,_⟩:=HF3.out.row.shape;generalize (aR 67324752 4++im m).length=n3 at sk;subst sk;clear hf2 hf3 c0 c1 c2 c3 c4;go_wp2_with (at_builtin;refine iz _ rfl (.tmp 7) (.tmp 9) rfl w _ _ rfl HF3.out m.name rfl HM.out.2 (by have:=HM.out.1.name;simp[az,im];omega) ?_);intro v4 w4 hf4;have HF4:Hid (Fresh w w4 v4 (ig m)):=hid (by unfold ig;rw[<-List.append_assoc];exact hf4);clear hf4;go_wp2_with fail;go_ret;exact⟨_,rfl,HF4.out⟩
end Go.Proofs.YtkhagfgineifhaaGreatDoor
