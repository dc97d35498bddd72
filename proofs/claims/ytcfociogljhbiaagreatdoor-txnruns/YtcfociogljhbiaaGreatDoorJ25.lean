/-
  Of the proof: parts Arr.
-/
import Derived.Laws.Rows
import Derived.Deep.Quiet
import Derived.Test.YtcfociogljhbiaaGreatDoorJ2

namespace Go.Proofs.YtcfociogljhbiaaGreatDoor
open Go.RowKit

section
variable {P:Program} {ops:Array Oper} {C:World→Prop}

theorem run_alloc15(ty:TypeId)(z:Array Value)(hz:(P.info? ty).bind (·.zero)=some (.agg z))(w:World):
  (Instr.alloc ty true (.tuple #[])).run P w=.ok (.pointer (some ⟨w.heap.size,0,none⟩)) (w.alloc (.cells z ty)):=by
 cases hq:P.info? ty with
 | none=>simp[hq]at hz
 | some i=>
  have hz2:i.zero=some (.agg z):=by simpa[hq]using hz
  simp[Instr.alloc,zeroValue,typeInfo,hq,hz2,newVar,newRow,Value.cells]

theorem run_box15(ty:TypeId)(cs:Array Value)(w:World):
  (Instr.box ty (.agg cs)).run P w=.ok (.pointer (some ⟨w.heap.size,0,none⟩)) (w.alloc (.cells cs ty)):=by
 simp[Instr.box,newVar,newRow,Value.cells]

theorem wpl_alloc(ty:TypeId)(z:Array Value)(hz:(P.info? ty).bind (·.zero)=some (.agg z)){ops:Array Oper}{rest:List Oper}{dst:Option Tmp}{tp:TypeId}{pos:String}{af:Array Edge}{a:Act}{w:World}{Q:Exit→Act→World→Prop}
  (h:∀w1 g,Blk w1 g z ty→Same w w1→w.heap.size≤g→g<w1.heap.size→wpList P ops Q rest (a.put dst (.pointer (some ⟨g,0,none⟩))) w1):
  wpList P ops Q ({dst:=dst,op:=.alloc ty,type:=tp,pos:=pos,after:=af,guard:=none}::rest) a w:=by
 refine wpList_plain rfl fun _ hK=>?_
 unfold Oper.wp execOp
 simp only[Sem.run_bind,run_alloc15 ty z hz w,Result.andThen_ok]
 exact hK _ _ (h _ _ (Blk.new w z ty) ((Kept.refl _ w).alloc _) (Nat.le_refl _) (by simp))

theorem wpl_box(ty:TypeId){ops:Array Oper}{rest:List Oper}{dst:Option Tmp}{x:Operand}{tp:TypeId}{pos:String}{af:Array Edge}{a:Act}{w:World}{Q:Exit→Act→World→Prop}(cs:Array Value)(hx:a.eval x=.agg cs)
  (h:∀w1 g,Blk w1 g cs ty→Same w w1→w.heap.size≤g→g<w1.heap.size→wpList P ops Q rest (a.put dst (.pointer (some ⟨g,0,none⟩))) w1):
  wpList P ops Q ({dst:=dst,op:=.box ty x,type:=tp,pos:=pos,after:=af,guard:=none}::rest) a w:=by
 refine wpList_plain rfl fun _ hK=>?_
 unfold Oper.wp execOp
 simp only[hx,Sem.run_bind,run_box15 ty cs w,Result.andThen_ok]
 exact hK _ _ (h _ _ (Blk.new w cs ty) ((Kept.refl _ w).alloc _) (Nat.le_refl _) (by simp))

theorem run_load15(ty:TypeId)(n:Nat)(d:TypeDesc)(hu:P.underlying ty=some d)(hd:(match d with | .struct _ | .array _ _=>true | _=>false)=true)(hi:(P.info? ty).map (·.size)=some n)
  {w:World} {g off:Nat} {cs:Array Value} {t:TypeId} (hb:Blk w g cs t) (res:List Value) (hl:res.length=n) (hres:(cs.toList.drop off).take n=res):
  (loadVar ty ⟨g,off,none⟩).run P w=.ok (.agg res.toArray) w:=by
 have hld:(loadCells ⟨g,off,none⟩ res.length).run P w=.ok res.toArray w:=
  run_loadCells_list (P:=P) w ⟨g,off,none⟩ res (fun j v hv=>by
   have hadd:(⟨g,off,none⟩:Addr).add j=⟨g,off+j,none⟩:=by unfold Addr.add;split<;>simp_all
   rw[hadd,hb.cell,←Array.getElem?_toList]
   have hj:j<res.length:=by
    rcases Nat.lt_or_ge j res.length with q | q
    ·exact q
    ·rw[List.getElem?_eq_none q]at hv;cases hv
   rw[←hres]at hv
   rw[List.getElem?_take_of_lt (by omega),List.getElem?_drop]at hv
   exact hv)
 cases hq:P.info? ty with
 | none=>simp[hq]at hi
 | some i=>
  have hs:i.size=n:=by simpa[hq]using hi
  have hagg:(isAgg ty).run P w=.ok true w:=by
   unfold isAgg
   rw[Sem.run_bind,run_underlying hu w]
   cases d<;>simp_all
  rw[hl]at hld
  simp[loadVar,Sem.run_bind,hagg,sizeOf,typeInfo,hq,hs,hld]

theorem wpl_load(ty:TypeId)(n:Nat)(d:TypeDesc)(hu:P.underlying ty=some d)(hd:(match d with | .struct _ | .array _ _=>true | _=>false)=true)(hi:(P.info? ty).map (·.size)=some n)
  {ops:Array Oper} {rest:List Oper} {dst:Option Tmp} {x:Operand} {tp:TypeId} {pos:String} {af:Array Edge} {a:Act} {w:World} {Q:Exit→Act→World→Prop} {g off:Nat} (hx:a.eval x=.pointer (some ⟨g,off,none⟩))
  {cs:Array Value} {t:TypeId} (hb:Blk w g cs t) (res:List Value) (hl:res.length=n) (hres:(cs.toList.drop off).take n=res)
  (h:wpList P ops Q rest (a.put dst (.agg res.toArray)) w):
  wpList P ops Q ({dst:=dst,op:=.load ty x,type:=tp,pos:=pos,after:=af,guard:=none}::rest) a w:=by
 refine wpList_plain rfl fun _ hK=>?_
 unfold Oper.wp execOp
 simp only[hx,Instr.loadAt,Instr.sureAddr,Sem.run_bind,Sem.run_pure,Result.andThen_ok,run_load15 ty n d hu hd hi hb res hl hres]
 exact hK _ _ h

theorem kept_setRow(w:World)(g:Nat)(cs:Array Value):Kept (·=g) w (w.setRow g cs):=
 ⟨rfl,rfl,rfl,by simp,fun k _ hn=>setRow_other w g k cs hn⟩

theorem wpl_store(ty:TypeId)(n:Nat)(hi:(P.info? ty).map (·.size)=some n)
  {ops:Array Oper} {rest:List Oper} {dst:Option Tmp} {x y:Operand} {tp:TypeId} {pos:String} {af:Array Edge} {a:Act} {w:World} {Q:Exit→Act→World→Prop} {g:Nat} (hx:a.eval x=.pointer (some ⟨g,0,none⟩))
  {cells:List Value} (hy:a.eval y=.agg cells.toArray) {old:Array Value} {t:TypeId} (hb:Blk w g old t) (hold:old.size=n) (hn:cells.length=n) (h1:∀v∈cells,v.oneCell'=true)
  (h:∀w1,Blk w1 g cells.toArray t→Kept (·=g) w w1→w1.heap.size=w.heap.size→wpList P ops Q rest (a.put dst undef) w1):
  wpList P ops Q ({dst:=dst,op:=.store ty x y,type:=tp,pos:=pos,after:=af,guard:=none}::rest) a w:=by
 refine wpList_store_row rfl ty x y rfl g cells.toArray hx hy t old hb (by simpa[hn]using hi) (by simp[hold,hn]) (Array.all_eq_true_iff_forall_mem.2 (fun v hv=>h1 v (by simpa using hv))) ?_
 exact h _ (setRow_heap w g old _ t _ hb) (kept_setRow w g _) (by simp)

theorem results_cell15{fn:Func}{p:Tmp}{ty:TypeId}(h:fn.results=#[.cell p ty])(n:Nat)(d:TypeDesc)(hu:P.underlying ty=some d)(hd:(match d with | .struct _ | .array _ _=>true | _=>false)=true)(hi:(P.info? ty).map (·.size)=some n)
  (tmps:Array Value) {w:World} {g:Nat} (hp:tmps.getD p undef=.pointer (some ⟨g,0,none⟩)) {cs:List Value} {t:TypeId} (hb:Blk w g cs.toArray t) (hl:cs.length=n):
  (results fn tmps).run P w=.ok (.agg cs.toArray) w:=
 results_cell_row h tmps w g t cs.toArray (0,0) d hp hb hu hd (by simpa[hl]using hi)

theorem at_box(ty:TypeId){ops:Array Oper}{rest:List Oper}{dst:Option Tmp}{x:Operand}{tp:TypeId}{pos:String}{af:Array Edge}{a:Act}{w:World}{Q:Exit→Act→World→Prop}
  (h:wpList P ops Q ({dst:=dst,op:=.box ty x,type:=tp,pos:=pos,after:=af,guard:=none}::rest) a w):wpList P ops Q ({dst:=dst,op:=.box ty x,type:=tp,pos:=pos,after:=af,guard:=none}::rest) a w:=h
theorem at_alloc(ty:TypeId)(d:Tmp){ops:Array Oper}{rest:List Oper}{tp:TypeId}{pos:String}{af:Array Edge}{a:Act}{w:World}{Q:Exit→Act→World→Prop}
  (h:wpList P ops Q ({dst:=some d,op:=.alloc ty,type:=tp,pos:=pos,after:=af,guard:=none}::rest) a w):wpList P ops Q ({dst:=some d,op:=.alloc ty,type:=tp,pos:=pos,after:=af,guard:=none}::rest) a w:=h
theorem at_load(ty:TypeId)(d:Tmp){ops:Array Oper}{rest:List Oper}{x:Operand}{tp:TypeId}{pos:String}{af:Array Edge}{a:Act}{w:World}{Q:Exit→Act→World→Prop}
  (h:wpList P ops Q ({dst:=some d,op:=.load ty x,type:=tp,pos:=pos,after:=af,guard:=none}::rest) a w):wpList P ops Q ({dst:=some d,op:=.load ty x,type:=tp,pos:=pos,after:=af,guard:=none}::rest) a w:=h
theorem at_store(ty:TypeId)(d:Tmp){ops:Array Oper}{rest:List Oper}{dst:Option Tmp}{y:Operand}{tp:TypeId}{pos:String}{af:Array Edge}{a:Act}{w:World}{Q:Exit→Act→World→Prop}
  (h:wpList P ops Q ({dst:=dst,op:=.store ty (.tmp d) y,type:=tp,pos:=pos,after:=af,guard:=none}::rest) a w):wpList P ops Q ({dst:=dst,op:=.store ty (.tmp d) y,type:=tp,pos:=pos,after:=af,guard:=none}::rest) a w:=h

theorem wp_region_same{id:Nat}{Q:Exit→Act→World→Prop}{a:Act}{w:World}{l:List Oper}(hm:P.follows .mixedOrders=true)(hB:Region.lexB .any l.toArray=true)
  (h:wpQuiet P l.toArray (Same w) (fun a'=>∀w',Same w w'→Q .normal a' w') l a):(Code.region id l.toArray true).wp P Q a w:=
 wp_region_quiet (C:=Same w) hm hB ((Kept.refl _ w).drew) (by simpa using h)

variable {Q:Act→Prop}

theorem wpq_value{o:Oper}{rest:List Oper}{a:Act}(hw:Region.wanted o (yielded ops a.tmps)=true)(v:Value)(hrun:∀W,C W→(execOp a.eval o).run P W=.ok (.value v) W)
  (h:wpQuiet P ops C Q rest (a.put o.dst v)):wpQuiet P ops C Q (o::rest) a:=by
 unfold wpQuiet
 rw[if_pos hw]
 refine⟨v,fun W hW=>?_,h⟩
 unfold Oper.quietAt
 rw[hrun W hW]
 exact⟨rfl,rfl⟩

theorem wpq_call{o:Oper}{rest:List Oper}{a:Act}(hw:Region.wanted o (yielded ops a.tmps)=true)(f:FuncId)(args:Array Value)(v:Value)(hrun:∀W,(execOp a.eval o).run P W=.ok (.enter f args) W)
  (hc:∀W,C W→Calls P f args W (fun e w'=>e=.returned v∧C w')) (h:wpQuiet P ops C Q rest (a.put o.dst v)):wpQuiet P ops C Q (o::rest) a:=by
 unfold wpQuiet
 rw[if_pos hw]
 refine⟨v,fun W hW=>?_,h⟩
 unfold Oper.quietAt
 rw[hrun W]
 exact⟨rfl,hc W hW⟩

theorem run_load_op(ty:TypeId){x:Operand}{dst:Option Tmp}{tp:TypeId}{pos:String}{af:Array Edge}{gd:Option (Nat×Bool)}{a:Act}{g off:Nat}(hx:a.eval x=.pointer (some ⟨g,off,none⟩)){v:Value}{W:World}(hl:(loadVar ty ⟨g,off,none⟩).run P W=.ok v W):
  (execOp a.eval {dst:=dst,op:=.load ty x,type:=tp,pos:=pos,after:=af,guard:=gd}).run P W=.ok (.value v) W:=by
 unfold execOp
 simp only[hx,Instr.loadAt,Instr.sureAddr,Sem.run_bind,Sem.run_pure,Result.andThen_ok,hl]

theorem calls_same{f:FuncId}{args:Array Value}{w:World}{v:Value}(h:∀W,Same w W→Calls P f args W (fun e w'=>e=.returned v∧Same W w')):∀W,Same w W→Calls P f args W (fun e w'=>e=.returned v∧Same w w'):=
 fun W hW=>(h W hW).mono (fun _ _ ⟨he,hk⟩=>⟨he,Same.trans hW hk⟩)

end

end Go.Proofs.YtcfociogljhbiaaGreatDoor
