/-
  A slice of ints, as it is read.
  What stage 16's laws want of the program's unit.
  Tasks that are numbered 0, 1, .. as they are added; goes between. No program.
  Fair, part by part: each one's distance is within k times all weights. No program.
  The program's paired: each one's part in a new row, and all of them, added.
  What is said of the program's unit; layer 15's awake. (Made by gen_uncalls.py.)
  The program's Fair; all that is said of the program's unit.
  The program's unit, as stage 16's laws want it.
-/
import Derived.Test.YtbfifglcnhfccaaZAB
import Derived.Test.YtbfifglcnhfccaaZAA
import Derived.Test.YtbfifglcnhfccaaZAG
import Derived.Test.YtbfifglcnhfccaaZAJ
import Derived.Laws.MakeOwn
import Derived.Laws.OwnMore
import Derived.Deep.RegionHeld3
import Derived.Test.YtbfifglcnhfccaaZAl
set_option maxRecDepth 100000
set_option maxHeartbeats 25600000
namespace Go.Proofs.Ytbfifglcnhfccaa
open Go.RowKit
structure IArg (w:World) (ao:Option Addr) (b off:Nat) (L:List Int):Prop where
 at_:0 < L.length→ao=some ⟨b,off,none⟩∧b < w.heap.size
 cells:∀i (hi:i < L.length),w.cell? ⟨b,off+i,none⟩=some (.int .i64 L[i])
theorem IArg.below {w w':World} {ao:Option Addr} {b off:Nat} {L:List Int} (h:IArg w ao b off L) (hb:Below w.heap.size w w'):IArg w' ao b off L:=by
 refine⟨fun h0=>⟨(h.at_ h0).1,Nat.lt_of_lt_of_le (h.at_ h0).2 hb.size⟩,fun i hi=>?_⟩
 have hl:=(h.at_ (by omega)).2
 exact (hb.cell (p:=⟨b,off+i,none⟩) hl).trans (h.cells i hi)
structure UnGiven where
 core:∀(n:Int) (w:World),Calls Try.prog 38 #[.int .i64 n] w fun e w'=>e= .returned (.int .u64 (coreR n))∧Below w.heap.size w w'
 reach:∀(n g:Int) (w:World),Calls Try.prog 30 #[.int .i64 n, .int .i64 g] w fun e w'=>e= .returned (.int .u64 (reachR n g))∧Below w.heap.size w w'
 fair:∀(ao:Option Addr) (b off c:Nat) (bo:Option Addr) (b2 off2 c2:Nat) (ts ws:List Int) (k:Int) (w:World),IArg w ao b off ts→IArg w bo b2 off2 ws→ts.length≤100000→ws.length≤100000→
  Calls Try.prog 32 #[.slice ao ts.length c, .slice bo ws.length c2, .int .i64 k] w fun e w'=>e= .returned (.bool (fairR ts ws k))∧Below w.heap.size w w'
theorem turned_bel {w w':World} (h:Below w.heap.size w w'):Turned [] w w':=⟨h.os,h.tape,h.output,h.size,fun k hk _=>h.block k hk⟩
end Go.Proofs.Ytbfifglcnhfccaa
namespace Go.Proofs.Ytbfifglcnhfccaa
structure Row (q:Rq) (k:Nat) (ws:Nat→Int):Prop where
 len:q.l.length=k
 at_:∀i (hi:i < q.l.length),q.l[i].1=i∧q.l[i].2.2=bringR (ws i) 1 4096
theorem core_bring (w:Int):coreR (bringR w 1 4096)=coreR w:=by
 have h:=bring_range (n:=w) (lo:=1) (hi:=4096) (by decide)
 unfold coreR
 rw [bring_in h.1 h.2]
section
variable {q:Rq} {k:Nat} {ws:Nat→Int} {B:Int}
theorem Row.new (g:Int) (ws:Nat→Int):Row (Rq.new g) 0 ws:=⟨rfl,fun i hi=>by simp [Rq.new] at hi⟩
theorem Row.fresh (h:Row q k ws):findQ q.l k=none:=by
 cases he:findQ q.l k with
 |none=>rfl
 |some x=>
  obtain⟨i,hi,e⟩:=List.getElem_of_mem (findQ_mem he)
  have:=(h.at_ i hi).1
  rw [e] at this
  have hl:=h.len
  simp only at this
  omega
theorem Row.added (h:Row q k ws) (hk:k < 16) (v:Int):q.add k v (ws k)= { q with l:=q.l++[((k:Int),q.place v (bringR (ws k) 1 4096),bringR (ws k) 1 4096)] } :=by
 unfold Rq.add
 rw [h.fresh,if_neg]
 have:=h.len
 rintro (h1|h1|h1)
 ·omega
 ·cases h1
 ·omega
theorem Row.add (h:Row q k ws) (hk:k < 16) (v:Int):Row (q.add k v (ws k)) (k+1) ws:=by
 rw [h.added hk]
 have hl:=h.len
 refine⟨by simp [hl],fun i hi=>?_⟩
 simp only [List.length_append,List.length_cons,List.length_nil] at hi
 simp only [List.getElem_append]
 split
 ·next h1=>exact h.at_ i h1
 ·next h1=>
  have:i=k:=by omega
  subst this
  simp [hl]
theorem Row.go (h:Row q k ws) (hl:Lag q B) (h0:0≤q.ran) (hB:B≤9223372036854775808):Row q.go k ws:=by
 have e:=go_list hl h0 hB
 refine⟨by rw [e,List.length_map];exact h.len,fun i hi=>?_⟩
 have hi':i < q.l.length:=by rw [e,List.length_map] at hi;exact hi
 have he:q.go.l[i]=(q.l[i].1,q.l[i].2.1+(if q.who=q.l[i].1 then 1 else 0)*coreR q.l[i].2.2,q.l[i].2.2):=by
  simp only [e,List.getElem_map]
 rw [he]
 exact h.at_ i hi'
theorem Row.pays (h:Row q k ws) (hl:Lag q B) (h0:0≤q.ran) (hB:B≤9223372036854775808) {i:Nat} (hi:i < q.l.length) (hi':i < q.go.l.length):q.go.l[i].2.1=q.l[i].2.1+(if q.who=i then coreR (ws i) else 0):=by
 have e:=go_list hl h0 hB
 have he:q.go.l[i]=(q.l[i].1,q.l[i].2.1+(if q.who=q.l[i].1 then 1 else 0)*coreR q.l[i].2.2,q.l[i].2.2):=by
  simp only [e,List.getElem_map]
 obtain⟨e1,e2⟩:=h.at_ i hi
 rw [he]
 dsimp only
 rw [e1,e2,core_bring]
 split
 ·omega
 ·omega
theorem Row.who (h:Row q k ws) (hl:Lag q B) (h0:0≤q.ran) (hk:0 < k):0≤q.who∧q.who < k:=by
 have hne:q.l≠[]:=fun e=>by
  have:=h.len
  rw [e] at this
  simp at this
  omega
 obtain⟨a,x,hx,e⟩:=who_in hl h0 hne
 obtain⟨i,hi,rfl⟩:=List.getElem_of_mem hx
 have:=(h.at_ i hi).1
 have:=h.len
 omega
end
end Go.Proofs.Ytbfifglcnhfccaa
namespace Go.Proofs.Ytbfifglcnhfccaa
theorem le_updiv {x a k:Int} (ha:0 < a) (h:upDiv x a≤k):x≤k*a:=by
 unfold upDiv at h
 have h1:x=a*(x / a)+x % a:=(Int.mul_ediv_add_emod x a).symm
 have h2:=Int.emod_nonneg x (show a≠0 by omega)
 have h3:=Int.emod_lt_of_pos x ha
 split at h
 ·next hp=>
  have h4:(x / a+1)*a≤k*a:=Int.mul_le_mul_of_nonneg_right h (by omega)
  rw [Int.add_mul,Int.one_mul,Int.mul_comm (x / a) a] at h4
  omega
 ·next hp=>
  have h4:(x / a)*a≤k*a:=Int.mul_le_mul_of_nonneg_right h (by omega)
  rw [Int.mul_comm (x / a) a] at h4
  omega
theorem worst_each {ts ws:List Int} :∀ {n:Nat} {k:Int},worstTo ts ws n≤k→∀i,i < n→upDiv (offR ts ws i) (sumR (weightsR ws))≤k
 |0,_,_,i,hi=>by omega
 |n+1,k,h,i,hi=>by
  unfold worstTo at h
  split at h
  ·next hlt=>
   rcases Nat.lt_or_ge i n with h1|h1
   ·exact worst_each (n:=n) (by omega) i h1
   ·obtain rfl:i=n:=by omega
    exact h
  ·next hge=>
   rcases Nat.lt_or_ge i n with h1|h1
   ·exact worst_each (n:=n) h i h1
   ·obtain rfl:i=n:=by omega
    omega
theorem wsum_pos {ws:List Int} (h:0 < ws.length):0 < sumR (weightsR ws):=by
 obtain⟨a,_⟩:=psum_range bw_range (l:=ws) (Nat.le_refl ws.length)
 rw [psum_all] at a
 have e:sumR (List.map bw ws)=sumR (weightsR ws):=rfl
 omega
theorem fair_each {ts ws:List Int} (hl:ts.length=ws.length) (h64:ts.length≤64) (k:Int):
  fairR ts ws k=true↔∀i,i < ts.length→offR ts ws i≤bringR k 0 2147483648*sumR (weightsR ws):=by
 have hk:=(bring_range (n:=k) (lo:=0) (hi:=2147483648) (by decide)).1
 have hw:worstR ts ws=worstTo ts ws ts.length:=by
  unfold worstR
  rw [if_neg (by omega)]
 unfold fairR
 rw [hw]
 by_cases h0:ts.length=0
 ·rw [h0]
  simp [worstTo,hk]
 ·have hp:0 < sumR (weightsR ws):=wsum_pos (by omega)
  constructor
  ·intro h i hi
   simp only [Bool.and_eq_true,decide_eq_true_eq] at h
   exact le_updiv hp (worst_each h.2 i hi)
  ·intro h
   obtain⟨a,b⟩:=worst_le hp hk ts.length h
   simp [a,b]
theorem near_off {ts ws:List Int} {i:Nat} (h1:i < ts.length) (h2:i < ws.length) (k:Int):
  nearB (bt ts[i]) (bw ws[i]) (psum bt ts ts.length) (psum bw ws ws.length) k=decide (offR ts ws i≤k*sumR (weightsR ws)):=by
 unfold nearB
 rw [off_of h1 h2,show sumR (weightsR ws)=psum bw ws ws.length from (psum_all bw ws).symm]
 refine decide_eq_decide.2 ?_
 have:dist (bt ts[i]*psum bw ws ws.length) (bw ws[i]*psum bt ts ts.length)=((bt ts[i]*psum bw ws ws.length - bw ws[i]*psum bt ts ts.length).natAbs:Nat):=by
  unfold dist
  split<;>omega
 rw [this]
theorem fair_unlike {ts ws:List Int} (h:ts.length≠ws.length∨64 < ts.length) (k:Int):fairR ts ws k=false:=by
 have hw:worstR ts ws= -1:=if_pos h
 unfold fairR
 rw [hw]
 rfl
end Go.Proofs.Ytbfifglcnhfccaa
namespace Go.Proofs.Ytbfifglcnhfccaa
open Go.RowKit
theorem IArg.look {w:World} {ao:Option Addr} {b off:Nat} {L:List Int} (h:IArg w ao b off L) {i:Nat} (hi:i < L.length):ao=some ⟨b,off,none⟩∧w.cell? ⟨b,off+i,none⟩=some (.int .i64 L[i]):=
 ⟨(h.at_ (by omega)).1,h.cells i hi⟩
theorem part_frozen {w:World} {B:Nat} {a:Array Value} {t:TypeId} (h:w.heap[B]?=some (.cells a t (0,0))) (o:Nat):w.frozen? ⟨B,o,none⟩=false:=by
 simp [World.frozen?,h]
theorem part_cells {w:World} {B:Nat} {a b:Value} {t:TypeId} (h:w.heap[B]?=some (.cells #[a,b] t (0,0))):w.cell? ⟨B,0,none⟩=some a∧w.cell? ⟨B,1,none⟩=some b:=by
 refine⟨?_,?_⟩<;>simp [World.cell?,h]
theorem part_stored {w:World} {B:Nat} {a b a' b':Value} {t:TypeId} (h:w.heap[B]?=some (.cells #[a,b] t (0,0))):((w.setCell ⟨B,0,none⟩ a').setCell ⟨B,1,none⟩ b').heap[B]?=some (.cells #[a',b'] t (0,0)):=by
 rw [heap_setCell_same _ _ _ _ _ _ (heap_setCell_same _ _ _ _ _ _ h)]
 rfl
theorem results_tmp_cell_tmp {fn:Func} {p u v:Tmp} {ty:TypeId} (h:fn.results= #[.tmp u, .cell p ty, .tmp v]) (tmps:Array Value) (P:Program) (w:World):
  (results fn tmps).run P w=
    ((asAddr (tmps.getD p undef)).run P w).andThen fun a w₁=>((loadVar ty a).run P w₁).andThen fun x w₂=> .ok (.tuple #[tmps.getD u undef,x,tmps.getD v undef]) w₂:=by
 simp only [results,h]
 simp [Sem.run_bind,Result.andThen]
theorem part_result {fn:Func} {p u v:Tmp} (hf:fn.results= #[.tmp u, .cell p 96, .tmp v]) {tmps:Array Value} {w:World} {B:Nat} {a b x y:Value} (hp:tmps.getD p undef= .pointer (some ⟨B,0,none⟩)) (hu:tmps.getD u undef=x) (hv:tmps.getD v undef=y) (h:w.heap[B]?=some (.cells #[a,b] 96 (0,0))):
  (results fn tmps).run Try.prog w= .ok (.tuple #[x, .agg #[a,b],y]) w:=by
 obtain⟨h0,h1⟩:=part_cells h
 rw [results_tmp_cell_tmp hf,hp,hu,hv]
 simp [loadVar,go_sem,h0,h1]
def PtsAt (V:World) (g n k:Nat) (ts ws:List Int):Prop:=
 ∃cs:Array Value,V.heap[g]?=some (.cells cs 96 (0,0))∧cs.size=n*2∧∀j,j < k→∀(h1:j < ts.length) (h2:j < ws.length),cs[j*2]?=some (.int .u64 (bt ts[j]))∧cs[j*2+1]?=some (.int .u64 (bw ws[j]))
theorem PtsAt.same {V V':World} {g n k:Nat} {ts ws:List Int} (h:PtsAt V g n k ts ws) (hb:V'.heap[g]?=V.heap[g]?):PtsAt V' g n k ts ws:=by
 obtain⟨cs,h1,h2⟩:=h
 exact⟨cs,hb.trans h1,h2⟩
theorem PtsAt.lt {V:World} {g n k:Nat} {ts ws:List Int} (h:PtsAt V g n k ts ws):g < V.heap.size:=by
 obtain⟨cs,h1,_⟩:=h
 exact lt_of_block h1
theorem PtsAt.frozen {V:World} {g n k:Nat} {ts ws:List Int} (h:PtsAt V g n k ts ws) (o:Nat):V.frozen? ⟨g,o,none⟩=false:=by
 obtain⟨cs,h1,_⟩:=h
 exact part_frozen h1 o
theorem PtsAt.cell {V:World} {g n k:Nat} {ts ws:List Int} (h:PtsAt V g n k ts ws) {j:Nat} (hj:j < k) (h1:j < ts.length) (h2:j < ws.length):V.cell? ⟨g,j*2,none⟩=some (.int .u64 (bt ts[j]))∧V.cell? ⟨g,j*2+1,none⟩=some (.int .u64 (bw ws[j])):=by
 obtain⟨cs,h3,_,h4⟩:=h
 obtain⟨a,b⟩:=h4 j hj h1 h2
 exact⟨by simp [World.cell?,h3,a],by simp [World.cell?,h3,b]⟩
theorem PtsAt.there {V:World} {g n k:Nat} {ts ws:List Int} (h:PtsAt V g n k ts ws) {j:Nat} (hj:j < n):∃x y,V.cell? ⟨g,j*2,none⟩=some x∧V.cell? ⟨g,j*2+1,none⟩=some y:=by
 obtain⟨cs,h3,h4,_⟩:=h
 exact⟨cs[j*2]'(by omega),cs[j*2+1]'(by omega),by simp [World.cell?,h3,Array.getElem?_eq_getElem (show j*2 < cs.size by omega)],by simp [World.cell?,h3,Array.getElem?_eq_getElem (show j*2+1 < cs.size by omega)]⟩
theorem PtsAt.put {V:World} {g n k:Nat} {ts ws:List Int} (h:PtsAt V g n k ts ws) (hk:k < n) (h1:k < ts.length) (h2:k < ws.length):PtsAt ((V.setCell ⟨g,k*2,none⟩ (.int .u64 (bt ts[k]))).setCell ⟨g,k*2+1,none⟩ (.int .u64 (bw ws[k]))) g n (k+1) ts ws:=by
 obtain⟨cs,h3,h4,h5⟩:=h
 refine⟨_,heap_setCell_same _ _ _ _ _ _ (heap_setCell_same _ _ _ _ _ _ h3),by simpa using h4,fun j hj g1 g2=>?_⟩
 simp only [Array.getElem?_setIfInBounds,Array.size_setIfInBounds]
 rcases Nat.lt_or_ge j k with hlt|hge
 ·obtain⟨a,b⟩:=h5 j hlt g1 g2
  rw [if_neg (by omega),if_neg (by omega),if_neg (by omega),if_neg (by omega)]
  exact⟨a,b⟩
 ·obtain rfl:j=k:=by omega
  rw [if_neg (by omega),if_pos rfl,if_pos (by omega),if_pos rfl,if_pos (by omega)]
  exact⟨rfl,rfl⟩
theorem infoPt:(Try.prog.info? 96).map (fun i=>(i.zero,i.size,i.bytes))=some (some (.agg #[.int .u64 0, .int .u64 0]),2,16):=by kernel_rfl
abbrev madePt (n:Nat):Obj:= .cells (madeCells (Value.agg #[.int .u64 0, .int .u64 0]).cells (n*2)) 96
theorem newPts (n:Nat) (h1:n≤64) (w:World):(Instr.makeSlice 94 (.int .i64 (n:Int)) (.int .i64 (n:Int))).run Try.prog w= .ok (.slice (some ⟨w.heap.size,0,none⟩) n n) (w.alloc (madePt n)):=by
 obtain⟨ii,hi,hz0,hz1,hz2⟩:=info_parts infoPt
 have hr:=run_make (P:=Try.prog) w _ 96 ii _ Try.underlying94 hi hz0 .i64 .i64 n n (by omega) (Int.le_refl _) (by rw [hz2];omega) (by omega)
 rw [hz1] at hr
 simp only [Int.toNat_natCast] at hr
 exact hr
theorem pts_new (n:Nat) (w:World) (ts ws:List Int):PtsAt (w.alloc (madePt n)) w.heap.size n 0 ts ws:=
 ⟨_,heap_alloc_new w _,size_madeCells _ _,fun j hj=>by omega⟩
abbrev zeroPt:Array Value:= #[.int .u64 0, .int .u64 0]
structure PaI (w V:World) (r g a n k:Nat) (ts ws:List Int):Prop where
 res:V.heap[r]?=some (.cells zeroPt 96 (0,0))
 pts:PtsAt V g n k ts ws
 all:V.heap[a]?=some (.cells #[.int .u64 (psum bt ts k), .int .u64 (psum bw ws k)] 96 (0,0))
 bel:Below w.heap.size w V
 rg:r≠g
 ra:r≠a
 ga:g≠a
 r0:w.heap.size≤r
 g0:w.heap.size≤g
 a0:w.heap.size≤a
section
variable {w V V':World} {r g a n k:Nat} {ts ws:List Int}
theorem PaI.below (h:PaI w V r g a n k ts ws) (hb:Below V.heap.size V V'):PaI w V' r g a n k ts ws:=
 ⟨(hb.block _ (lt_of_block h.res)).trans h.res,h.pts.same (hb.block _ h.pts.lt),(hb.block _ (lt_of_block h.all)).trans h.all,h.bel.trans (hb.mono h.bel.size),h.rg,h.ra,h.ga,h.r0,h.g0,h.a0⟩
theorem PaI.start (w:World) (n:Nat) (ts ws:List Int):PaI w (((w.alloc (.cells zeroPt 96)).alloc (madePt n)).alloc (.cells zeroPt 96)) w.heap.size (w.heap.size+1) (w.heap.size+1+1) n 0 ts ws:=by
 have h1:=heap_alloc_new w (.cells zeroPt 96)
 have h2:=pts_new n (w.alloc (.cells zeroPt 96)) ts ws
 have h3:=heap_alloc_new ((w.alloc (.cells zeroPt 96)).alloc (madePt n)) (.cells zeroPt 96)
 have b1:Below w.heap.size w (w.alloc (.cells zeroPt 96)):=(Below.refl _ w).alloc (Nat.le_refl _) _
 rw [World.size_alloc] at h2 h3
 rw [World.size_alloc] at h3
 refine⟨?_,?_,?_,(b1.alloc (by simp) _).alloc (by simp;omega) _,by omega,by omega,by omega,by omega,by omega,by omega⟩
 ·exact (Below.heap_alloc _ _ _ (by simp;omega)).trans ((Below.heap_alloc _ _ _ (by simp)).trans h1)
 ·exact h2.same (Below.heap_alloc _ _ _ (by simp))
 ·rw [psum_zero,psum_zero];exact h3
theorem PaI.step (h:PaI w V r g a n k ts ws) (hk:k < n) (h1:k < ts.length) (h2:k < ws.length) {x y:Int} (hx:bt ts[k]=x) (hy:bw ws[k]=y) {s t:Int} (hs:psum bt ts (k+1)=s) (ht:psum bw ws (k+1)=t):
  PaI w ((((V.setCell ⟨a,0,none⟩ (.int .u64 s)).setCell ⟨a,1,none⟩ (.int .u64 t)).setCell ⟨g,k*2,none⟩ (.int .u64 x)).setCell ⟨g,k*2+1,none⟩ (.int .u64 y)) r g a n (k+1) ts ws:=by
 subst hx hy hs ht
 have rg:=h.rg
 have ra:=h.ra
 have ga:=h.ga
 refine⟨?_,?_,?_,(((h.bel.setCell h.a0 _).setCell h.a0 _).setCell h.g0 _).setCell h.g0 _,rg,ra,ga,h.r0,h.g0,h.a0⟩
 ·rw [Below.heap_setCell _ _ _ _ rg,Below.heap_setCell _ _ _ _ rg,Below.heap_setCell _ _ _ _ ra,Below.heap_setCell _ _ _ _ ra]
  exact h.res
 ·refine PtsAt.put (h.pts.same ?_) hk h1 h2
  rw [Below.heap_setCell _ _ _ _ ga,Below.heap_setCell _ _ _ _ ga]
 ·rw [Below.heap_setCell _ _ _ _ ga.symm,Below.heap_setCell _ _ _ _ ga.symm]
  exact part_stored h.all
end
theorem paired_any {w:World} {ao bo:Option Addr} {b off c b2 off2 c2:Nat} {ts ws:List Int} (hT:IArg w ao b off ts) (hW:IArg w bo b2 off2 ws) (hl:ts.length=ws.length) (h64:ts.length≤64):
  Calls Try.prog 59 #[.slice ao ts.length c, .slice bo ws.length c2] w fun e w'=>e= .returned (.tuple #[.slice (some ⟨w.heap.size+1,0,none⟩) ts.length ts.length, .agg #[.int .u64 (psum bt ts ts.length), .int .u64 (psum bw ws ws.length)], .bool true])∧
   PtsAt w' (w.heap.size+1) ts.length ts.length ts ws∧Below w.heap.size w w':=by
 have HT:=xhd hT
 have HW:=xhd hW
 have HP0:=xhd (PaI.start w ts.length ts ws)
 have hmk:=newPts ts.length h64
 have HTS:=xhd (fun k (hk:k≤ts.length)=>tsum_range (l:=ts) hk h64)
 have HWS:=xhd (fun k (hk:k≤ws.length)=>wsum_range (l:=ws) hk (by omega))
 rw [←hl]
 obtain⟨n,hn⟩:∃n,ts.length=n:=⟨_,rfl⟩
 have hnw:ws.length=n:=by omega
 rw [hn] at HP0 hmk h64 HTS
 rw [hnw] at HWS
 rw [hn]
 have hnz:(n:Int)≤64:=by omega
 have HNT:=xhd hn
 have HNW:=xhd hnw
 clear hT hW hl hn hnw
 go_enter Try.func59,Try.ntmps59
 go_wp2
 generalize ((w.alloc (.cells #[.int .u64 0, .int .u64 0] 96)).alloc (madePt n)).alloc (.cells #[.int .u64 0, .int .u64 0] 96)=W0 at HP0 ⊢
 obtain⟨a,ha⟩:∃a,w.heap.size+1+1=a:=⟨_,rfl⟩
 obtain⟨g,hg⟩:∃g,w.heap.size+1=g:=⟨_,rfl⟩
 rw [ha,hg] at HP0 ⊢
 have HG:=xhd hg
 clear ha hg
 go_loopw [27] (fun ix V=>∃k:Nat,k≤n∧ix= .int .i64 k∧Hid (PaI w V w.heap.size g a n k ts ws)) (fun ix _=>n - (intOf ix).toNat)
 case atStart=>exact⟨0,Nat.zero_le _,rfl,HP0⟩
 case round=>
  clear HP0
  obtain⟨k,hk,rfl,HP⟩:=hrel
  by_cases hlt:k < n
  ·have hltz:(k:Int) < (n:Int):=by omega
   have hkt:k < ts.length:=by rw [HNT.out];exact hlt
   have hkw:k < ws.length:=by rw [HNW.out];exact hlt
   obtain⟨rfl,ct⟩:=HT.out.look hkt
   obtain⟨rfl,cw⟩:=HW.out.look hkw
   have hbT:=(HT.out.at_ (by omega)).2
   have hbW:=(HW.out.at_ (by omega)).2
   rw [←HP.out.bel.cell (p:=⟨b,off+k,none⟩) hbT] at ct
   rw [←HP.out.bel.cell (p:=⟨b2,off2+k,none⟩) hbW] at cw
   have s1:=psum_succ bt (l:=ts) hkt
   have s2:=psum_succ bw (l:=ws) hkw
   obtain⟨a0,a1⟩:=HTS.out (k+1) (by omega)
   obtain⟨a2,a3⟩:=HWS.out (k+1) (by omega)
   obtain⟨t,ht⟩:∃t,ts[k]'(by omega)=t:=⟨_,rfl⟩
   obtain⟨u,hu⟩:∃u,ws[k]'(by omega)=u:=⟨_,rfl⟩
   rw [ht] at ct s1
   rw [hu] at cw s2
   have hbt:=bt_range t
   have hbw:=bw_range u
   have H1:=xhd (fun V=>within_any t 0 2147483648 (by decide) (by decide) (by decide) V)
   have H2:=xhd (fun V=>within_any u 1 4096 (by decide) (by decide) (by decide) V)
   simp only [show bringR t 0 2147483648=bt t from rfl] at H1
   simp only [show bringR u 1 4096=bw u from rfl] at H2
   have HST:Hid (∀V,Below wr.heap.size wr V→PaI w ((((V.setCell ⟨a,0,none⟩ (.int .u64 (psum bt ts k+bt t))).setCell ⟨a,1,none⟩ (.int .u64 (psum bw ws k+bw u))).setCell ⟨g,k*2,none⟩ (.int .u64 (bt t))).setCell ⟨g,k*2+1,none⟩ (.int .u64 (bw u))) w.heap.size g a n (k+1) ts ws):=
    xhd fun V hV=>(HP.out.below hV).step hlt hkt hkw (by rw [ht]) (by rw [hu]) s1 s2
   have e1:IntKind.u64.wrap (psum bt ts k+bt t)=psum bt ts k+bt t:=by rw [←s1,IntKind.wrap_u64];omega
   have e2:IntKind.u64.wrap (psum bw ws k+bw u)=psum bw ws k+bw u:=by rw [←s2,IntKind.wrap_u64];omega
   obtain⟨c0,c1⟩:=part_cells HP.out.all
   have f0:=part_frozen HP.out.all 0
   have f1:=part_frozen HP.out.all 1
   obtain⟨x0,y0,g0,g1⟩:=HP.out.pts.there hlt
   have f2:=HP.out.pts.frozen (k*2)
   have f3:=HP.out.pts.frozen (k*2+1)
   have la:=lt_of_block HP.out.all
   have lg:=HP.out.pts.lt
   have ga:=HP.out.ga
   have ag:=HP.out.ga.symm
   have hbT2:b < wr.heap.size:=Nat.lt_of_lt_of_le hbT HP.out.bel.size
   have hbW2:b2 < wr.heap.size:=Nat.lt_of_lt_of_le hbW HP.out.bel.size
   clear s1 s2 ht hu hbT hbW
   generalize bt t=x at*
   generalize bw u=y at*
   generalize psum bt ts k=s at*
   generalize psum bw ws k=r2 at*
   go_wp2_with fail
   have HS:Hid (∀V,Below wr.heap.size wr V→V.cell? ⟨b,off+k,none⟩=some (.int .i64 t)∧V.cell? ⟨b2,off2+k,none⟩=some (.int .i64 u)∧Below wr.heap.size wr V):=
    xhd fun V hV=>⟨(hV.cell (p:=⟨b,off+k,none⟩) hbT2).trans ct,(hV.cell (p:=⟨b2,off2+k,none⟩) hbW2).trans cw,hV⟩
   clear ct cw
   go_region_held3 (fun w'=>w'.cell? ⟨b,off+k,none⟩=some (.int .i64 t)∧w'.cell? ⟨b2,off2+k,none⟩=some (.int .i64 u)∧Below wr.heap.size wr w')
    (first|assumption|(refine HS.out _ ?_;repeat (first|exact Below.refl _ _|refine Below.drew ?_|refine Below.alloc ?_ (by simp) _|refine Below.setCell ?_ (by simp) _)))
    (first|(go_at_call 58;with_reducible refine (H1.out _).mono ?_;rintro e w1 ⟨rfl,rfl⟩) |(go_at_call 58;with_reducible refine (H2.out _).mono ?_;rintro e w1 ⟨rfl,rfl⟩) |fail)
   all_goals
    have HS2:=xhd ((HST.out wr (Below.refl _ _)).below (((Below.refl _ _).alloc (Nat.le_refl _) (.cells #[.int .u64 x, .int .u64 y] 96)).drew))
    clear HS HST H1 H2 a0 a1 a2 a3
    go_wp2
    go_roundw
    case rel=>exact⟨k+1,by omega,by go_num,HS2⟩
    case measure=>simp [intOf];omega
  ·obtain rfl:k=n:=by omega
   obtain⟨c0,c1⟩:=part_cells HP.out.all
   obtain⟨r0,r1⟩:=part_cells HP.out.res
   have f0:=part_frozen HP.out.res 0
   have f1:=part_frozen HP.out.res 1
   have HRES:Hid (((wr.setCell ⟨w.heap.size,0,none⟩ (.int .u64 (psum bt ts k))).setCell ⟨w.heap.size,1,none⟩ (.int .u64 (psum bw ws k))).heap[w.heap.size]?=some (.cells #[.int .u64 (psum bt ts k), .int .u64 (psum bw ws k)] 96 (0,0))):=xhd (part_stored HP.out.res)
   have HPT:Hid (PtsAt ((wr.setCell ⟨w.heap.size,0,none⟩ (.int .u64 (psum bt ts k))).setCell ⟨w.heap.size,1,none⟩ (.int .u64 (psum bw ws k))) g k k ts ws):=xhd (HP.out.pts.same (by rw [Below.heap_setCell _ _ _ _ HP.out.rg.symm,Below.heap_setCell _ _ _ _ HP.out.rg.symm]))
   have HBE:Hid (Below w.heap.size w ((wr.setCell ⟨w.heap.size,0,none⟩ (.int .u64 (psum bt ts k))).setCell ⟨w.heap.size,1,none⟩ (.int .u64 (psum bw ws k)))):=xhd ((HP.out.bel.setCell (Nat.le_refl _) _).setCell (Nat.le_refl _) _)
   have ra:=HP.out.ra
   clear HP
   go_wp2
   go_region
   all_goals
    go_wp2
    refine bodyPost_ret (part_result rfl rfl rfl rfl HRES.out) rfl ?_
    have hg:=HG.out
    subst hg
    exact⟨rfl,HPT.out,HBE.out.drew⟩
end Go.Proofs.Ytbfifglcnhfccaa
namespace Go.Proofs.Ytbfifglcnhfccaa
open Go.RowKit
theorem paired_no {w:World} {ao bo:Option Addr} {n m c c2:Nat} (h:n≠m∨64 < n):
  Calls Try.prog 59 #[.slice ao n c, .slice bo m c2] w fun e w'=>e= .returned (.tuple #[.slice none 0 0, .agg zeroPt, .bool false])∧Below w.heap.size w w':=by
 have HR:=xhd (heap_alloc_new w (.cells zeroPt 96))
 have HB:=xhd ((Below.refl _ w).alloc (Nat.le_refl _) (.cells zeroPt 96))
 by_cases h1:n=m
 ·have h64:(64:Int) < (n:Int):=by omega
  subst h1
  go_enter Try.func59,Try.ntmps59
  go_wp2
  refine bodyPost_ret (part_result rfl rfl rfl rfl HR.out) rfl ?_
  exact⟨rfl,HB.out⟩
 ·have h1z:¬((n:Int)=(m:Int)):=by omega
  clear h
  go_enter Try.func59,Try.ntmps59
  go_wp2
  refine bodyPost_ret (part_result rfl rfl rfl rfl HR.out) rfl ?_
  exact⟨rfl,HB.out⟩
structure FaI (w V:World) (g a n:Nat) (ts ws:List Int) (T W:Int):Prop where
 pts:PtsAt V g n n ts ws
 all:V.heap[a]?=some (.cells #[.int .u64 T, .int .u64 W] 96 (0,0))
 bel:Below w.heap.size w V
theorem FaI.below {w V V':World} {g a n:Nat} {ts ws:List Int} {T W:Int} (h:FaI w V g a n ts ws T W) (hb:Below V.heap.size V V'):FaI w V' g a n ts ws T W:=
 ⟨h.pts.same (hb.block _ h.pts.lt),(hb.block _ (lt_of_block h.all)).trans h.all,h.bel.trans (hb.mono h.bel.size)⟩
theorem ufair_any {w:World} {ao bo:Option Addr} {b off c b2 off2 c2:Nat} {ts ws:List Int} (k:Int) (hT:IArg w ao b off ts) (hW:IArg w bo b2 off2 ws):
  Calls Try.prog 32 #[.slice ao ts.length c, .slice bo ws.length c2, .int .i64 k] w fun e w'=>e= .returned (.bool (fairR ts ws k))∧Below w.heap.size w w':=by
 by_cases hno:ts.length≠ws.length∨64 < ts.length
 ·rw [fair_unlike hno]
  have HN:=xhd (fun V=>paired_no (w:=V) (ao:=ao) (bo:=bo) (c:=c) (c2:=c2) hno)
  clear hno hT hW
  generalize ts.length=n at HN ⊢
  generalize ws.length=m at HN ⊢
  go_enter Try.func32,Try.ntmps32
  go_wp2_with fail
  with_reducible refine (HN.out _).mono ?_
  rintro e w1 ⟨rfl,hb⟩
  have HB:=xhd (hb.alloc hb.size (.cells zeroPt 96))
  clear hb
  go_wp2
  go_ret
  exact⟨rfl,HB.out⟩
 ·have hl:ts.length=ws.length:=by omega
  have h64:ts.length≤64:=by omega
  have HP:=xhd (paired_any (c:=c) (c2:=c2) hT hW hl h64)
  have HF:=xhd (fair_each hl h64 k)
  have HK:=xhd (fun V=>within_any k 0 2147483648 (by decide) (by decide) (by decide) V)
  have HKR:=xhd (bring_range (n:=k) (lo:=0) (hi:=2147483648) (by decide))
  have HN:=xhd (fun i (h1:i < ts.length) (h2:i < ws.length)=>near_off (ts:=ts) (ws:=ws) h1 h2 (bringR k 0 2147483648))
  obtain⟨t0,t1⟩:=tsum_range (l:=ts) (Nat.le_refl _) h64
  obtain⟨u0,u1⟩:=wsum_range (l:=ws) (Nat.le_refl _) (by omega)
  obtain⟨kk,hkk⟩:∃kk,bringR k 0 2147483648=kk:=⟨_,rfl⟩
  rw [hkk] at HF HK HKR HN
  obtain⟨T,hTd⟩:∃T,psum bt ts ts.length=T:=⟨_,rfl⟩
  obtain⟨W,hWd⟩:∃W,psum bw ws ws.length=W:=⟨_,rfl⟩
  rw [hTd] at HP HN t0 t1
  rw [hWd] at HP HN u0 u1
  have hTw:Word T:=by unfold Word;omega
  have hWw:Word W:=by unfold Word;omega
  have hKw:Word kk:=by have:=HKR.out;unfold Word;omega
  obtain⟨n,hn⟩:∃n,ts.length=n:=⟨_,rfl⟩
  have hnw:ws.length=n:=by omega
  have HNT:=xhd hn
  have HNW:=xhd hnw
  rw [hn] at HP HF h64
  rw [hnw] at HP ⊢
  rw [hn]
  have hnz:(n:Int)≤64:=by omega
  clear hno hl hT hW hkk hTd hWd hn hnw t0 t1 u0 u1
  go_enter Try.func32,Try.ntmps32
  go_wp2_with fail
  with_reducible refine HP.out.mono ?_
  rintro e w1 ⟨rfl,hp,hb⟩
  have hFA:FaI w (w1.alloc (.cells #[.int .u64 T, .int .u64 W] 96)) (w.heap.size+1) w1.heap.size n ts ws T W:=
   ⟨hp.same (Below.heap_alloc _ _ _ hp.lt),heap_alloc_new w1 _,hb.alloc hb.size _⟩
  have HFA:=xhd hFA
  clear hp hb hFA HP
  go_wp2_with fail
  with_reducible refine (HK.out _).mono ?_
  rintro e w2 ⟨rfl,rfl⟩
  go_wp2_with fail
  generalize w1.alloc (.cells #[.int .u64 T, .int .u64 W] 96)=W0 at HFA ⊢
  generalize w.heap.size+1=g at HFA ⊢
  generalize w1.heap.size=a at HFA ⊢
  go_loopw [26] (fun ix V=>∃i:Nat,i≤n∧ix= .int .i64 i∧Hid (FaI w V g a n ts ws T W)∧Hid (∀j,j < i→offR ts ws j≤kk*sumR (weightsR ws))) (fun ix _=>n - (intOf ix).toNat)
  case atStart=>exact⟨0,Nat.zero_le _,rfl,HFA,xhd fun j hj=>by omega⟩
  case round=>
   clear HFA
   obtain⟨i,hi,rfl,HI,HE⟩:=hrel
   by_cases hlt:i < n
   ·have hltz:(i:Int) < (n:Int):=by omega
    have hit:i < ts.length:=by rw [HNT.out];exact hlt
    have hiw:i < ws.length:=by rw [HNW.out];exact hlt
    obtain⟨g0,g1⟩:=HI.out.pts.cell hlt hit hiw
    obtain⟨c0,c1⟩:=part_cells HI.out.all
    have la:=lt_of_block HI.out.all
    have lg:=HI.out.pts.lt
    have hnear:=HN.out i hit hiw
    have hbt:=bt_range ts[i]
    have hbw:=bw_range ws[i]
    have hxw:Word (bt ts[i]):=by unfold Word;omega
    have hyw:Word (bw ws[i]):=by unfold Word;omega
    have HC:=xhd (fun V=>near_any _ _ _ _ _ hxw hyw hTw hWw hKw V)
    rw [hnear] at HC
    clear hnear hxw hyw hbt hbw
    generalize bt ts[i]=x at g0 HC
    generalize bw ws[i]=y at g1 HC
    have HB2:=xhd (HI.out.below ((Below.refl _ _).alloc (Nat.le_refl _) (.cells #[.int .u64 x, .int .u64 y] 96)))
    by_cases hd:offR ts ws i≤kk*sumR (weightsR ws)
    ·rw [decide_eq_true hd] at HC
     have HE2:Hid (∀j,j < i+1→offR ts ws j≤kk*sumR (weightsR ws)):=xhd fun j hj=>by
      rcases Nat.lt_or_ge j i with h1|h1
      ·exact HE.out j h1
      ·obtain rfl:j=i:=by omega
       exact hd
     clear hd
     go_wp2_with fail
     with_reducible refine (HC.out _).mono ?_
     rintro e w4 ⟨rfl,hb⟩
     have HB4:=xhd (HB2.out.below hb)
     clear hb
     go_wp2
     go_roundw
     case rel=>exact⟨i+1,by omega,by go_num,HB4,HE2⟩
     case measure=>simp [intOf];omega
    ·have hff:fairR ts ws k=false:=by
       rw [Bool.eq_false_iff]
       intro h
       exact hd (HF.out.1 h i hlt)
     rw [decide_eq_false hd] at HC
     have HFF:=xhd hff
     clear hff hd
     go_wp2_with fail
     with_reducible refine (HC.out _).mono ?_
     rintro e w4 ⟨rfl,hb⟩
     have HB4:=xhd (HB2.out.below hb)
     clear hb
     go_wp2
     go_ret
     exact⟨by rw [HFF.out];rfl,HB4.out.bel⟩
   ·obtain rfl:i=n:=by omega
    have hff:fairR ts ws k=true:=HF.out.2 HE.out
    have HFF:=xhd hff
    clear hff
    go_wp2
    go_ret
    exact⟨by rw [HFF.out];rfl,HI.out.bel⟩
theorem unGiven:UnGiven where
 core:=fun n w=>(ucore_any n w).mono fun _ _ h=>⟨h.1,by rw [h.2];exact Below.refl _ _⟩
 reach:=fun n g w=>(ureach_any n g w).mono fun _ _ h=>⟨h.1,by rw [h.2];exact Below.refl _ _⟩
 fair:=fun _ _ _ _ _ _ _ _ _ _ k _ hT hW _ _=>ufair_any k hT hW
end Go.Proofs.Ytbfifglcnhfccaa
