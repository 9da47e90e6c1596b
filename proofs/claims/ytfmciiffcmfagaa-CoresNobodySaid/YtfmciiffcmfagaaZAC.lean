/-
  A loop over a function that turns memory of its own between two rounds, and may move to new memory: its contract, and the caller's law. No program.
  A loop over a function that leans on memory which nobody turns while it runs, and turns memory of its own, which may move. No program.
  What is to be said of the program's queues, for the laws of stage 16. (Made by gen_rqsaid.py.)
  The program's queue and the document's, side by side.
  Stage 16's arguments, opened to their cells.
  Sums of squares, and a measure, where one number gives to another: no program.
  Several queues plainly; no program.
  Several queues: what moving and balancing do; no program.
  Several queues in memory, apart; the document's cores.
  What is to be said of the program's cores, for the laws of stage 17: their own blocks, and queues of stage 16's, apart.
  What the cores keep, deed by deed; no program.
  Layer 17's awake, given what is said of the program's cores.
  Red-black trees, over plain trees: what is put in, taken out, found; the order; red and black. No program.
  Red and black: what is put in and taken out leaves trees red and black, each way down with as many black ones. No program.
  Red and black, behind what is taken out; what may be there at all. No program.
-/
import Derived.Test.YtfmciiffcmfagaaZAB
import Derived.Test.YtfmciiffcmfagaaZAA
import Derived.Test.YtfmciiffcmfagaaChecked
import Derived.WalkKit
import Derived.Test.YtfmciiffcmfagaaZAl
set_option maxRecDepth 100000
set_option maxHeartbeats 25600000
namespace Go.Proofs.Ytfmciiffcmfagaa
open Go.RowKit
def TurnSeqZ {α:Type} (F:Fence) (n:Nat) (P:Program) (g:Nat) (lb:Array Value) (encs:α→Array Value) (X:List Nat) (Sp:List α→Prop) (S Sx:List α→List Nat→World→Prop) (w:World):Prop:=
 ∀(l:Nat) (J Jx:List α→List Nat→World→Prop) (W:World),Turned [] w W→(∀xs Z Z' A B,J xs Z A→Turned Z A B→Newer Z A.heap.size Z'→(∀k ∈ Z',k < B.heap.size)→J xs Z' B)→(∀xs Z Z' A B,Jx xs Z A→Turned Z A B→Newer Z A.heap.size Z'→(∀k ∈ Z',k < B.heap.size)→Jx xs Z' B)→
  (∀pre x Z A,J pre Z A→Sp (pre++[x])→YieldAt F (n - 1) P l (encs x) A fun e B=>
    SameAt Z A B∧A.heap.size≤B.heap.size∧((e= .returned (.bool true)∧J (pre++[x]) Z B)∨(e= .returned (.bool false)∧Jx (pre++[x]) Z B)))→
  J [] X W→
  CallsIn F n P g (#[.func (.yield l) #[] #[]]++lb) W fun e W'=>(∃v,e= .returned v)∧((∃xs Z,S xs Z W'∧J xs Z W')∨(∃xs Z,Sx xs Z W'∧Jx xs Z W'))
variable {F:Fence} {n:Nat} {P:Program}
theorem TurnSeq.z {α:Type} {g:Nat} {lb:Array Value} {encs:α→Array Value} {X Y:List Nat} {Sp:List α→Prop} {S Sx:List α→World→Prop} {w:World} (h:TurnSeq F n P g lb encs X Y Sp S Sx w) (hXY:∀k ∈ X++Y,k < w.heap.size):
  TurnSeqZ F n P g lb encs (X++Y) Sp (fun xs Z W=>Z=X++Y∧S xs W) (fun xs Z W=>Z=X++Y∧Sx xs W) w:=by
 intro l J Jx W hW hJ _ hY hj
 have hb:∀A B:World,w.heap.size≤A.heap.size→Turned X A B→∀k ∈ X++Y,k < B.heap.size:=fun A B hA ht k hk=>by have:=hXY k hk;have:=ht.size;omega
 refine (h l (fun xs A=>J xs (X++Y) A∧w.heap.size≤A.heap.size) (fun xs A=>Jx xs (X++Y) A) W hW (fun xs A B hj ht=>⟨hJ xs _ _ A B hj.1 (ht.mono (fun k hk=> .inl (List.mem_append_left _ hk))) (Newer.refl _ _) (hb A B hj.2 ht),Nat.le_trans hj.2 ht.size⟩) (fun pre x A hj hsp=>?_) ⟨hj,hW.size⟩).mono ?_
 ·obtain⟨fn,tmps,asg,bd,hy,hR⟩:=hY pre x _ A hj.1 hsp
  refine⟨fn,tmps,asg,bd,hy,hR.mono ?_⟩
  rintro e B ⟨hs,hz,hr⟩
  refine⟨fun k hk=>hs k (List.mem_append_right _ hk),hz,?_⟩
  rcases hr with⟨h1,h2⟩ |hr
  ·exact .inl ⟨h1,h2,Nat.le_trans hj.2 hz⟩
  ·exact .inr hr
 ·rintro e W' ⟨hv,⟨xs,h1,h2,_⟩ |⟨xs,h1,h2⟩⟩
  ·exact⟨hv, .inl ⟨xs,_,⟨rfl,h1⟩,h2⟩⟩
  ·exact⟨hv, .inr ⟨xs,_,⟨rfl,h1⟩,h2⟩⟩
end Go.Proofs.Ytfmciiffcmfagaa
namespace Go.Proofs.Ytfmciiffcmfagaa
open Go.RowKit
def TurnSeqY {α:Type} (F:Fence) (n:Nat) (P:Program) (g:Nat) (lb:Array Value) (encs:α→Array Value) (Y X:List Nat) (Sp:List α→Prop) (S Sx:List α→List Nat→World→Prop) (w:World):Prop:=
 ∀(l:Nat) (J Jx:List α→List Nat→World→Prop) (W:World),Turned [] w W→(∀xs Z A,J xs Z A→SameAt Y W A)→(∀xs Z A,Jx xs Z A→SameAt Y W A)→(∀xs Z Z' A B,J xs Z A→Turned Z A B→Newer Z A.heap.size Z'→(∀k ∈ Z',k < B.heap.size)→J xs Z' B)→(∀xs Z Z' A B,Jx xs Z A→Turned Z A B→Newer Z A.heap.size Z'→(∀k ∈ Z',k < B.heap.size)→Jx xs Z' B)→
  (∀pre x Z A,J pre Z A→Sp (pre++[x])→YieldAt F (n - 1) P l (encs x) A fun e B=>
    SameAt Z A B∧A.heap.size≤B.heap.size∧((e= .returned (.bool true)∧J (pre++[x]) Z B)∨(e= .returned (.bool false)∧Jx (pre++[x]) Z B)))→
  J [] X W→
  CallsIn F n P g (#[.func (.yield l) #[] #[]]++lb) W fun e W'=>(∃v,e= .returned v)∧((∃xs Z,S xs Z W'∧J xs Z W')∨(∃xs Z,Sx xs Z W'∧Jx xs Z W'))
variable {F:Fence} {n:Nat} {P:Program}
theorem range_turnsY {α:Type} {g:Operand} {ps:Array Tmp} {assign body:Code} {Q:Exit→Act→World→Prop} {a:Act} {w:World}
  (hro:F.round=none) (h1:1≤n) {gf:Nat} {lb:Array Value} (hg:a.eval g= .func (.func gf) #[] lb) (hFg:F.fn gf) (eg:∀args w,(callFunc gf args).run P w= .ok (.enter gf args) w)
  {encs:α→Array Value} {Y X:List Nat} {Sp:List α→Prop} {S Sx:List α→List Nat→World→Prop} (hX:∀k ∈ X,k < w.heap.size) (hYl:∀k ∈ Y,k < w.heap.size)
  (hseq:TurnSeqY F (n - 1) P gf lb encs Y X Sp S Sx w) (hps:∀x,(encs x).size=ps.size)
  (hS:∀xs Z A B,S xs Z A→SameAt Z A B→S xs Z B) (hSx:∀xs Z A B,Sx xs Z A→SameAt Z A B→Sx xs Z B)
  (I:List α→List Nat→World→Prop) (Ix:Code→List α→List Nat→World→Prop) (hI:∀xs Z Z' A B,I xs Z A→Mild Z w.heap.size A B→Newer Z A.heap.size Z'→(∀k ∈ Z',k < B.heap.size)→I xs Z' B)
  (hIx:∀c xs Z Z' A B,Ix c xs Z A→Mild Z w.heap.size A B→Newer Z A.heap.size Z'→(∀k ∈ Z',k < B.heap.size)→Ix c xs Z' B) (h0:I [] X w) (hIY:∀xs Z W,I xs Z W→SameAt Y w W) (hIxY:∀c xs Z W,Ix c xs Z W→SameAt Y w W)
  (Ax:α→Act→World→Prop) (hAx:∀x a' A B,Ax x a' A→Mild [] w.heap.size A B→Ax x a' B)
  (hassign:∀(l:Nat) (pre:List α) (x:α) (Z:List Nat) (W:World) (K:Act→World→Prop),I pre Z W→(∀a' W',KeepsFrom w.heap.size W W'→SameAt Z W W'→I pre Z W'→Ax x a' W'→K a' W')→
    assign.wpIn (F.inRound l) (n - 1 - 1) P (Exit.then K (fun _ _ _=>False)) { tmps:=(ps.zip (encs x)).foldl (fun t (p,v)=>t.setIfInBounds p v) a.tmps,defers:=[] } W)
  (hbody:∀(l:Nat) (pre:List α) (x:α) (Z:List Nat) (a':Act) (W:World),I pre Z W→Ax x a' W→Sp (pre++[x])→body.wpIn (F.inRound l) (n - 1 - 1) P (leftPost w.heap.size Z (fun xs V=>I xs Z V) (fun c xs V=>Ix c xs Z V) (pre++[x]) W) a' W)
  (hdone:∀(D:Nat) (xs:List α) (Z:List Nat) (W:World),w.heap.size≤D→(∀k ∈ Z,k≠D)→S xs Z W→I xs Z W→W.heap[D]?=some (.deferred (some []))→Q .normal { a with defers:= { target:= .collected D,args:= #[] } ::a.defers } W)
  (hstop:∀(D:Nat) (c:Code) (xs:List α) (Z:List Nat) (W:World),w.heap.size≤D→(∀k ∈ Z,k≠D)→Sx xs Z W→Ix c xs Z W→W.heap[D]?=some (.deferred (some []))→c.wpIn F n P Q { a with defers:= { target:= .collected D,args:= #[] } ::a.defers } W):
  (Code.rangeFunc g ps assign body).wpIn F n P Q a w:=by
 refine wpIn_rangeFunc fun fn hfn=>?_
 rw [hro]
 obtain⟨N,hN⟩:∃N,w.heap.size=N:=⟨_,rfl⟩
 obtain⟨R,hR⟩:∃R:LoopState→Option Code→Loop,∀st pe,R st pe= { state:=st,pending:=pe,fn,tmps:=a.tmps,params:=ps,assign,body,defers:=N } :=⟨_,fun _ _=>rfl⟩
 obtain⟨W0,hW0⟩:∃W0,(w.alloc (.deferred (some []))).alloc (.loop (R .ready none))=W0:=⟨_,rfl⟩
 have two:Turned [] w W0:=hW0 ▸ ((Turned.refl [] w).alloc _).alloc _
 have recL:W0.heap[N+1]?=some (.loop (R .ready none)):=by
  have h:=World.alloc_heap_new (w.alloc (.deferred (some []))) (.loop (R .ready none))
  rw [World.size_alloc,hN] at h
  rw [←hW0]
  exact h
 have recD:W0.heap[N]?=some (.deferred (some [])):=by
  have h:=World.alloc_heap_new w (.deferred (some []))
  rw [hN] at h
  rw [←hW0]
  exact (Below.heap_alloc _ _ _ (by simp;omega)).trans h
 rw [hN] at hI hIx hAx hassign hbody hdone hstop hX
 have hsW0:N+2≤W0.heap.size:=(Array.getElem?_eq_some_iff.1 recL).1
 have offX:∀k ∈ X,(k≠N∧k≠N+1)∧k < W0.heap.size:=fun k hk=>by have:=hX k hk;omega
 have turnZ:∀(Z:List Nat) (W:World) (o:Obj),(∀k ∈ Z,(k≠N∧k≠N+1))→SameAt Z W (W.putObj (N+1) o):=fun Z W o hz k hk=>World.putObj_heap_other (hz k hk).2
 have done:∀(jump:Option Code) (W:World) (st:LoopState),W.heap[N+1]?=some (.loop (R st none))→W.heap[N]?=some (.deferred (some []))→∀st',(W.putObj (N+1) (.loop (R st' jump))).heap[N+1]?=some (.loop (R st' jump))∧(W.putObj (N+1) (.loop (R st' jump))).heap[N]?=some (.deferred (some [])):=
  fun jump W st hl hd st'=>⟨World.putObj_heap_same (Array.getElem?_eq_some_iff.1 hl).1,(World.putObj_heap_other (by omega)).trans hd⟩
 refine⟨N+1,[{ target:= .collected N,args:= #[] }],W0, { target:= .fn (.func gf) lb,args:= #[.func (.yield (N+1)) #[] #[]] },W0,gf, #[.func (.yield (N+1)) #[] #[]]++lb,W0,?_,?_,?_,?_,fun _=>h1,?_⟩
 ·rw [←hW0,hR, ←hN]
  exact run_enterLoop_outer _ _ _ _ _
 ·simp only [resolve,hg]
  simp [go_sem]
 ·intro f' hf'
  simp [Target.leads] at hf'
  subst hf'
  exact hFg
 ·simp [invoke,go_sem,eg]
 have hIx':∀c xs Z A B,Ix c xs Z A→(∀k ∈ Z,k < A.heap.size)→Mild Z N A B→Ix c xs Z B:=fun c xs Z A B h hz m=>hIx c xs Z Z A B h m (Newer.refl _ _) (fun k hk=>Nat.lt_of_lt_of_le (hz k hk) m.size)
 have hI':∀xs Z A B,I xs Z A→(∀k ∈ Z,k < A.heap.size)→Mild Z N A B→I xs Z B:=fun xs Z A B h hz m=>hI xs Z Z A B h m (Newer.refl _ _) (fun k hk=>Nat.lt_of_lt_of_le (hz k hk) m.size)
 refine (hseq (N+1) (fun xs Z W=>((I xs Z W∧W.heap[N+1]?=some (.loop (R .ready none)))∧W.heap[N]?=some (.deferred (some [])))∧∀k ∈ Z,(k≠N∧k≠N+1)∧k < W.heap.size)
  (fun xs Z W=>(∃c,(Ix c xs Z W∧W.heap[N+1]?=some (.loop (R .done (some c))))∧W.heap[N]?=some (.deferred (some [])))∧∀k ∈ Z,(k≠N∧k≠N+1)∧k < W.heap.size) W0 two (fun xs Z A h k hk=>(hIY _ _ _ h.1.1.1 k hk).trans (two.block k (hYl k hk) (by simp)).symm) (fun xs Z A h k hk=>by
    obtain⟨⟨c,⟨hi,_⟩,_⟩,_⟩:=h
    exact (hIxY _ _ _ _ hi k hk).trans (two.block k (hYl k hk) (by simp)).symm) ?_ ?_ ?_ ⟨⟨⟨hI' _ _ _ _ h0 (hN ▸ hX) (Mild.of_turned (two.mono (fun k hk=>by simp at hk))),recL⟩,recD⟩,offX⟩).mono ?_
 ·
  rintro xs Z Z' A B ⟨⟨⟨hi,hl⟩,hd⟩,hz⟩ ht hnew hub
  have hsz:N+1 < A.heap.size:=(Array.getElem?_eq_some_iff.1 hl).1
  exact⟨⟨⟨hI _ _ _ _ _ hi (Mild.of_turned ht) hnew hub,ht.same hl (fun hx=>(hz _ hx).1.2 rfl)⟩,ht.same hd (fun hx=>(hz _ hx).1.1 rfl)⟩,fun k hk=>by
   have hk':=hub k hk
   rcases hnew k hk with h|h
   ·exact⟨(hz k h).1,hk'⟩
   ·omega⟩
 ·rintro xs Z Z' A B ⟨⟨c,⟨hi,hl⟩,hd⟩,hz⟩ ht hnew hub
  have hsz:N+1 < A.heap.size:=(Array.getElem?_eq_some_iff.1 hl).1
  exact⟨⟨c,⟨hIx _ _ _ _ _ _ hi (Mild.of_turned ht) hnew hub,ht.same hl (fun hx=>(hz _ hx).1.2 rfl)⟩,ht.same hd (fun hx=>(hz _ hx).1.1 rfl)⟩,fun k hk=>by
   have hk':=hub k hk
   rcases hnew k hk with h|h
   ·exact⟨(hz k h).1,hk'⟩
   ·omega⟩
 ·
  rintro pre x Z A ⟨⟨⟨hi,hl⟩,hd⟩,hz⟩ hsp
  have hy:=run_yield (P:=P) (args:=encs x) hl (by rw [hR];exact hps x)
  rw [hR] at hy
  refine⟨fn,_,assign,body,hy,roundIn_of_wpIn hfn (hassign _ pre x Z A _ hi ?_)⟩
  intro a' B hka hya hia hax
  have hlB:=hka.same _ _ (by omega) hl rfl
  have hdB:=hka.same _ _ (Nat.le_refl _) hd rfl
  refine⟨_,run_beginRound hlB (by rw [hR]),?_⟩
  have hbusy:({ R .ready none with state:= .busy } :Loop)=R .busy none:=by rw [hR,hR]
  rw [hbusy]
  obtain⟨hlC,hdC⟩:=done none B .ready hlB hdB .busy
  have mB:∀Y,Mild Y N B (B.putObj (N+1) (.loop (R .busy none))):=fun Y=>Mild.of_put hlB rfl (by omega) _
  have hzo:∀k ∈ Z,k≠N∧k≠N+1:=fun k hk=>(hz k hk).1
  have hzA:∀k ∈ Z,k < A.heap.size:=fun k hk=>(hz k hk).2
  have hzB:∀k ∈ Z,k < B.heap.size:=fun k hk=>Nat.lt_of_lt_of_le (hzA k hk) hka.size
  refine wpIn_mono (hbody _ pre x Z a' _ (hI' _ _ _ _ hia hzB (mB Z)) (hAx _ _ _ _ hax (mB [])) hsp) ?_
  have fin:∀(jump:Option Code) (C:World),KeepsFrom N (B.putObj (N+1) (.loop (R .busy none))) C→SameAt Z (B.putObj (N+1) (.loop (R .busy none))) C→
    (Instr.endRound (N+1) jump).run P C= .ok (.bool jump.isNone) (C.putObj (N+1) (.loop (R (if jump.isNone then .ready else .done) jump)))∧C.heap[N+1]?=some (.loop (R .busy none))∧C.heap[N]?=some (.deferred (some []))∧
    SameAt Z A (C.putObj (N+1) (.loop (R (if jump.isNone then .ready else .done) jump)))∧A.heap.size≤(C.putObj (N+1) (.loop (R (if jump.isNone then .ready else .done) jump))).heap.size:=by
   intro jump C hk hyc
   have hl3:=hk.same _ _ (by omega) hlC rfl
   have hr:=run_endRound (P:=P) jump hl3
   rw [hR] at hr
   refine⟨?_,hl3,hk.same _ _ (Nat.le_refl _) hdC rfl,((hya.trans (turnZ Z B _ hzo)).trans hyc).trans (turnZ Z C _ hzo),?_⟩
   ·rw [hR]
    exact hr
   ·have h3:=hka.size
    have h4:=hk.size
    simp at h4 ⊢
    omega
  rintro e a3 C hp
  cases e with
  |normal=>
   obtain⟨hk,hyc,hi3⟩:=hp
   obtain⟨hr,hl3,hd3,hyy,hsz⟩:=fin none C hk hyc
   obtain⟨e1,e2⟩:=done none C .busy hl3 hd3 .ready
   exact⟨_,_,hr,hyy,hsz, .inl ⟨rfl,⟨⟨hI' _ _ _ _ hi3 (fun k hk'=>by have:=hzB k hk';have:=hk.size;simp at this;omega) (Mild.of_put hl3 rfl (by omega) _),e1⟩,e2⟩,fun k hk'=>⟨hzo k hk',Nat.lt_of_lt_of_le (hzA k hk') hsz⟩⟩⟩
  |ret=>
   obtain⟨hk,hyc,hi3⟩:=hp
   obtain⟨hr,hl3,hd3,hyy,hsz⟩:=fin (some .ret) C hk hyc
   obtain⟨e1,e2⟩:=done (some .ret) C .busy hl3 hd3 .done
   exact⟨_,_,hr,hyy,hsz, .inr ⟨rfl,⟨.ret,⟨hIx' _ _ _ _ _ hi3 (fun k hk'=>by have:=hzB k hk';have:=hk.size;simp at this;omega) (Mild.of_put hl3 rfl (by omega) _),e1⟩,e2⟩,fun k hk'=>⟨hzo k hk',Nat.lt_of_lt_of_le (hzA k hk') hsz⟩⟩⟩
  |exit id=>
   obtain⟨hk,hyc,hi3⟩:=hp
   obtain⟨hr,hl3,hd3,hyy,hsz⟩:=fin (some (.exit id)) C hk hyc
   obtain⟨e1,e2⟩:=done (some (.exit id)) C .busy hl3 hd3 .done
   exact⟨_,_,hr,hyy,hsz, .inr ⟨rfl,⟨.exit id,⟨hIx' _ _ _ _ _ hi3 (fun k hk'=>by have:=hzB k hk';have:=hk.size;simp at this;omega) (Mild.of_put hl3 rfl (by omega) _),e1⟩,e2⟩,fun k hk'=>⟨hzo k hk',Nat.lt_of_lt_of_le (hzA k hk') hsz⟩⟩⟩
  |goto t=>
   obtain⟨hk,hyc,hi3⟩:=hp
   obtain⟨hr,hl3,hd3,hyy,hsz⟩:=fin (some (.goto t)) C hk hyc
   obtain⟨e1,e2⟩:=done (some (.goto t)) C .busy hl3 hd3 .done
   exact⟨_,_,hr,hyy,hsz, .inr ⟨rfl,⟨.goto t,⟨hIx' _ _ _ _ _ hi3 (fun k hk'=>by have:=hzB k hk';have:=hk.size;simp at this;omega) (Mild.of_put hl3 rfl (by omega) _),e1⟩,e2⟩,fun k hk'=>⟨hzo k hk',Nat.lt_of_lt_of_le (hzA k hk') hsz⟩⟩⟩
  |panic ch=>exact hp.elim
  |outgrown=>exact hp.elim
 ·
  rintro e W2 ⟨⟨v,rfl⟩,⟨xs,Z,hs,⟨⟨hi,hl⟩,hd⟩,hz⟩ |⟨xs,Z,hs,⟨c,⟨hi,hl⟩,hd⟩,hz⟩⟩
  ·have hr:=run_endLoop (P:=P) hl (by rw [hR];simp)
   rw [hR] at hr
   exact⟨none,_,hr,hdone _ xs Z _ (Nat.le_refl _) (fun k hk=>(hz k hk).1.1) (hS _ _ _ _ hs (turnZ Z W2 _ (fun k hk=>(hz k hk).1))) (hI' _ _ _ _ hi (fun k hk=>(hz k hk).2) (Mild.of_put hl rfl (by omega) _)) ((World.putObj_heap_other (by omega)).trans hd)⟩
  ·have hr:=run_endLoop (P:=P) hl (by rw [hR];simp)
   rw [hR] at hr
   exact⟨some c,_,hr,hstop _ c xs Z _ (Nat.le_refl _) (fun k hk=>(hz k hk).1.1) (hSx _ _ _ _ hs (turnZ Z W2 _ (fun k hk=>(hz k hk).1))) (hIx' _ _ _ _ _ hi (fun k hk=>(hz k hk).2) (Mild.of_put hl rfl (by omega) _)) ((World.putObj_heap_other (by omega)).trans hd)⟩
theorem range_turnsY_plain {α:Type} {g:Operand} {ps:Array Tmp} {assign body:Code} {Q:Exit→Act→World→Prop} {a:Act} {w:World}
  (hro:F.round=none) (h1:1≤n) {gf:Nat} {lb:Array Value} (hg:a.eval g= .func (.func gf) #[] lb) (hFg:F.fn gf) (eg:∀args w,(callFunc gf args).run P w= .ok (.enter gf args) w)
  {encs:α→Array Value} {Y X:List Nat} {Sp:List α→Prop} {S Sx:List α→List Nat→World→Prop} (hX:∀k ∈ X,k < w.heap.size) (hYl:∀k ∈ Y,k < w.heap.size)
  (hseq:TurnSeqY F (n - 1) P gf lb encs Y X Sp S Sx w) (hps:∀x,(encs x).size=ps.size)
  (hS:∀xs Z A B,S xs Z A→SameAt Z A B→S xs Z B) (hSx:∀xs Z A B,Sx xs Z A→SameAt Z A B→Sx xs Z B)
  (I:List α→List Nat→World→Prop) (Ix:Code→List α→List Nat→World→Prop) (hI:∀xs Z Z' A B,I xs Z A→Mild Z w.heap.size A B→Newer Z A.heap.size Z'→(∀k ∈ Z',k < B.heap.size)→I xs Z' B)
  (hIx:∀c xs Z Z' A B,Ix c xs Z A→Mild Z w.heap.size A B→Newer Z A.heap.size Z'→(∀k ∈ Z',k < B.heap.size)→Ix c xs Z' B) (h0:I [] X w) (hIY:∀xs Z W,I xs Z W→SameAt Y w W) (hIxY:∀c xs Z W,Ix c xs Z W→SameAt Y w W)
  (a₁:α→Act)
  (hassign:∀(l:Nat) (x:α) (W:World) (K:Act→World→Prop),K (a₁ x) W→
    assign.wpIn (F.inRound l) (n - 1 - 1) P (Exit.then K (fun _ _ _=>False)) { tmps:=(ps.zip (encs x)).foldl (fun t (p,v)=>t.setIfInBounds p v) a.tmps,defers:=[] } W)
  (hbody:∀(l:Nat) (pre:List α) (x:α) (Z:List Nat) (W:World),I pre Z W→Sp (pre++[x])→body.wpIn (F.inRound l) (n - 1 - 1) P (leftPost w.heap.size Z (fun xs V=>I xs Z V) (fun c xs V=>Ix c xs Z V) (pre++[x]) W) (a₁ x) W)
  (hdone:∀(D:Nat) (xs:List α) (Z:List Nat) (W:World),w.heap.size≤D→(∀k ∈ Z,k≠D)→S xs Z W→I xs Z W→W.heap[D]?=some (.deferred (some []))→Q .normal { a with defers:= { target:= .collected D,args:= #[] } ::a.defers } W)
  (hstop:∀(D:Nat) (c:Code) (xs:List α) (Z:List Nat) (W:World),w.heap.size≤D→(∀k ∈ Z,k≠D)→Sx xs Z W→Ix c xs Z W→W.heap[D]?=some (.deferred (some []))→c.wpIn F n P Q { a with defers:= { target:= .collected D,args:= #[] } ::a.defers } W):
  (Code.rangeFunc g ps assign body).wpIn F n P Q a w:=by
 refine range_turnsY hro h1 hg hFg eg hX hYl hseq hps hS hSx I Ix hI hIx h0 hIY hIxY (fun x a' _=>a'=a₁ x) (fun x a' A B h _=>h) ?_ ?_ hdone hstop
 ·intro l pre x Z W K hi hK
  exact hassign l x W K (hK _ _ (KeepsOthers.refl _ |>.from _) (SameAt.refl _ _) hi rfl)
 ·rintro l pre x Z a' W hi rfl hsp
  exact hbody l pre x Z W hi hsp
theorem TurnSeqZ.y {α:Type} {g:Nat} {lb:Array Value} {encs:α→Array Value} {X:List Nat} {Sp:List α→Prop} {S Sx:List α→List Nat→World→Prop} {w:World} (h:TurnSeqZ F n P g lb encs X Sp S Sx w) (Y:List Nat):TurnSeqY F n P g lb encs Y X Sp S Sx w:=
 fun l J Jx W hW _ _=>h l J Jx W hW
end Go.Proofs.Ytfmciiffcmfagaa
namespace Go.Proofs.Ytfmciiffcmfagaa
open Go.RowKit
def isI (i:Int):Prop:= -9223372036854775808≤i∧i≤9223372036854775807
def rdyL (q:Rq):List (Int×Int):=(sortQ q.ready).map fun x=>(x.1,x.2.1)
abbrev encR (x:Int×Int):Array Value:= #[.int .i64 x.1, .int .u64 x.2]
structure RqSaid where
 At:World→Nat→List Nat→Rq→Prop
 tn:TypeId→Bool
 offI:tn 3=false
 offB:tn 4=false
 offU:tn 27=false
 keep:∀ {w w':World} {b:Nat} {X Y:List Nat} {q:Rq},At w b X q→Turned Y w w'→(∀k ∈ X,k ∉ Y)→(∀k ∈ Y,∀cs t fz,w.heap[k]?=some (.cells cs t fz)→tn t=false)→At w' b X q
 lt:∀ {w:World} {b:Nat} {X:List Nat} {q:Rq},At w b X q→∀k ∈ X,k < w.heap.size
 own:∀ {w:World} {b:Nat} {X:List Nat} {q:Rq},At w b X q→∀k ∈ X,∀cs t fz,w.heap[k]?=some (.cells cs t fz)→tn t=false
 new:∀(g:Int) (w:World),isI g→Calls Try.prog 18 #[.int .i64 g] w fun e w'=>∃b X,e= .returned (.pointer (some ⟨b,0,none⟩))∧At w' b X (Rq.new g)∧Turned [] w w'∧∀k ∈ X,w.heap.size≤k
 add:∀ {w:World} {b:Nat} {X:List Nat} {q:Rq} {c:Int} (id v wt:Int),At w b X q→QOk q c→c≤10000→isI id→isI wt→Word v→Calls Try.prog 20 #[.pointer (some ⟨b,0,none⟩), .int .i64 id, .int .u64 v, .int .i64 wt] w fun e w'=>e= .returned (.tuple #[.int .u64 (addV q id v wt), .int .i64 (addE q id)])∧∃X',At w' b X' (q.add id v wt)∧Turned X w w'∧Newer X w.heap.size X'
 remove:∀ {w:World} {b:Nat} {X:List Nat} {q:Rq} {c:Int} (id:Int),At w b X q→QOk q c→c≤10000→isI id→Calls Try.prog 27 #[.pointer (some ⟨b,0,none⟩), .int .i64 id] w fun e w'=>e= .returned (.tuple #[.int .u64 (remV q id), .bool (findQ q.l id).isSome])∧∃X',At w' b X' (q.remove id)∧Turned X w w'∧Newer X w.heap.size X'
 weigh:∀ {w:World} {b:Nat} {X:List Nat} {q:Rq} {c:Int} (id wt:Int),At w b X q→QOk q c→c≤10000→isI id→isI wt→Calls Try.prog 30 #[.pointer (some ⟨b,0,none⟩), .int .i64 id, .int .i64 wt] w fun e w'=>e= .returned (.bool (findQ q.l id).isSome)∧∃X',At w' b X' (q.weigh id wt)∧Turned X w w'∧Newer X w.heap.size X'
 settle:∀ {w:World} {b:Nat} {X:List Nat} {q:Rq} {c:Int},At w b X q→QOk q c→c≤10000→Calls Try.prog 28 #[.pointer (some ⟨b,0,none⟩)] w fun e w'=>e= .returned (.tuple #[])∧∃X',At w' b X' q.settle∧Turned X w w'∧Newer X w.heap.size X'
 vv:∀ {w:World} {b:Nat} {X:List Nat} {q:Rq} {c:Int} (id:Int),At w b X q→QOk q c→c≤10000→isI id→Calls Try.prog 25 #[.pointer (some ⟨b,0,none⟩), .int .i64 id] w fun e w'=>e= .returned (.tuple #[.int .u64 (remV q id), .bool (findQ q.l id).isSome])∧Turned [] w w'
 current:∀ {w:World} {b:Nat} {X:List Nat} {q:Rq} {c:Int},At w b X q→QOk q c→c≤10000→Calls Try.prog 46 #[.pointer (some ⟨b,0,none⟩)] w fun e w'=>e= .returned (.tuple #[.int .i64 q.cur, .int .i64 q.ran, .bool (decide (0≤q.cur))])∧Turned [] w w'
 floor:∀ {w:World} {b:Nat} {X:List Nat} {q:Rq} {c:Int},At w b X q→QOk q c→c≤10000→Calls Try.prog 41 #[.pointer (some ⟨b,0,none⟩)] w fun e w'=>e= .returned (.int .u64 q.f)∧Turned [] w w'
 len:∀ {w:World} {b:Nat} {X:List Nat} {q:Rq} {c:Int},At w b X q→QOk q c→c≤10000→Calls Try.prog 32 #[.pointer (some ⟨b,0,none⟩)] w fun e w'=>e= .returned (.int .i64 (q.l.length:Nat))∧Turned [] w w'
 load:∀ {w:World} {b:Nat} {X:List Nat} {q:Rq} {c:Int},At w b X q→QOk q c→c≤10000→Calls Try.prog 21 #[.pointer (some ⟨b,0,none⟩)] w fun e w'=>e= .returned (.int .i64 (sumR (q.l.map (·.2.2))))∧Turned [] w w'
 ready:∀ {w:World} {b:Nat} {X:List Nat} {q:Rq} {c:Int},At w b X q→QOk q c→c≤10000→Calls Try.prog 38 #[.pointer (some ⟨b,0,none⟩)] w fun r w'=>∃f lb,r= .returned (.func (.func f) #[] lb)∧Turned [] w w'∧(∀args W,(callFunc f args).run Try.prog W= .ok (.enter f args) W)∧
  ∃Y Z,(∀k ∈ Y,k < w'.heap.size∧(k ∈ X∨w.heap.size≤k∨∃cs t fz,w'.heap[k]?=some (.cells cs t fz)∧tn t=true))∧(∀k ∈ Z,k < w'.heap.size∧w.heap.size≤k∧k ∉ Y)∧
   ∀n,1≤n→TurnSeqY Fence.wide n Try.prog f lb encR Y Z (fun xs=>xs <+:rdyL q) (fun xs _ _=>xs=rdyL q) (fun xs _ _=>xs <+:rdyL q) w'
theorem RqSaid.keep0 (S:RqSaid) {w w':World} {b:Nat} {X:List Nat} {q:Rq} (h:S.At w b X q) (ht:Turned [] w w'):S.At w' b X q:=
 S.keep h ht (by simp) (fun k hk=>by simp at hk)
theorem Turned.also {X:List Nat} {a b c:World} (h:Turned X a b) (g:Turned [] b c):Turned X a c:=h.trans g (fun k hk=>by simp at hk)
theorem Newer.low {X Y:List Nat} {n m:Nat} (h:Newer X n Y) (hm:m≤n):Newer X m Y:=h.mono hm
end Go.Proofs.Ytfmciiffcmfagaa
namespace Go.Proofs.Ytfmciiffcmfagaa
open Go.RowKit
section
variable {S:RqSaid} {w W W':World} {b d:Nat} {X Y X' Y':List Nat} {qp qd q2:Rq}
end
end Go.Proofs.Ytfmciiffcmfagaa
namespace Go.Proofs.Ytfmciiffcmfagaa
open Go.ChangeShapes Go.WideShapes Go.ChangeAt Go.RowKit Go.Deep
section
variable {H:Type} {enc:TypeId×Value→H} {P:Program}
variable {w:World} {base:Nat} {spare:Nat→Bool} {held:Bool}
theorem u8_low {x:Int} (h:(Lit.int .u8 x).wf=true):0≤x∧x≤255:=by
 simp [Lit.wf,IntKind.min,IntKind.max,IntKind.signed,IntKind.bits] at h
 exact⟨by omega,by omega⟩
theorem isI_of {x:Int} (h:(Lit.int .i64 x).wf=true):isI x:=by
 simp [Lit.wf,IntKind.min,IntKind.max,IntKind.signed,IntKind.bits] at h
 exact⟨by omega,by omega⟩
end
end Go.Proofs.Ytfmciiffcmfagaa
namespace Go.Proofs.Ytfmciiffcmfagaa
def psq (f:Nat→Int):Nat→Int
 |0=>0
 |n+1=>psq f n+f n*f n
theorem psq_two {f f':Nat→Int} {a b:Nat} (hab:a≠b) (h3:∀i,i≠a→i≠b→f' i=f i):∀n:Nat,psq f' n=psq f n+(if a < n then f' a*f' a - f a*f a else 0)+(if b < n then f' b*f' b - f b*f b else 0)
 |0=>by simp [psq]
 |n+1=>by
  have ih:=psq_two hab h3 n
  have e1:psq f' (n+1)=psq f' n+f' n*f' n:=rfl
  have e2:psq f (n+1)=psq f n+f n*f n:=rfl
  rw [e1,e2,ih]
  by_cases ha:n=a
  ·subst ha
   rw [if_neg (Nat.lt_irrefl n),if_pos (Nat.lt_succ_self n)]
   by_cases hb:b < n
   ·rw [if_pos hb,if_pos (by omega)]
    omega
   ·rw [if_neg hb,if_neg (by omega)]
    omega
  ·by_cases hb:n=b
   ·subst hb
    rw [if_neg (Nat.lt_irrefl n),if_pos (Nat.lt_succ_self n)]
    by_cases h:a < n
    ·rw [if_pos h,if_pos (by omega)]
     omega
    ·rw [if_neg h,if_neg (by omega)]
     omega
   ·rw [h3 n ha hb]
    have c1:(a < n+1)=(a < n):=by
     apply propext
     omega
    have c2:(b < n+1)=(b < n):=by
     apply propext
     omega
    simp only [c1,c2]
    omega
theorem sq_less {f f':Nat→Int} {n a b:Nat} (ha:a < n) (hb:b < n) (hab:a≠b) {w:Int} (h1:f' a=f a - w) (h2:f' b=f b+w) (h3:∀i,i≠a→i≠b→f' i=f i) (hw:0 < w) (hd:w < f a - f b):psq f' n < psq f n:=by
 rw [psq_two hab h3 n,if_pos ha,if_pos hb,h1,h2]
 have e1:(f a - w)*(f a - w) - f a*f a+((f b+w)*(f b+w) - f b*f b)= -(2*(w*(f a - f b - w))):=by
  simp only [Int.sub_mul,Int.mul_sub,Int.add_mul,Int.mul_add]
  have c1:=Int.mul_comm w (f a)
  have c2:=Int.mul_comm w (f b)
  omega
 have e2:0 < w*(f a - f b - w):=Int.mul_pos hw (by omega)
 omega
def cntN (f:Nat→Int) (m:Int):Nat→Nat
 |0=>0
 |n+1=>cntN f m n+(if f n=m then 1 else 0)
theorem cnt_le (f:Nat→Int) (m:Int):∀n,cntN f m n≤n
 |0=>Nat.le_refl _
 |n+1=>by
  have:=cnt_le f m n
  unfold cntN
  split<;>omega
theorem cnt_mono {f f':Nat→Int} {m:Int} (h:∀i,f' i=m→f i=m):∀n,cntN f' m n≤cntN f m n
 |0=>Nat.le_refl _
 |n+1=>by
  have ih:=cnt_mono h n
  have:=h n
  unfold cntN
  by_cases h1:f' n=m
  ·rw [if_pos h1,if_pos (this h1)];omega
  ·rw [if_neg h1];omega
theorem cnt_less {f f':Nat→Int} {m:Int} (h:∀i,f' i=m→f i=m) {a:Nat} (ha:f a=m) (ha':f' a≠m):∀n,a < n→cntN f' m n < cntN f m n
 |0,hn=>absurd hn (Nat.not_lt_zero a)
 |n+1,hn=>by
  by_cases hna:n=a
  ·subst hna
   have:=cnt_mono h n
   unfold cntN
   rw [if_neg ha',if_pos ha]
   omega
  ·have ih:=cnt_less h ha ha' n (by omega)
   have:=h n
   unfold cntN
   by_cases h1:f' n=m
   ·rw [if_pos h1,if_pos (this h1)];omega
   ·rw [if_neg h1];omega
theorem cnt_one {f:Nat→Int} {m:Int} {a:Nat} (ha:f a=m):∀n,a < n→1≤cntN f m n
 |0,hn=>absurd hn (Nat.not_lt_zero a)
 |n+1,hn=>by
  unfold cntN
  by_cases hna:n=a
  ·subst hna
   rw [if_pos ha]
   omega
  ·have:=cnt_one ha n (by omega)
   omega
theorem meas_less {f f':Nat→Int} {n a b a':Nat} (hn:n≤4) (ha:a < n) (ha':a' < n) (hmax:∀i,i < n→f i≤f a) {w:Int} (h1:f' a=f a - w) (h2:f' b=f b+w) (h3:∀i,i≠a→i≠b→f' i=f i) (hw:0 < w) (hd:w < f a - f b):
  5*f' a'+cntN f' (f' a') n < 5*f a+cntN f (f a) n:=by
 have hone:=cnt_one (f:=f) rfl n ha
 have hle:f' a'≤f a:=by
  by_cases e1:a'=a
  ·rw [e1];omega
  ·by_cases e2:a'=b
   ·rw [e2];omega
   ·rw [h3 a' e1 e2];exact hmax a' ha'
 by_cases he:f' a'=f a
 ·rw [he]
  have:=cnt_less (f:=f) (f':=f') (m:=f a) (fun i hi=>by
   by_cases e1:i=a
   ·rw [e1]
   ·by_cases e2:i=b
    ·rw [e2] at hi ⊢;omega
    ·rw [←h3 i e1 e2];exact hi) (a:=a) rfl (by omega) n ha
  omega
 ·have:=cnt_le f' (f' a') n
  omega
end Go.Proofs.Ytfmciiffcmfagaa
namespace Go.Proofs.Ytfmciiffcmfagaa
def loadQ (q:Rq):Int:=sumR (q.l.map (·.2.2))
def ofN:List Rq→Int→Option Nat
 |[],_=>none
 |q::l,id=>if (findQ q.l id).isSome=true then some 0 else (ofN l id).map (· +1)
def ofC (l:List Rq) (id:Int):Int:=match ofN l id with
 |none=> -1
 |some k=>k
def allC (l:List Rq):Nat:=(l.map (fun q=>q.l.length)).foldr (· + ·) 0
def addCE (l:List Rq) (core id:Int):Int:=if core < 0∨(l.length:Int)≤core∨id < 0 then 1 else if 0≤ofC l id then 12 else if 16≤allC l then 3 else 0
def addC (l:List Rq) (core id v w:Int):List Rq:=if addCE l core id=0 then l.modify core.toNat (fun q=>q.add id v w) else l
def remC (l:List Rq) (id:Int):List Rq:=match ofN l id with
 |none=>l
 |some k=>l.modify k (fun q=>q.remove id)
def goC (l:List Rq) (id:Int) (k t:Nat):List Rq:=match l[k]? with
 |none=>l
 |some q=>match findQ q.l id with
  |none=>l
  |some x=>(l.modify k (fun q=>q.remove id)).modify t (fun r=>r.add id (satV (r.f+max 0 (x.1 - q.f))) x.2)
def moveE (l:List Rq) (id core:Int):Int:=match ofN l id with
 |none=>4
 |some k=>if core < 0∨(l.length:Int)≤core then 1 else if (k:Int)=core then 12 else if ((l[k]?).map (·.cur)).getD (-1)=id then 8 else 0
def moveC (l:List Rq) (id core:Int):List Rq:=if moveE l id core=0 then goC l id ((ofN l id).getD 0) core.toNat else l
def loadAt (l:List Rq) (i:Nat):Int:=((l[i]?).map loadQ).getD 0
def mostTo (l:List Rq):Nat→Nat
 |0=>0
 |k+1=>if loadAt l (mostTo l k) < loadAt l k then k else mostTo l k
def leastTo (l:List Rq):Nat→Nat
 |0=>0
 |k+1=>if loadAt l k < loadAt l (leastTo l k) then k else leastTo l k
def readyAt (l:List Rq) (i:Nat):List (Int×Int×Int):=((l[i]?).map (fun q=>sortQ q.ready)).getD []
def balC (l:List Rq):Option (Int×Nat×Nat):=
 ((readyAt l (mostTo l l.length)).find? (fun x=>decide (x.2.2 < loadAt l (mostTo l l.length) - loadAt l (leastTo l l.length)))).map (fun x=>(x.1,mostTo l l.length,leastTo l l.length))
def balanceC (l:List Rq):List Rq:=match balC l with
 |none=>l
 |some x=>goC l x.1 x.2.1 x.2.2
section
variable {l:List Rq}
theorem mostTo_lt:∀k:Nat,mostTo l k < k+(if k=0 then 1 else 0)
 |0=>by simp [mostTo]
 |k+1=>by
  have:=mostTo_lt k
  unfold mostTo
  rw [if_neg (Nat.succ_ne_zero k)]
  split
  ·omega
  ·split at this<;>omega
theorem most_lt (h:0 < l.length):mostTo l l.length < l.length:=by
 have:=mostTo_lt (l:=l) l.length
 rw [if_neg (by omega)] at this
 exact this
theorem leastTo_lt:∀k:Nat,leastTo l k < k+(if k=0 then 1 else 0)
 |0=>by simp [leastTo]
 |k+1=>by
  have:=leastTo_lt k
  unfold leastTo
  rw [if_neg (Nat.succ_ne_zero k)]
  split
  ·omega
  ·split at this<;>omega
theorem least_lt (h:0 < l.length):leastTo l l.length < l.length:=by
 have:=leastTo_lt (l:=l) l.length
 rw [if_neg (by omega)] at this
 exact this
theorem most_ge:∀k i:Nat,i < k→loadAt l i≤loadAt l (mostTo l k)
 |0,i,h=>absurd h (Nat.not_lt_zero i)
 |k+1,i,h=>by
  unfold mostTo
  by_cases hik:i=k
  ·subst hik
   split<;>omega
  ·have:=most_ge k i (by omega)
   split<;>omega
theorem ofN_some:∀ {l:List Rq} {id:Int} {k:Nat},ofN l id=some k→∃q,l[k]?=some q∧(findQ q.l id).isSome=true∧∀(j:Nat) (r:Rq),j < k→l[j]?=some r→(findQ r.l id).isSome=false
 |[],id,k,h=>by cases h
 |q::l,id,k,h=>by
  unfold ofN at h
  by_cases hq:(findQ q.l id).isSome=true
  ·rw [if_pos hq] at h
   cases h
   exact⟨q,rfl,hq,fun j r hj=>absurd hj (Nat.not_lt_zero j)⟩
  ·rw [if_neg hq] at h
   obtain⟨k',hk',rfl⟩:=Option.map_eq_some_iff.1 h
   obtain⟨r,h1,h2,h3⟩:=ofN_some hk'
   refine⟨r,by simpa using h1,h2,fun j s hj hs=>?_⟩
   cases j with
   |zero=>
    simp only [List.getElem?_cons_zero,Option.some.injEq] at hs
    subst hs
    simpa using hq
   |succ j=>exact h3 j s (by omega) (by simpa using hs)
theorem ofN_none:∀ {l:List Rq} {id:Int},ofN l id=none→∀q ∈ l,(findQ q.l id).isSome=false
 |[],id,h,q,hq=>by cases hq
 |q::l,id,h,r,hr=>by
  unfold ofN at h
  by_cases hq:(findQ q.l id).isSome=true
  ·rw [if_pos hq] at h
   cases h
  ·rw [if_neg hq] at h
   rcases List.mem_cons.1 hr with e|e
   ·subst e
    simpa using hq
   ·exact ofN_none (Option.map_eq_none_iff.1 h) r e
theorem sum_filter:∀ {t:List (Int×Int×Int)} {id:Int} {x:Int×Int},(t.map (·.1)).Nodup→(id,x) ∈ t→sumR ((t.filter (fun y=>decide (y.1≠id))).map (·.2.2))=sumR (t.map (·.2.2)) - x.2
 |[],id,x,hu,h=>by cases h
 |y::t,id,x,hu,h=>by
  rw [List.map_cons,List.nodup_cons] at hu
  have e0:sumR ((y::t).map (·.2.2))=y.2.2+sumR (t.map (·.2.2)):=by simp [sumR]
  rcases List.mem_cons.1 h with e|e
  ·subst e
   have:t.filter (fun z=>decide (z.1≠id))=t:=List.filter_eq_self.2 fun z hz=>by
    have:z.1≠id:=fun e=>hu.1 (List.mem_map.2 ⟨z,hz,e⟩)
    simpa using this
   rw [List.filter_cons_of_neg (by simp),this,e0]
   dsimp only
   omega
  ·have hne:y.1≠id:=fun e'=>hu.1 (List.mem_map.2 ⟨_,e,e'.symm⟩)
   have ih:=sum_filter hu.2 e
   rw [List.filter_cons_of_pos (by simpa using hne),List.map_cons,e0]
   have:sumR (y.2.2::(t.filter (fun z=>decide (z.1≠id))).map (·.2.2))=y.2.2+sumR ((t.filter (fun z=>decide (z.1≠id))).map (·.2.2)):=by simp [sumR]
   rw [this,ih]
   omega
theorem sum_snoc (t:List (Int×Int×Int)) (y:Int×Int×Int):sumR ((t++[y]).map (·.2.2))=sumR (t.map (·.2.2))+y.2.2:=by
 induction t with
 |nil=>simp [sumR]
 |cons z t ih=>
  simp only [List.cons_append,List.map_cons] at ih ⊢
  simp only [sumR,List.foldr_cons] at ih ⊢
  omega
theorem load_remove {q:Rq} {c:Int} (h:QOk q c) {id:Int} {x:Int×Int} (hf:findQ q.l id=some x):loadQ (q.remove id)=loadQ q - x.2:=by
 unfold loadQ Rq.remove
 rw [if_pos (by rw [hf];rfl)]
 exact sum_filter h.uniq (findQ_mem hf)
theorem load_add {q:Rq} {id v w:Int} (h0:0≤id) (hf:(findQ q.l id).isSome=false) (hl:q.l.length < 16) (h1:1≤w) (h2:w≤4096):loadQ (q.add id v w)=loadQ q+w:=by
 unfold loadQ Rq.add
 rw [if_neg (by
  rintro (a|a|a)
  ·omega
  ·rw [hf] at a;cases a
  ·omega)]
 dsimp only
 rw [sum_snoc,bring_in h1 h2]
structure COk (l:List Rq) (c:Int):Prop where
 len:1≤l.length∧l.length≤4
 ok:∀q ∈ l,QOk q c
 all:allC l≤16
 one:∀(i j:Nat) (q r:Rq) (id:Int),l[i]?=some q→l[j]?=some r→(findQ q.l id).isSome=true→(findQ r.l id).isSome=true→i=j
theorem modify_same (k:Nat) (f:Rq→Rq):(l.modify k f)[k]?=(l[k]?).map f:=by
 rw [List.getElem?_modify]
 cases l[k]?<;>simp
theorem modify_other {k j:Nat} (h:k≠j) (f:Rq→Rq):(l.modify k f)[j]?=l[j]?:=by
 rw [List.getElem?_modify]
 cases l[j]?<;>simp [h]
theorem allC_cons (q:Rq) (l:List Rq):allC (q::l)=q.l.length+allC l:=by simp [allC]
theorem allC_modify:∀ {l:List Rq} {k:Nat} {q:Rq} (f:Rq→Rq),l[k]?=some q→allC (l.modify k f)+q.l.length=allC l+(f q).l.length
 |[],k,q,f,h=>by cases h
 |r::l,0,q,f,h=>by
  simp only [List.getElem?_cons_zero,Option.some.injEq] at h
  subst h
  rw [List.modify_zero_cons,allC_cons,allC_cons]
  omega
 |r::l,k+1,q,f,h=>by
  have ih:=allC_modify f (l:=l) (k:=k) (q:=q) (by simpa using h)
  rw [List.modify_succ_cons,allC_cons,allC_cons]
  omega
theorem allC_ge:∀ {l:List Rq} {k:Nat} {q:Rq},l[k]?=some q→q.l.length≤allC l
 |[],k,q,h=>by cases h
 |r::l,0,q,h=>by
  simp only [List.getElem?_cons_zero,Option.some.injEq] at h
  subst h
  rw [allC_cons]
  omega
 |r::l,k+1,q,h=>by
  have ih:=allC_ge (l:=l) (k:=k) (q:=q) (by simpa using h)
  rw [allC_cons]
  omega
theorem allC_two:∀ {l:List Rq} {i j:Nat} {q r:Rq},i≠j→l[i]?=some q→l[j]?=some r→q.l.length+r.l.length≤allC l
 |[],i,j,q,r,hij,h1,h2=>by cases h1
 |s::l,0,0,q,r,hij,h1,h2=>absurd rfl hij
 |s::l,0,j+1,q,r,hij,h1,h2=>by
  simp only [List.getElem?_cons_zero,Option.some.injEq] at h1
  subst h1
  have:=allC_ge (l:=l) (k:=j) (q:=r) (by simpa using h2)
  rw [allC_cons]
  omega
 |s::l,i+1,0,q,r,hij,h1,h2=>by
  simp only [List.getElem?_cons_zero,Option.some.injEq] at h2
  subst h2
  have:=allC_ge (l:=l) (k:=i) (q:=q) (by simpa using h1)
  rw [allC_cons]
  omega
 |s::l,i+1,j+1,q,r,hij,h1,h2=>by
  have:=allC_two (l:=l) (i:=i) (j:=j) (q:=q) (r:=r) (by omega) (by simpa using h1) (by simpa using h2)
  rw [allC_cons]
  omega
theorem find_pos {q:Rq} {id:Int} (h:(findQ q.l id).isSome=true):1≤q.l.length:=by
 cases e:q.l with
 |nil=>rw [e] at h;cases h
 |cons=>simp
theorem mem_at {k:Nat} {q:Rq} (h:l[k]?=some q):q ∈ l:=List.mem_iff_getElem?.2 ⟨k,h⟩
theorem COk.modify {c c':Int} (h:COk l c) (hc:c≤c') (k:Nat) (f:Rq→Rq) (hf:∀q,l[k]?=some q→QOk (f q) c') (hl:∀q,l[k]?=some q→(f q).l.length≤q.l.length) (hs:∀q id,l[k]?=some q→(findQ (f q).l id).isSome=true→(findQ q.l id).isSome=true):COk (l.modify k f) c':=by
 have old:∀(i:Nat) (q:Rq),(l.modify k f)[i]?=some q→∃q0,l[i]?=some q0∧((i=k∧q=f q0)∨q=q0):=fun i q hq=>by
  by_cases hik:k=i
  ·subst hik
   rw [modify_same] at hq
   obtain⟨q0,h1,h2⟩:=Option.map_eq_some_iff.1 hq
   exact⟨q0,h1, .inl ⟨rfl,h2.symm⟩⟩
  ·rw [modify_other hik] at hq
   exact⟨q,hq, .inr rfl⟩
 refine⟨by rw [List.length_modify];exact h.len,fun q hq=>?_,?_,fun i j q r id h1 h2 h3 h4=>?_⟩
 ·obtain⟨i,hi⟩:=List.mem_iff_getElem?.1 hq
  obtain⟨q0,h1,h2|h2⟩:=old i q hi
  ·obtain⟨rfl,rfl⟩:=h2
   exact hf q0 h1
  ·subst h2
   exact (h.ok q (mem_at h1)).later hc
 ·cases hk:l[k]? with
  |none=>
   have:l.modify k f=l:=List.modify_eq_self (by simpa using hk)
   rw [this]
   exact h.all
  |some q=>
   have h1:=allC_modify f hk
   have h2:=hl q hk
   have:=h.all
   omega
 ·obtain⟨q0,a1,a2⟩:=old i q h1
  obtain⟨r0,b1,b2⟩:=old j r h2
  refine h.one i j q0 r0 id a1 b1 ?_ ?_
  ·rcases a2 with⟨rfl,rfl⟩ |rfl
   ·exact hs q0 id a1 h3
   ·exact h3
  ·rcases b2 with⟨rfl,rfl⟩ |rfl
   ·exact hs r0 id b1 h4
   ·exact h4
theorem find_remove {q:Rq} (id j:Int) (hj:(findQ (q.remove id).l j).isSome=true):(findQ q.l j).isSome=true∧((findQ q.l id).isSome=true→j≠id):=by
 obtain⟨y,hy⟩:=Option.isSome_iff_exists.1 hj
 have hm:=findQ_mem hy
 unfold Rq.remove at hm
 have up:(j,y) ∈ q.l→(findQ q.l j).isSome=true:=fun hm=>by
  cases hf:findQ q.l j with
  |none=>exact absurd rfl (findQ_none hf _ hm)
  |some z=>rfl
 split at hm
 ·have:=List.mem_filter.1 hm
  exact⟨up this.1,fun _=>by simpa using this.2⟩
 ·exact⟨up hm,fun h=>absurd h (by assumption)⟩
theorem remove_len (q:Rq) (id:Int):(q.remove id).l.length≤q.l.length:=by
 unfold Rq.remove
 split
 ·exact List.length_filter_le _ _
 ·exact Nat.le_refl _
end
end Go.Proofs.Ytfmciiffcmfagaa
namespace Go.Proofs.Ytfmciiffcmfagaa
section
variable {l:List Rq} {c:Int}
theorem find_add {q:Rq} {id v w j:Int} (hj:(findQ (q.add id v w).l j).isSome=true):(findQ q.l j).isSome=true∨j=id:=by
 obtain⟨y,hy⟩:=Option.isSome_iff_exists.1 hj
 have hm:=findQ_mem hy
 have up:(j,y) ∈ q.l→(findQ q.l j).isSome=true:=fun hm=>by
  cases hf:findQ q.l j with
  |none=>exact absurd rfl (findQ_none hf _ hm)
  |some z=>rfl
 unfold Rq.add at hm
 split at hm
 ·exact .inl (up hm)
 ·rcases List.mem_append.1 hm with h|h
  ·exact .inl (up h)
  ·simp only [List.mem_singleton,Prod.mk.injEq] at h
   exact .inr h.1
theorem add_len (q:Rq) (id v w:Int):(q.add id v w).l.length≤q.l.length+1:=by
 unfold Rq.add
 split<;>simp
theorem COk.addAt (h:COk l c) {id:Int} (hn:∀q ∈ l,(findQ q.l id).isSome=false) (ha:allC l < 16) (t:Nat) {vf:Rq→Int} (hv:∀q,l[t]?=some q→Word (vf q)) (w:Int):COk (l.modify t (fun r=>r.add id (vf r) w)) c:=by
 have old:∀(i:Nat) (q:Rq),(l.modify t (fun r=>r.add id (vf r) w))[i]?=some q→∃q0,l[i]?=some q0∧((i=t∧q=q0.add id (vf q0) w)∨(i≠t∧q=q0)):=fun i q hq=>by
  by_cases hik:t=i
  ·subst hik
   rw [modify_same] at hq
   obtain⟨q0,h1,h2⟩:=Option.map_eq_some_iff.1 hq
   exact⟨q0,h1, .inl ⟨rfl,h2.symm⟩⟩
  ·rw [modify_other hik] at hq
   exact⟨q,hq, .inr ⟨fun e=>hik e.symm,rfl⟩⟩
 refine⟨by rw [List.length_modify];exact h.len,fun q hq=>?_,?_,fun i j q r d h1 h2 h3 h4=>?_⟩
 ·obtain⟨i,hi⟩:=List.mem_iff_getElem?.1 hq
  obtain⟨q0,h1,h2|h2⟩:=old i q hi
  ·obtain⟨rfl,rfl⟩:=h2
   exact (h.ok q0 (mem_at h1)).add id (hv q0 h1) w
  ·obtain⟨_,rfl⟩:=h2
   exact h.ok q (mem_at h1)
 ·cases hk:l[t]? with
  |none=>
   have:l.modify t (fun r=>r.add id (vf r) w)=l:=List.modify_eq_self (by simpa using hk)
   rw [this]
   exact h.all
  |some q=>
   have h1:=allC_modify (fun r=>r.add id (vf r) w) hk
   have h2:=add_len q id (vf q) w
   omega
 ·obtain⟨q0,a1,a2⟩:=old i q h1
  obtain⟨r0,b1,b2⟩:=old j r h2
  have hnq:=hn q0 (mem_at a1)
  have hnr:=hn r0 (mem_at b1)
  rcases a2 with⟨rfl,rfl⟩ |⟨a3,rfl⟩<;>rcases b2 with⟨b3,rfl⟩ |⟨b3,rfl⟩
  ·exact b3.symm
  ·rcases find_add h3 with e|e
   ·exact h.one _ _ _ _ d a1 b1 e h4
   ·subst e
    rw [hnr] at h4
    cases h4
  ·rcases find_add h4 with e|e
   ·exact h.one _ _ _ _ d a1 b1 h3 e
   ·subst e
    rw [hnq] at h3
    cases h3
  ·exact h.one _ _ _ _ d a1 b1 h3 h4
theorem removed_none {q:Rq} {id:Int} (hf:(findQ q.l id).isSome=true):(findQ (q.remove id).l id).isSome=false:=by
 cases he:(findQ (q.remove id).l id).isSome with
 |false=>rfl
 |true=>exact absurd rfl ((find_remove id id he).2 hf)
theorem remove_less {q:Rq} {id:Int} (hf:(findQ q.l id).isSome=true):(q.remove id).l.length < q.l.length:=by
 obtain⟨x,hx⟩:=Option.isSome_iff_exists.1 hf
 have hm:=findQ_mem hx
 unfold Rq.remove
 rw [if_pos hf]
 dsimp only
 exact List.length_filter_lt_length_iff_exists.2 ⟨_,hm,by simp⟩
theorem COk.gone (h:COk l c) {id:Int} {k:Nat} {q:Rq} (hk:l[k]?=some q) (hf:(findQ q.l id).isSome=true):COk (l.modify k (fun q=>q.remove id)) c∧(∀r ∈ l.modify k (fun q=>q.remove id),(findQ r.l id).isSome=false)∧allC (l.modify k (fun q=>q.remove id)) < 16:=by
 refine⟨h.modify (Int.le_refl c) k _ (fun q hq=>(h.ok q (mem_at hq)).remove id) (fun q _=>remove_len q id) (fun q j _ hj=>(find_remove id j hj).1),fun r hr=>?_,?_⟩
 ·obtain⟨i,hi⟩:=List.mem_iff_getElem?.1 hr
  by_cases hik:k=i
  ·subst hik
   rw [modify_same,hk] at hi
   simp only [Option.map_some,Option.some.injEq] at hi
   subst hi
   exact removed_none hf
  ·rw [modify_other hik] at hi
   cases he:(findQ r.l id).isSome with
   |false=>rfl
   |true=>exact absurd (h.one k i q r id hk hi hf he) hik
 ·have h1:=allC_modify (fun q=>q.remove id) hk
  have h2:=remove_less hf
  have:=h.all
  omega
theorem goC_eq {id:Int} {k t:Nat} {q:Rq} {x:Int×Int} (hk:l[k]?=some q) (hf:findQ q.l id=some x):goC l id k t=(l.modify k (fun q=>q.remove id)).modify t (fun r=>r.add id (satV (r.f+max 0 (x.1 - q.f))) x.2):=by
 unfold goC
 simp only [hk,hf]
theorem goC_word {q r:Rq} {x:Int×Int} (hr:Word r.f):Word (satV (r.f+max 0 (x.1 - q.f))):=sat_word (by
 have:=hr.1
 have:0≤max 0 (x.1 - q.f):=Int.le_max_left _ _
 omega)
theorem COk.moved (h:COk l c) {id:Int} {k t:Nat} {q:Rq} (hk:l[k]?=some q) (hf:(findQ q.l id).isSome=true):COk (goC l id k t) c:=by
 obtain⟨x,hx⟩:=Option.isSome_iff_exists.1 hf
 obtain⟨g1,g2,g3⟩:=h.gone hk hf
 rw [goC_eq hk hx]
 exact g1.addAt g2 g3 t (vf:=fun r=>satV (r.f+max 0 (x.1 - q.f))) (fun r hr=>goC_word (g1.ok r (mem_at hr)).f) x.2
theorem loadAt_some {k:Nat} {q:Rq} (hk:l[k]?=some q):loadAt l k=loadQ q:=by
 unfold loadAt
 rw [hk]
 rfl
theorem COk.loads (h:COk l c) {id:Int} {k t:Nat} {q:Rq} {x:Int×Int} (hk:l[k]?=some q) (hx:findQ q.l id=some x) (ht:t < l.length) (hkt:k≠t):
  loadAt (goC l id k t) k=loadAt l k - x.2∧loadAt (goC l id k t) t=loadAt l t+x.2∧∀i,i≠k→i≠t→loadAt (goC l id k t) i=loadAt l i:=by
 have hf:(findQ q.l id).isSome=true:=by rw [hx];rfl
 obtain⟨g1,g2,g3⟩:=h.gone hk hf
 rw [goC_eq hk hx]
 have hr:l[t]?=some l[t]:=List.getElem?_eq_getElem ht
 have hr':(l.modify k (fun q=>q.remove id))[t]?=some l[t]:=by rw [modify_other hkt,hr]
 have hqk:=h.ok q (mem_at hk)
 have hid:=hqk.ids _ (findQ_mem hx)
 obtain⟨w1,w2⟩:=hqk.wt _ (findQ_mem hx)
 have hlen:=allC_ge hr'
 refine⟨?_,?_,fun i h1 h2=>?_⟩
 ·rw [loadAt_some (q:=q.remove id) (by rw [modify_other (fun e=>hkt e.symm),modify_same,hk];rfl),loadAt_some hk]
  exact load_remove hqk hx
 ·rw [loadAt_some (by rw [modify_same,hr'];rfl),loadAt_some hr]
  exact load_add hid (g2 _ (mem_at hr')) (by omega) w1 w2
 ·unfold loadAt
  rw [modify_other (fun e=>h2 e.symm),modify_other (fun e=>h1 e.symm)]
theorem balC_some (h:COk l c) {id:Int} {k t:Nat} (hb:balC l=some (id,k,t)):∃q x,l[k]?=some q∧findQ q.l id=some x∧t < l.length∧k=mostTo l l.length∧t=leastTo l l.length∧x.2 < loadAt l k - loadAt l t∧1≤x.2∧k≠t∧id≠q.cur:=by
 unfold balC at hb
 obtain⟨y,hy,he⟩:=Option.map_eq_some_iff.1 hb
 simp only [Prod.mk.injEq] at he
 obtain⟨rfl,rfl,rfl⟩:=he
 have hm:=List.mem_of_find?_eq_some hy
 have hp:=List.find?_some hy
 have hlt:=most_lt (l:=l) (by have:=h.len;omega)
 have hq:l[mostTo l l.length]?=some l[mostTo l l.length]:=List.getElem?_eq_getElem hlt
 unfold readyAt at hm
 rw [hq] at hm
 simp only [Option.map_some,Option.getD_some] at hm
 rw [mem_sort] at hm
 unfold Rq.ready at hm
 obtain⟨hm1,hm2⟩:=List.mem_filter.1 hm
 have hok:=h.ok _ (mem_at hq)
 have hd:y.2.2 < loadAt l (mostTo l l.length) - loadAt l (leastTo l l.length):=by simpa using hp
 have hw:=hok.wt _ hm1
 cases hf:findQ (l[mostTo l l.length]).l y.1 with
 |none=>exact absurd rfl (findQ_none hf y hm1)
 |some z=>
  have hz:(y.1,z)=y:=findQ_one hok.uniq (findQ_mem hf) hm1 rfl
  have hz2:z=y.2:=by rw [←hz]
  subst hz2
  refine⟨_,_,hq,hf,least_lt (by have:=h.len;omega),rfl,rfl,hd,hw.1,fun e=>?_,by simpa using hm2⟩
  rw [e] at hd
  omega
theorem balance_less (h:COk l c) {x:Int×Nat×Nat} (hb:balC l=some x):COk (balanceC l) c∧(balanceC l).length=l.length∧psq (loadAt (balanceC l)) l.length < psq (loadAt l) l.length∧
  5*loadAt (balanceC l) (mostTo (balanceC l) l.length)+cntN (loadAt (balanceC l)) (loadAt (balanceC l) (mostTo (balanceC l) l.length)) l.length < 5*loadAt l (mostTo l l.length)+cntN (loadAt l) (loadAt l (mostTo l l.length)) l.length:=by
 obtain⟨id,k,t⟩:=x
 obtain⟨q,x,hk,hx,ht,ek,et,hd,hw,hkt,_⟩:=balC_some h hb
 have eb:balanceC l=goC l id k t:=by
  unfold balanceC
  rw [hb]
 rw [eb]
 have hlt:=most_lt (l:=l) (by omega)
 obtain⟨l1,l2,l3⟩:=h.loads hk hx ht hkt
 have hlen:(goC l id k t).length=l.length:=by rw [goC_eq hk hx,List.length_modify,List.length_modify]
 refine⟨h.moved hk (by rw [hx];rfl),hlen,sq_less (by omega) ht hkt l1 l2 l3 (by omega) (by omega),?_⟩
 rw [←ek]
 have h':mostTo (goC l id k t) l.length < l.length:=by
  have:=most_lt (l:=goC l id k t) (by omega)
  rwa [hlen] at this
 exact meas_less h.len.2 (by omega) h' (fun i hi=>by rw [ek];exact most_ge _ i hi) l1 l2 l3 (by omega) (by omega)
end
end Go.Proofs.Ytfmciiffcmfagaa
namespace Go.Proofs.Ytfmciiffcmfagaa
open Go.RowKit
abbrev Tq:=Nat×List Nat
structure Cs (A:World→Nat→List Nat→Rq→Prop) (w:World) (T:List Tq) (l:List Rq):Prop where
 len:T.length=l.length
 at_:∀(i:Nat) (x:Tq) (q:Rq),T[i]?=some x→l[i]?=some q→A w x.1 x.2 q
 apart:∀(i j:Nat) (x y:Tq),i≠j→T[i]?=some x→T[j]?=some y→∀k ∈ x.2,k ∉ y.2
 lt:∀x ∈ T,∀k ∈ x.2,k < w.heap.size
abbrev encP (b:Nat):List Value:=[.pointer (some ⟨b,0,none⟩)]
theorem encP_len (b:Nat):(encP b).length=1:=rfl
section
variable {A:World→Nat→List Nat→Rq→Prop} {w w':World} {T:List Tq} {l:List Rq} {X Y Y':List Nat} {q q':Rq} {b d:Nat}
theorem mem_of_at {α:Type} {l:List α} {k:Nat} {x:α} (h:l[k]?=some x):x ∈ l:=List.mem_iff_getElem?.2 ⟨k,h⟩
theorem Cs.nil (A:World→Nat→List Nat→Rq→Prop) (w:World):Cs A w [] []:=⟨rfl,fun i x q h=>by simp at h,fun i j x y _ h=>by simp at h,fun x hx=>by cases hx⟩
theorem Cs.keep (hA:∀ {b:Nat} {X:List Nat} {q:Rq},A w b X q→(∀k ∈ X,k ∉ Y)→A w' b X q) (h:Cs A w T l) (t:Turned Y w w') (hd:∀x ∈ T,∀k ∈ x.2,k ∉ Y):Cs A w' T l:=
 ⟨h.len,fun i x q h1 h2=>hA (h.at_ i x q h1 h2) (hd x (mem_of_at h1)),h.apart,fun x hx k hk=>Nat.lt_of_lt_of_le (h.lt x hx k hk) t.size⟩
theorem snoc_at {α:Type} {l:List α} {x y:α} {i:Nat} (h:(l++[x])[i]?=some y):l[i]?=some y∨(i=l.length∧y=x):=by
 rcases Nat.lt_or_ge i l.length with hi|hi
 ·rw [List.getElem?_append_left hi] at h
  exact .inl h
 ·rw [List.getElem?_append_right hi] at h
  rcases Nat.eq_zero_or_pos (i - l.length) with h0|h0
  ·rw [h0] at h
   simp only [List.getElem?_cons_zero,Option.some.injEq] at h
   exact .inr ⟨by omega,h.symm⟩
  ·rw [List.getElem?_eq_none (by simp;omega)] at h
   cases h
theorem Cs.push (h:Cs A w' T l) (a:A w' d Y q) (hn:∀k ∈ Y,k < w'.heap.size) (hd:∀x ∈ T,∀k ∈ x.2,k ∉ Y):Cs A w' (T++[(d,Y)]) (l++[q]):=by
 have hl:=h.len
 refine⟨by simp [hl],fun i x r h1 h2=>?_,fun i j x y hij h1 h2 k hk hk'=>?_,fun x hx k hk=>?_⟩
 ·rcases snoc_at h1 with e1|⟨e1,rfl⟩
  ·have hi:i < T.length:=(List.getElem?_eq_some_iff.1 e1).1
   rcases snoc_at h2 with e2|⟨e2,_⟩
   ·exact h.at_ i x r e1 e2
   ·omega
  ·rcases snoc_at h2 with e2|⟨_,rfl⟩
   ·have hi:i < l.length:=(List.getElem?_eq_some_iff.1 e2).1
    omega
   ·exact a
 ·rcases snoc_at h1 with e1|⟨e1,rfl⟩<;>rcases snoc_at h2 with e2|⟨e2,rfl⟩
  ·exact h.apart i j x y hij e1 e2 k hk hk'
  ·exact hd x (mem_of_at e1) k hk hk'
  ·exact hd y (mem_of_at e2) k hk' hk
  ·omega
 ·rcases List.mem_append.1 hx with e|e
  ·exact h.lt x e k hk
  ·simp only [List.mem_singleton] at e
   subst e
   exact hn k hk
theorem set_at {α:Type} {l:List α} {i j:Nat} {x y:α} (h:(l.set i x)[j]?=some y):(i=j∧y=x)∨(i≠j∧l[j]?=some y):=by
 rw [List.getElem?_set] at h
 split at h
 ·rename_i e
  split at h
  ·exact .inl ⟨e,(Option.some.inj h).symm⟩
  ·cases h
 ·exact .inr ⟨by assumption,h⟩
theorem Cs.set (hA:∀ {b:Nat} {X:List Nat} {q:Rq},A w b X q→(∀k ∈ X,k ∉ Y)→A w' b X q) (h:Cs A w T l) {i:Nat} (hi:T[i]?=some (d,Y)) (a:A w' d Y' q') (t:Turned Y w w') (n:Newer Y w.heap.size Y') (hlt:∀k ∈ Y',k < w'.heap.size):Cs A w' (T.set i (d,Y')) (l.set i q'):=by
 have old:∀(j:Nat) (x:Tq),i≠j→T[j]?=some x→(∀k ∈ x.2,k ∉ Y)∧∀k ∈ x.2,k ∉ Y':=fun j x hij hx=>by
  have h1:∀k ∈ x.2,k ∉ Y:=h.apart j i x (d,Y) (fun e=>hij e.symm) hx hi
  refine⟨h1,fun k hk hk'=>?_⟩
  rcases n k hk' with e|e
  ·exact h1 k hk e
  ·have:=h.lt x (mem_of_at hx) k hk
   omega
 refine⟨by simp [h.len],fun j x r h1 h2=>?_,fun j m x y hjm h1 h2 k hk hk'=>?_,fun x hx k hk=>?_⟩
 ·rcases set_at h1 with⟨rfl,rfl⟩ |⟨hij,e1⟩
  ·rcases set_at h2 with⟨_,rfl⟩ |⟨hne,_⟩
   ·exact a
   ·exact absurd rfl hne
  ·rcases set_at h2 with⟨e,_⟩ |⟨_,e2⟩
   ·exact absurd e hij
   ·exact hA (h.at_ j x r e1 e2) (old j x hij e1).1
 ·rcases set_at h1 with⟨rfl,rfl⟩ |⟨hij,e1⟩<;>rcases set_at h2 with⟨rfl,rfl⟩ |⟨him,e2⟩
  ·exact hjm rfl
  ·exact (old m y him e2).2 k hk' hk
  ·exact (old j x hij e1).2 k hk hk'
  ·exact h.apart j m x y hjm e1 e2 k hk hk'
 ·obtain⟨j,hj⟩:=List.mem_iff_getElem?.1 hx
  rcases set_at hj with⟨rfl,rfl⟩ |⟨_,e⟩
  ·exact hlt k hk
  ·exact Nat.lt_of_lt_of_le (h.lt x (mem_of_at e) k hk) t.size
def blk (X0:List Nat) (T:List Tq):List Nat:=X0++T.flatMap (·.2)
theorem blk_mem {X0:List Nat} {T:List Tq} {k:Nat} :k ∈ blk X0 T↔k ∈ X0∨∃x ∈ T,k ∈ x.2:=by simp [blk]
end
end Go.Proofs.Ytfmciiffcmfagaa
namespace Go.Proofs.Ytfmciiffcmfagaa
open Go.RowKit
def wtsQ (q:Rq):List (Int×Int):=q.l.map fun x=>(x.1,x.2.2)
def newC (n g:Int):List Rq:=List.replicate (bringR n 1 4).toNat (Rq.new g)
def addCV (l:List Rq) (core id v w:Int):Int:=if addCE l core id=0 then ((l[core.toNat]?).map (fun q=>addV q id v w)).getD 0 else 0
def remCV (l:List Rq) (id:Int):Int:=match ofN l id with
 |none=>0
 |some k=>((l[k]?).map (fun q=>remV q id)).getD 0
def weighC (l:List Rq) (id w:Int):List Rq:=match ofN l id with
 |none=>l
 |some k=>l.modify k (fun q=>q.weigh id w)
def balV (l:List Rq):Int×Int×Int:=match balC l with
 |none=>(-1, -1, -1)
 |some (id,k,t)=>(id,k,t)
structure CAt (Own:World→Nat→List Nat→List Tq→List Rq→Prop) (A:World→Nat→List Nat→Rq→Prop) (w:World) (b:Nat) (X0:List Nat) (T:List Tq) (l:List Rq):Prop where
 own:Own w b X0 T l
 qs:Cs A w T l
 off:∀x ∈ T,∀k ∈ x.2,k ∉ X0
 lt:∀k ∈ X0,k < w.heap.size
structure CoSaid (S:RqSaid) where
 Own:World→Nat→List Nat→List Tq→List Rq→Prop
 keep:∀ {w w':World} {b:Nat} {X0 Y:List Nat} {T:List Tq} {l:List Rq},Own w b X0 T l→Turned Y w w'→(∀k ∈ X0,k ∉ Y)→(∀k ∈ Y,∀cs t fz,w.heap[k]?=some (.cells cs t fz)→S.tn t=false)→Own w' b X0 T l
 same:∀ {w:World} {b:Nat} {X0:List Nat} {T T':List Tq} {l l':List Rq},Own w b X0 T l→l'.map wtsQ=l.map wtsQ→T'.map (·.1)=T.map (·.1)→Own w b X0 T' l'
 own:∀ {w:World} {b:Nat} {X0:List Nat} {T:List Tq} {l:List Rq},Own w b X0 T l→∀k ∈ X0,∀cs t fz,w.heap[k]?=some (.cells cs t fz)→S.tn t=false
 new:∀(n g:Int) (w:World),isI n→isI g→Calls Try.prog 6 #[.int .i64 n, .int .i64 g] w fun e w'=>∃b X0 T,e= .returned (.pointer (some ⟨b,0,none⟩))∧CAt Own S.At w' b X0 T (newC n g)∧Turned [] w w'∧∀k ∈ blk X0 T,w.heap.size≤k
 add:∀ {w:World} {b:Nat} {X0:List Nat} {T:List Tq} {l:List Rq} {c:Int} (core id v wt:Int),CAt Own S.At w b X0 T l→COk l c→c≤10000→isI core→isI id→isI wt→Word v→
  Calls Try.prog 8 #[.pointer (some ⟨b,0,none⟩), .int .i64 core, .int .i64 id, .int .u64 v, .int .i64 wt] w fun e w'=>e= .returned (.tuple #[.int .u64 (addCV l core id v wt), .int .i64 (addCE l core id)])∧∃X0' T',CAt Own S.At w' b X0' T' (addC l core id v wt)∧Turned (blk X0 T) w w'∧Newer (blk X0 T) w.heap.size (blk X0' T')
 remove:∀ {w:World} {b:Nat} {X0:List Nat} {T:List Tq} {l:List Rq} {c:Int} (id:Int),CAt Own S.At w b X0 T l→COk l c→c≤10000→isI id→
  Calls Try.prog 13 #[.pointer (some ⟨b,0,none⟩), .int .i64 id] w fun e w'=>e= .returned (.tuple #[.int .u64 (remCV l id), .bool (ofN l id).isSome])∧∃X0' T',CAt Own S.At w' b X0' T' (remC l id)∧Turned (blk X0 T) w w'∧Newer (blk X0 T) w.heap.size (blk X0' T')
 move:∀ {w:World} {b:Nat} {X0:List Nat} {T:List Tq} {l:List Rq} {c:Int} (id core:Int),CAt Own S.At w b X0 T l→COk l c→c≤10000→isI id→isI core→
  Calls Try.prog 15 #[.pointer (some ⟨b,0,none⟩), .int .i64 id, .int .i64 core] w fun e w'=>e= .returned (.int .i64 (moveE l id core))∧∃X0' T',CAt Own S.At w' b X0' T' (moveC l id core)∧Turned (blk X0 T) w w'∧Newer (blk X0 T) w.heap.size (blk X0' T')
 bal:∀ {w:World} {b:Nat} {X0:List Nat} {T:List Tq} {l:List Rq} {c:Int},CAt Own S.At w b X0 T l→COk l c→c≤10000→
  Calls Try.prog 11 #[.pointer (some ⟨b,0,none⟩)] w fun e w'=>e= .returned (.tuple #[.int .i64 (balV l).1, .int .i64 (balV l).2.1, .int .i64 (balV l).2.2, .bool (balC l).isSome])∧∃X0' T',CAt Own S.At w' b X0' T' (balanceC l)∧Turned (blk X0 T) w w'∧Newer (blk X0 T) w.heap.size (blk X0' T')
 weigh:∀ {w:World} {b:Nat} {X0:List Nat} {T:List Tq} {l:List Rq} {c:Int} (id wt:Int),CAt Own S.At w b X0 T l→COk l c→c≤10000→isI id→isI wt→
  Calls Try.prog 16 #[.pointer (some ⟨b,0,none⟩), .int .i64 id, .int .i64 wt] w fun e w'=>e= .returned (.bool (ofN l id).isSome)∧∃X0' T',CAt Own S.At w' b X0' T' (weighC l id wt)∧Turned (blk X0 T) w w'∧Newer (blk X0 T) w.heap.size (blk X0' T')
 settle:∀ {w:World} {b:Nat} {X0:List Nat} {T:List Tq} {l:List Rq} {c:Int},CAt Own S.At w b X0 T l→COk l c→c≤10000→
  Calls Try.prog 14 #[.pointer (some ⟨b,0,none⟩)] w fun e w'=>e= .returned (.tuple #[])∧∃X0' T',CAt Own S.At w' b X0' T' (l.map Rq.settle)∧Turned (blk X0 T) w w'∧Newer (blk X0 T) w.heap.size (blk X0' T')
 of:∀ {w:World} {b:Nat} {X0:List Nat} {T:List Tq} {l:List Rq} {c:Int} (id:Int),CAt Own S.At w b X0 T l→COk l c→c≤10000→isI id→
  Calls Try.prog 12 #[.pointer (some ⟨b,0,none⟩), .int .i64 id] w fun e w'=>e= .returned (.int .i64 (ofC l id))∧Turned [] w w'
 len:∀ {w:World} {b:Nat} {X0:List Nat} {T:List Tq} {l:List Rq} {c:Int},CAt Own S.At w b X0 T l→COk l c→c≤10000→
  Calls Try.prog 7 #[.pointer (some ⟨b,0,none⟩)] w fun e w'=>e= .returned (.int .i64 (l.length:Nat))∧Turned [] w w'
 loads:∀ {w:World} {b:Nat} {X0:List Nat} {T:List Tq} {l:List Rq} {c:Int},CAt Own S.At w b X0 T l→COk l c→c≤10000→
  Calls Try.prog 10 #[.pointer (some ⟨b,0,none⟩)] w fun e w'=>∃g cap,e= .returned (.slice (some ⟨g,0,none⟩) l.length cap)∧Turned [] w w'∧w.heap.size≤g∧l.length≤cap∧cap≤maxLen∧∀i q,l[i]?=some q→w'.cell? ⟨g,i,none⟩=some (.int .i64 (loadQ q))
 queue:∀ {w:World} {b:Nat} {X0:List Nat} {T:List Tq} {l:List Rq} {c:Int} (core:Int),CAt Own S.At w b X0 T l→COk l c→c≤10000→isI core→
  Calls Try.prog 17 #[.pointer (some ⟨b,0,none⟩), .int .i64 core] w fun e w'=>e= .returned (.pointer (if core < 0 then none else (T[core.toNat]?).map fun x=>⟨x.1,0,none⟩))∧Turned [] w w'
section
variable {S:RqSaid} {C:CoSaid S} {w w':World} {b d:Nat} {X0 X0' Y Y':List Nat} {T T':List Tq} {l:List Rq} {q q':Rq}
theorem cs_keep (S:RqSaid) (t:Turned Y w w') (ho:∀k ∈ Y,∀cs t fz,w.heap[k]?=some (.cells cs t fz)→S.tn t=false):∀ {b:Nat} {X:List Nat} {q:Rq},S.At w b X q→(∀k ∈ X,k ∉ Y)→S.At w' b X q:=fun h hd=>S.keep h t hd ho
theorem CAt.keep (h:CAt C.Own S.At w b X0 T l) (t:Turned Y w w') (hd:∀k ∈ blk X0 T,k ∉ Y) (ho:∀k ∈ Y,∀cs t fz,w.heap[k]?=some (.cells cs t fz)→S.tn t=false):CAt C.Own S.At w' b X0 T l:=
 ⟨C.keep h.own t (fun k hk=>hd k (blk_mem.2 (.inl hk))) ho,h.qs.keep (cs_keep S t ho) t (fun x hx k hk=>hd k (blk_mem.2 (.inr ⟨x,hx,hk⟩))),h.off,fun k hk=>Nat.lt_of_lt_of_le (h.lt k hk) t.size⟩
theorem CAt.keep0 (h:CAt C.Own S.At w b X0 T l) (t:Turned [] w w'):CAt C.Own S.At w' b X0 T l:=h.keep t (by simp) (fun k hk=>by simp at hk)
end
end Go.Proofs.Ytfmciiffcmfagaa
namespace Go.Proofs.Ytfmciiffcmfagaa
theorem findQ_ids:∀(l:List (Int×Int×Int)) (id:Int),(findQ l id).isSome=true↔id ∈ l.map (·.1)
 |[],id=>by simp [findQ]
 |x::l,id=>by
  unfold findQ
  by_cases h:x.1=id
  ·rw [if_pos h]
   simp [h]
  ·rw [if_neg h,findQ_ids l id,List.map_cons,List.mem_cons]
   exact⟨fun e=> .inr e,fun e=>e.elim (fun e=>absurd e.symm h) fun e=>e⟩
def IdsC (l:List Rq):Prop:=∀q ∈ l,∀x ∈ q.l,isI x.1
section
variable {l:List Rq} {c c':Int}
theorem weigh_ids (q:Rq) (id w:Int):(q.weigh id w).l.map (·.1)=q.l.map (·.1):=by
 unfold Rq.weigh
 split
 ·rfl
 ·dsimp only
  rw [List.map_map]
  apply List.map_congr_left
  intro x _
  dsimp only [Function.comp]
  split<;>rfl
theorem COk.later (h:COk l c) (hc:c≤c'):COk l c':=⟨h.len,fun q hq=>(h.ok q hq).later hc,h.all,h.one⟩
theorem COk.ids (h:COk l c) (hc:c≤c') (k:Nat) (f:Rq→Rq) (hf:∀q,l[k]?=some q→QOk (f q) c') (hm:∀q,(f q).l.map (·.1)=q.l.map (·.1)):COk (l.modify k f) c':=by
 refine h.modify hc k f hf (fun q _=>?_) fun q id _ hs=>?_
 ·have:=congrArg List.length (hm q)
  simp only [List.length_map] at this
  omega
 ·rw [findQ_ids] at hs ⊢
  rwa [←hm q]
theorem newC_len (n g:Int):1≤(newC n g).length∧(newC n g).length≤4:=by
 unfold newC
 rw [List.length_replicate]
 unfold bringR
 repeat' split
 all_goals omega
theorem newC_mem {n g:Int} {q:Rq} (h:q ∈ newC n g):q=Rq.new g:=List.eq_of_mem_replicate h
theorem cok_new (n g:Int):COk (newC n g) 8:=by
 refine⟨newC_len n g,fun q hq=>by rw [newC_mem hq];exact QOk.new g,?_,fun i j q r id h1 _ h3 _=>?_⟩
 ·have:∀m,allC (List.replicate m (Rq.new g))=0:=fun m=>by
    induction m with
    |zero=>rfl
    |succ m ih=>
     rw [List.replicate_succ,allC_cons,ih]
     rfl
  unfold newC
  rw [this]
  omega
 ·rw [newC_mem (mem_at h1)] at h3
  cases h3
theorem COk.addC (h:COk l c) (core id:Int) {v:Int} (hv:Word v) (w:Int):COk (addC l core id v w) c:=by
 unfold Proofs.Ytfmciiffcmfagaa.addC
 split
 ·rename_i he
  unfold addCE at he
  split at he
  ·cases he
  ·split at he
   ·cases he
   ·split at he
    ·cases he
    ·rename_i h1 h2 h3
     refine h.addAt (fun q hq=>?_) (by omega) core.toNat (vf:=fun _=>v) (fun _ _=>hv) w
     cases ho:ofN l id with
     |none=>exact ofN_none ho q hq
     |some k=>
      unfold ofC at h2
      rw [ho] at h2
      dsimp only at h2
      omega
 ·exact h
theorem COk.remC (h:COk l c) (id:Int):COk (remC l id) c:=by
 unfold Proofs.Ytfmciiffcmfagaa.remC
 split
 ·exact h
 ·exact h.modify (Int.le_refl c) _ _ (fun q hq=>(h.ok q (mem_at hq)).remove id) (fun q _=>remove_len q id) fun q j _ hj=>(find_remove id j hj).1
theorem COk.moveC (h:COk l c) (id core:Int):COk (moveC l id core) c:=by
 unfold Proofs.Ytfmciiffcmfagaa.moveC
 split
 ·rename_i he
  cases ho:ofN l id with
  |none=>
   unfold moveE at he
   rw [ho] at he
   cases he
  |some k=>
   obtain⟨q,hq,hf,_⟩:=ofN_some ho
   exact h.moved hq hf
 ·exact h
theorem COk.balanceC (h:COk l c):COk (balanceC l) c:=by
 cases hb:balC l with
 |none=>
  unfold Proofs.Ytfmciiffcmfagaa.balanceC
  rw [hb]
  exact h
 |some x=>exact (balance_less h hb).1
theorem COk.weighC (h:COk l c) (h8:8≤c) (id w:Int):COk (weighC l id w) c:=by
 unfold Proofs.Ytfmciiffcmfagaa.weighC
 split
 ·exact h
 ·exact h.ids (Int.le_refl c) _ _ (fun q hq=>(h.ok q (mem_at hq)).weigh h8 id w) fun q=>weigh_ids q id w
theorem IdsC.modify (h:IdsC l) (k:Nat) (f:Rq→Rq) (hf:∀q,l[k]?=some q→∀x ∈ (f q).l,isI x.1):IdsC (l.modify k f):=fun q hq=>by
 obtain⟨i,hi⟩:=List.mem_iff_getElem?.1 hq
 by_cases hik:k=i
 ·subst hik
  rw [modify_same] at hi
  obtain⟨q0,h1,rfl⟩:=Option.map_eq_some_iff.1 hi
  exact hf q0 h1
 ·rw [modify_other hik] at hi
  exact h q (mem_at hi)
theorem IdsC.ids (h:IdsC l) (k:Nat) (f:Rq→Rq) (hm:∀q,(f q).l.map (·.1)=q.l.map (·.1)):IdsC (l.modify k f):=h.modify k f fun q hq x hx=>by
 have:x.1 ∈ (f q).l.map (·.1):=List.mem_map.2 ⟨x,hx,rfl⟩
 rw [hm q] at this
 obtain⟨y,hy,e⟩:=List.mem_map.1 this
 rw [←e]
 exact h q (mem_at hq) y hy
theorem IdsC.new (n g:Int):IdsC (newC n g):=fun q hq x hx=>by
 rw [newC_mem hq] at hx
 cases hx
theorem add_mem {q:Rq} {id v w:Int} {x:Int×Int×Int} (h:x ∈ (q.add id v w).l):x ∈ q.l∨x.1=id:=by
 unfold Rq.add at h
 split at h
 ·exact .inl h
 ·rcases List.mem_append.1 h with h|h
  ·exact .inl h
  ·rw [List.mem_singleton.1 h]
   exact .inr rfl
theorem IdsC.addAt (h:IdsC l) (k:Nat) {id:Int} (hid:isI id) (v:Rq→Int) (w:Int):IdsC (l.modify k fun q=>q.add id (v q) w):=h.modify k _ fun q hq x hx=>by
 rcases add_mem hx with e|e
 ·exact h q (mem_at hq) x e
 ·rw [e]
  exact hid
theorem IdsC.addC (h:IdsC l) (core:Int) {id:Int} (hid:isI id) (v w:Int):IdsC (addC l core id v w):=by
 unfold Proofs.Ytfmciiffcmfagaa.addC
 split
 ·exact h.addAt _ hid (fun _=>v) w
 ·exact h
theorem IdsC.rem (h:IdsC l) (k:Nat) (id:Int):IdsC (l.modify k fun q=>q.remove id):=h.modify k _ fun q hq x hx=>by
 unfold Rq.remove at hx
 split at hx
 ·exact h q (mem_at hq) x (List.mem_filter.1 hx).1
 ·exact h q (mem_at hq) x hx
theorem IdsC.remC (h:IdsC l) (id:Int):IdsC (remC l id):=by
 unfold Proofs.Ytfmciiffcmfagaa.remC
 split
 ·exact h
 ·exact h.rem _ id
theorem IdsC.goC (h:IdsC l) (id:Int) (k t:Nat):IdsC (goC l id k t):=by
 unfold Proofs.Ytfmciiffcmfagaa.goC
 split
 ·exact h
 ·rename_i q hq
  split
  ·exact h
  ·rename_i x hx
   exact (h.rem k id).addAt t (h q (mem_at hq) _ (findQ_mem hx)) (fun r=>satV (r.f+max 0 (x.1 - q.f))) x.2
theorem IdsC.moveC (h:IdsC l) (id core:Int):IdsC (moveC l id core):=by
 unfold Proofs.Ytfmciiffcmfagaa.moveC
 split
 ·exact h.goC _ _ _
 ·exact h
theorem IdsC.balanceC (h:IdsC l):IdsC (balanceC l):=by
 unfold Proofs.Ytfmciiffcmfagaa.balanceC
 split
 ·exact h
 ·exact h.goC _ _ _
theorem IdsC.weighC (h:IdsC l) (id w:Int):IdsC (weighC l id w):=by
 unfold Proofs.Ytfmciiffcmfagaa.weighC
 split
 ·exact h
 ·exact h.ids _ _ fun q=>weigh_ids q id w
end
end Go.Proofs.Ytfmciiffcmfagaa
namespace Go.Proofs.Ytfmciiffcmfagaa
open Go.RowKit
def CoOn (S:RqSaid) (C:CoSaid S) (w V:World) (b:Nat) (l:List Rq):Prop:=∃X0 T,CAt C.Own S.At V b X0 T l∧Turned [] w V∧∀k ∈ blk X0 T,w.heap.size≤k
section
variable {S:RqSaid} {C:CoSaid S} {w V V':World} {b:Nat} {l l':List Rq} {c:Int}
theorem CoOn.t (h:CoOn S C w V b l):Turned [] w V:=by
 obtain⟨_,_,_,t,_⟩:=h
 exact t
theorem CoOn.keep (h:CoOn S C w V b l) (t:Turned [] V V'):CoOn S C w V' b l:=by
 obtain⟨X0,T,a,t0,n⟩:=h
 exact⟨X0,T,a.keep0 t,t0.also t,n⟩
theorem on_step {X0 X0':List Nat} {T T':List Tq} (t0:Turned [] w V) (n:∀k ∈ blk X0 T,w.heap.size≤k) (a:CAt C.Own S.At V' b X0' T' l') (t:Turned (blk X0 T) V V') (n':Newer (blk X0 T) V.heap.size (blk X0' T')):CoOn S C w V' b l':=
 ⟨X0',T',a,t0.trans t (fun k hk=> .inr (n k hk)),fun k hk=>by
   rcases n' k hk with h|h
   ·exact n k h
   ·have:=t0.size;omega⟩
theorem on_new (C:CoSaid S) (n g:Int) (w:World) (hn:isI n) (hg:isI g):Calls Try.prog 6 #[.int .i64 n, .int .i64 g] w fun e w'=>∃b,e= .returned (.pointer (some ⟨b,0,none⟩))∧CoOn S C w w' b (newC n g):=
 (C.new n g w hn hg).mono fun e w' h=>by
   obtain⟨b,X0,T,e1,a,t,n⟩:=h
   exact⟨b,e1,X0,T,a,t,n⟩
theorem on_add (h:CoOn S C w V b l) (hc:COk l c) (h1:c≤10000) (core id v wt:Int) (h2:isI core) (h3:isI id) (h4:isI wt) (h5:Word v):
  Calls Try.prog 8 #[.pointer (some ⟨b,0,none⟩), .int .i64 core, .int .i64 id, .int .u64 v, .int .i64 wt] V fun e w'=>e= .returned (.tuple #[.int .u64 (addCV l core id v wt), .int .i64 (addCE l core id)])∧CoOn S C w w' b (addC l core id v wt):=by
 obtain⟨X0,T,a,t0,n⟩:=h
 refine (C.add core id v wt a hc h1 h2 h3 h4 h5).mono fun e w' hh=>?_
 obtain⟨e1,X0',T',a',t',n'⟩:=hh
 exact⟨e1,on_step t0 n a' t' n'⟩
theorem on_bal (h:CoOn S C w V b l) (hc:COk l c) (h1:c≤10000):
  Calls Try.prog 11 #[.pointer (some ⟨b,0,none⟩)] V fun e w'=>e= .returned (.tuple #[.int .i64 (balV l).1, .int .i64 (balV l).2.1, .int .i64 (balV l).2.2, .bool (balC l).isSome])∧CoOn S C w w' b (balanceC l):=by
 obtain⟨X0,T,a,t0,n⟩:=h
 refine (C.bal a hc h1).mono fun e w' hh=>?_
 obtain⟨e1,X0',T',a',t',n'⟩:=hh
 exact⟨e1,on_step t0 n a' t' n'⟩
theorem on_move (h:CoOn S C w V b l) (hc:COk l c) (h1:c≤10000) (id core:Int) (h2:isI id) (h3:isI core):
  Calls Try.prog 15 #[.pointer (some ⟨b,0,none⟩), .int .i64 id, .int .i64 core] V fun e w'=>e= .returned (.int .i64 (moveE l id core))∧CoOn S C w w' b (moveC l id core):=by
 obtain⟨X0,T,a,t0,n⟩:=h
 refine (C.move id core a hc h1 h2 h3).mono fun e w' hh=>?_
 obtain⟨e1,X0',T',a',t',n'⟩:=hh
 exact⟨e1,on_step t0 n a' t' n'⟩
theorem on_of (h:CoOn S C w V b l) (hc:COk l c) (h1:c≤10000) (id:Int) (h2:isI id):
  Calls Try.prog 12 #[.pointer (some ⟨b,0,none⟩), .int .i64 id] V fun e w'=>e= .returned (.int .i64 (ofC l id))∧Turned [] V w':=by
 obtain⟨X0,T,a,t0,n⟩:=h
 exact C.of id a hc h1 h2
theorem on_len (h:CoOn S C w V b l) (hc:COk l c) (h1:c≤10000):
  Calls Try.prog 7 #[.pointer (some ⟨b,0,none⟩)] V fun e w'=>e= .returned (.int .i64 (l.length:Nat))∧Turned [] V w':=by
 obtain⟨X0,T,a,t0,n⟩:=h
 exact C.len a hc h1
theorem on_loads (h:CoOn S C w V b l) (hc:COk l c) (h1:c≤10000):
  Calls Try.prog 10 #[.pointer (some ⟨b,0,none⟩)] V fun e w'=>∃g cap,e= .returned (.slice (some ⟨g,0,none⟩) l.length cap)∧Turned [] V w'∧V.heap.size≤g∧l.length≤cap∧cap≤maxLen∧∀i q,l[i]?=some q→w'.cell? ⟨g,i,none⟩=some (.int .i64 (loadQ q)):=by
 obtain⟨X0,T,a,t0,n⟩:=h
 exact C.loads a hc h1
end
theorem word0c:Word 0:=⟨by omega,by omega⟩
def aA0:List Rq:=newC 2 1
def aA1:List Rq:=addC aA0 0 1 0 3
def aA2:List Rq:=addC aA1 0 2 0 2
def aA3:List Rq:=addC aA2 1 3 0 1
def aA4:List Rq:=balanceC aA3
theorem aA0_ok:COk aA0 8:=cok_new 2 1
theorem aA1_ok:COk aA1 8:=aA0_ok.addC 0 1 word0c 3
theorem aA2_ok:COk aA2 8:=aA1_ok.addC 0 2 word0c 2
theorem aA3_ok:COk aA3 8:=aA2_ok.addC 1 3 word0c 1
theorem aA4_ok:COk aA4 8:=aA3_ok.balanceC
theorem awake17 (S:RqSaid) (C:CoSaid S) (w:World):Calls Try.prog 5 #[] w fun e w'=>e= .returned (.bool true)∧Turned [] w w':=by
 have e1:(balV aA3).1=1:=by decide+kernel
 have e2:(balV aA3).2.1=0:=by decide+kernel
 have e3:(balV aA3).2.2=1:=by decide+kernel
 have e4:(balC aA3).isSome=true:=by decide+kernel
 have e5:aA4.length=2:=by decide+kernel
 have e6:ofC aA4 1=1:=by decide+kernel
 have e7:moveE aA4 2 0=12:=by decide+kernel
 have e8:(aA4[0]?).map loadQ=some 2:=by decide+kernel
 have e9:(aA4[1]?).map loadQ=some 4:=by decide+kernel
 have i0:isI 0:=by unfold isI;omega
 have i1:isI 1:=by unfold isI;omega
 have i2:isI 2:=by unfold isI;omega
 have i3:isI 3:=by unfold isI;omega
 have HN:=xhd (on_new C 2 1 w i2 i1)
 have HA1:=xhd (fun V b (h:CoOn S C w V b aA0)=>on_add h aA0_ok (by omega) 0 1 0 3 i0 i1 i3 word0c)
 have HA2:=xhd (fun V b (h:CoOn S C w V b aA1)=>on_add h aA1_ok (by omega) 0 2 0 2 i0 i2 i2 word0c)
 have HA3:=xhd (fun V b (h:CoOn S C w V b aA2)=>on_add h aA2_ok (by omega) 1 3 0 1 i1 i3 i1 word0c)
 have HB:=xhd (fun V b (h:CoOn S C w V b aA3)=>on_bal h aA3_ok (by omega))
 have HL:Hid (∀V b,CoOn S C w V b aA4→Calls Try.prog 10 #[.pointer (some ⟨b,0,none⟩)] V fun e w'=>∃g cap,e= .returned (.slice (some ⟨g,0,none⟩) 2 cap)∧CoOn S C w w' b aA4∧2≤cap∧cap≤maxLen∧w'.cell? ⟨g,0,none⟩=some (.int .i64 2)∧w'.cell? ⟨g,1,none⟩=some (.int .i64 4)):=xhd fun V b h=>(on_loads h aA4_ok (by omega)).mono fun e w' hh=>by
  obtain⟨g,cap,h1,h2,h3,h4,h5,h6⟩:=hh
  obtain⟨q0,f0,f1⟩:=Option.map_eq_some_iff.1 e8
  obtain⟨q1,g0,g1⟩:=Option.map_eq_some_iff.1 e9
  have a0:=h6 0 q0 f0
  have a1:=h6 1 q1 g0
  rw [f1] at a0
  rw [g1] at a1
  rw [e5] at h1 h4
  exact⟨g,cap,h1,h.keep h2,h4,h5,a0,a1⟩
 have HO:=xhd (fun V b (h:CoOn S C w V b aA4)=>on_of h aA4_ok (by omega) 1 i1)
 have HE:=xhd (fun V b (h:CoOn S C w V b aA4)=>on_len h aA4_ok (by omega))
 have HM:=xhd (fun V b (h:CoOn S C w V b aA4)=>on_move h aA4_ok (by omega) 2 0 i2 i0)
 rw [e1,e2,e3,e4] at HB
 rw [e6] at HO
 rw [e5] at HE
 rw [e7] at HM
 clear e1 e2 e3 e4 e5 e6 e7 e8 e9 i0 i1 i2 i3
 go_enter Try.func5,Try.ntmps5
 go_wp2_with fail
 with_reducible refine HN.out.mono ?_
 rintro e w1 ⟨b,rfl,a1⟩
 have A1:=xhd a1
 clear a1 HN
 go_wp2_with fail
 with_reducible refine (HA1.out _ _ A1.out).mono ?_
 rintro e w2 ⟨rfl,a2⟩
 have A2:=xhd a2
 clear a2 A1 HA1
 go_wp2_with fail
 with_reducible refine (HA2.out _ _ A2.out).mono ?_
 rintro e w3 ⟨rfl,a3⟩
 have A3:=xhd a3
 clear a3 A2 HA2
 go_wp2_with fail
 with_reducible refine (HA3.out _ _ A3.out).mono ?_
 rintro e w4 ⟨rfl,a4⟩
 have A4:=xhd a4
 clear a4 A3 HA3
 go_wp2_with fail
 with_reducible refine (HB.out _ _ A4.out).mono ?_
 rintro e w5 ⟨rfl,a5⟩
 have A5:=xhd a5
 clear a5 A4 HB
 go_wp2_with fail
 with_reducible refine (HL.out _ _ A5.out).mono ?_
 rintro e w6 ⟨g,cap,rfl,a6,k0,k1,c0,c1⟩
 have A6:=xhd a6
 unfold maxLen at k1
 clear a6 A5 HL
 go_wp2_with fail
 with_reducible refine (HO.out _ _ A6.out).mono ?_
 rintro e w7 ⟨rfl,t7⟩
 have A7:=xhd (A6.out.keep t7)
 clear t7 A6 HO c0 c1
 go_wp2_with fail
 with_reducible refine (HE.out _ _ A7.out).mono ?_
 rintro e w8 ⟨rfl,t8⟩
 have A8:=xhd (A7.out.keep t8)
 clear t8 A7 HE
 go_wp2_with fail
 with_reducible refine (HM.out _ _ A8.out).mono ?_
 rintro e w9 ⟨rfl,a9⟩
 have A9:=xhd a9
 clear a9 A8 HM
 go_wp2
 go_ret
 exact⟨rfl,A9.out.t⟩
end Go.Proofs.Ytfmciiffcmfagaa
namespace Go.Proofs.Ytfmciiffcmfagaa
def ordI (a b:Int×Int):Int:=if a.1 < b.1 then -1 else if b.1 < a.1 then 1 else if a.2 < b.2 then -1 else if b.2 < a.2 then 1 else 0
theorem ord_cases (a b:Int×Int):(ordI a b= -1∧(a.1 < b.1∨a.1=b.1∧a.2 < b.2))∨(ordI a b=1∧(b.1 < a.1∨a.1=b.1∧b.2 < a.2))∨(ordI a b=0∧a=b):=by
 obtain⟨a1,a2⟩:=a
 obtain⟨b1,b2⟩:=b
 simp only [ordI,Prod.mk.injEq]
 split
 ·omega
 ·split
  ·omega
  ·split
   ·omega
   ·split<;>omega
theorem ord_zero {a b:Int×Int} :ordI a b=0↔a=b:=by
 have h:=ord_cases a b
 constructor
 ·intro e
  rcases h with h|h|h
  ·omega
  ·omega
  ·exact h.2
 ·rintro rfl
  rcases h with h|h|h
  ·omega
  ·omega
  ·exact h.1
theorem ord_neg {a b:Int×Int} :ordI a b < 0↔(a.1 < b.1∨a.1=b.1∧a.2 < b.2):=by
 have h:=ord_cases a b
 constructor
 ·intro e
  rcases h with h|h|h
  ·exact h.2
  ·omega
  ·omega
 ·intro e
  rcases h with h|h|h
  ·omega
  ·omega
  ·obtain⟨_,rfl⟩:=h;omega
theorem ord_flip (a b:Int×Int):ordI b a= - ordI a b:=by
 have h:=ord_cases a b
 have g:=ord_cases b a
 rcases h with h|h|h<;>rcases g with g|g|g<;>first|omega|(obtain⟨_,rfl⟩:=h;omega) |(obtain⟨_,rfl⟩:=g;omega)
theorem ord_trans {a b c:Int×Int} (h:ordI a b < 0) (g:ordI b c < 0):ordI a c < 0:=by
 rw [ord_neg] at*
 omega
abbrev Itm (β:Type):=Int×Int×β
abbrev ky {β:Type} (x:Itm β):Int×Int:=(x.1,x.2.1)
inductive Tr (β:Type) where
 |nil:Tr β
 |node (red:Bool) (l:Tr β) (x:Itm β) (r:Tr β):Tr β
section
variable {β:Type}
namespace Tr
def list:Tr β→List (Itm β)
 |nil=>[]
 |node _ l x r=>l.list++x::r.list
def size:Tr β→Nat
 |nil=>0
 |node _ l _ r=>l.size+r.size+1
def isR:Tr β→Bool
 |node true _ _ _=>true
 |_=>false
def isB:Tr β→Bool
 |node false _ _ _=>true
 |_=>false
def root:Tr β→Tr β
 |node true l x r=>node false l x r
 |t=>t
def redd:Tr β→Tr β
 |node _ l x r=>node true l x r
 |nil=>nil
def bal:Tr β→Itm β→Tr β→Tr β
 |node true a x b,y,node true c z d=>node true (node false a x b) y (node false c z d)
 |node true (node true a x b) y c,z,d=>node true (node false a x b) y (node false c z d)
 |node true a x (node true b y c),z,d=>node true (node false a x b) y (node false c z d)
 |a,x,node true b y (node true c z d)=>node true (node false a x b) y (node false c z d)
 |a,x,node true (node true b y c) z d=>node true (node false a x b) y (node false c z d)
 |a,x,b=>node false a x b
def ins (it:Itm β):Tr β→Tr β
 |nil=>node true nil it nil
 |node c l x r=>
  if ordI (ky it) (ky x) < 0 then (if c then node true (ins it l) x r else bal (ins it l) x r)
  else (if c then node true l x (ins it r) else bal l x (ins it r))
def lsh:Tr β→Itm β→Tr β→Tr β
 |node true a x b,y,c=>node true (node false a x b) y c
 |a,x,node false b y c=>bal a x (node true b y c)
 |a,x,node true (node _ b y c) z d=>node true (node false a x b) y (bal c z (redd d))
 |a,x,b=>node false a x b
def rsh:Tr β→Itm β→Tr β→Tr β
 |a,x,node true b y c=>node true a x (node false b y c)
 |node false a x b,y,c=>bal (node true a x b) y c
 |node true a x (node _ b y c),z,d=>node true (bal (redd a) x b) y (node false c z d)
 |a,x,b=>node false a x b
def jred (ll:Tr β) (lx:Itm β):Tr β→Itm β→Tr β→Tr β
 |node true a m b,rx,rr=>node true (node true ll lx a) m (node true b rx rr)
 |t,rx,rr=>node true ll lx (node true t rx rr)
def jblk (ll:Tr β) (lx:Itm β):Tr β→Itm β→Tr β→Tr β
 |node true a m b,rx,rr=>node true (node false ll lx a) m (node false b rx rr)
 |t,rx,rr=>lsh ll lx (node false t rx rr)
def join:Tr β→Tr β→Tr β
 |nil,r=>r
 |l,nil=>l
 |node true ll lx lr,node true rl rx rr=>jred ll lx (join lr rl) rx rr
 |node false ll lx lr,node false rl rx rr=>jblk ll lx (join lr rl) rx rr
 |node false ll lx lr,node true rl rx rr=>node true (join (node false ll lx lr) rl) rx rr
 |node true ll lx lr,node false rl rx rr=>node true ll lx (join lr (node false rl rx rr))
termination_by l r=>l.size+r.size
decreasing_by all_goals simp only [size];omega
def del (k:Int×Int):Tr β→Tr β
 |nil=>nil
 |node _ l x r=>
  if ordI k (ky x) < 0 then (if l.isR then node true (del k l) x r else lsh (del k l) x r)
  else if 0 < ordI k (ky x) then (if r.isR then node true l x (del k r) else rsh l x (del k r))
  else join l r
theorem list_root (t:Tr β):t.root.list=t.list:=by
 unfold root
 split<;>rfl
theorem list_redd (t:Tr β):t.redd.list=t.list:=by
 unfold redd
 split<;>rfl
theorem list_bal (l:Tr β) (x:Itm β) (r:Tr β):(bal l x r).list=l.list++x::r.list:=by
 unfold bal
 split<;>simp [list]
theorem list_lsh (l:Tr β) (x:Itm β) (r:Tr β):(lsh l x r).list=l.list++x::r.list:=by
 unfold lsh
 split<;>simp [list,list_bal,list_redd]
theorem list_rsh (l:Tr β) (x:Itm β) (r:Tr β):(rsh l x r).list=l.list++x::r.list:=by
 unfold rsh
 split<;>simp [list,list_bal,list_redd]
theorem list_jred (ll:Tr β) (lx:Itm β) (m:Tr β) (rx:Itm β) (rr:Tr β):(jred ll lx m rx rr).list=ll.list++lx::(m.list++rx::rr.list):=by
 unfold jred
 split<;>simp [list]
theorem list_jblk (ll:Tr β) (lx:Itm β) (m:Tr β) (rx:Itm β) (rr:Tr β):(jblk ll lx m rx rr).list=ll.list++lx::(m.list++rx::rr.list):=by
 unfold jblk
 split<;>simp [list,list_lsh]
theorem list_join (l r:Tr β):(join l r).list=l.list++r.list:=by
 induction l,r using join.induct with
 |case1 r=>simp [join,list]
 |case2 l h=>cases l<;>simp [join,list]
 |case3 ll lx lr rl rx rr ih=>simp [join,list,list_jred,ih]
 |case4 ll lx lr rl rx rr ih=>simp [join,list,list_jblk,ih]
 |case5 ll lx lr rl rx rr ih=>simp [join,list,ih]
 |case6 ll lx lr rl rx rr ih=>simp [join,list,ih]
def Srt (L:List (Itm β)):Prop:=L.Pairwise fun a b=>ordI (ky a) (ky b) < 0
def insL (it:Itm β):List (Itm β)→List (Itm β)
 |[]=>[it]
 |x::L=>if ordI (ky it) (ky x) < 0 then it::x::L else x::insL it L
def delL (k:Int×Int) (L:List (Itm β)):List (Itm β):=L.filter fun x=>decide (ordI k (ky x)≠0)
theorem insL_left (it x:Itm β) (B:List (Itm β)) (h:ordI (ky it) (ky x) < 0):∀A,insL it (A++x::B)=insL it A++x::B
 |[]=>by simp [insL,h]
 |a::A=>by
  simp only [List.cons_append,insL]
  split
  ·rfl
  ·rw [insL_left it x B h A];rfl
theorem insL_right (it x:Itm β) (B:List (Itm β)) (h:¬ordI (ky it) (ky x) < 0):∀A,(∀a ∈ A,ordI (ky a) (ky x) < 0)→insL it (A++x::B)=A++x::insL it B
 |[],_=>by simp [insL,h]
 |a::A,hA=>by
  have ha:¬ordI (ky it) (ky a) < 0:=fun e=>h (ord_trans e (hA a (by simp)))
  simp only [List.cons_append,insL,if_neg ha]
  rw [insL_right it x B h A (fun y hy=>hA y (by simp [hy]))]
theorem list_ins (it:Itm β):∀t:Tr β,Srt t.list→(ins it t).list=insL it t.list
 |nil,_=>by simp [ins,list,insL]
 |node c l x r,hs=>by
  have hs':Srt (l.list++x::r.list):=hs
  obtain⟨h1,h2,h3⟩:=List.pairwise_append.1 hs'
  obtain⟨h4,h5⟩:=List.pairwise_cons.1 h2
  simp only [ins]
  split
  ·rename_i h
   have ih:=list_ins it l h1
   simp only [list]
   rw [insL_left it x r.list h, ←ih]
   split
   ·rfl
   ·rw [list_bal]
  ·rename_i h
   have ih:=list_ins it r h5
   simp only [list]
   rw [insL_right it x r.list h l.list (fun a ha=>h3 a ha x (by simp)), ←ih]
   split
   ·rfl
   ·rw [list_bal]
theorem delL_none {k:Int×Int} {L:List (Itm β)} (h:∀x ∈ L,ordI k (ky x)≠0):delL k L=L:=by
 unfold delL
 rw [List.filter_eq_self]
 intro x hx
 simpa using h x hx
theorem list_del (k:Int×Int):∀t:Tr β,Srt t.list→(del k t).list=delL k t.list
 |nil,_=>by simp [del,list,delL]
 |node c l x r,hs=>by
  have hs':Srt (l.list++x::r.list):=hs
  obtain⟨h1,h2,h3⟩:=List.pairwise_append.1 hs'
  obtain⟨h4,h5⟩:=List.pairwise_cons.1 h2
  have ihl:=list_del k l h1
  have ihr:=list_del k r h5
  have hd:delL k (l.list++x::r.list)=delL k l.list++((if ordI k (ky x)≠0 then [x] else [])++delL k r.list):=by
   unfold delL
   rw [List.filter_append,List.filter_cons]
   split<;>simp_all
  simp only [list,del]
  rw [hd]
  split
  ·rename_i h
   have hr:delL k r.list=r.list:=delL_none fun y hy=>by have:=ord_trans h (h4 y hy);omega
   rw [if_pos (show ordI k (ky x)≠0 by omega),hr, ←ihl]
   split<;>simp [list,list_lsh]
  ·rename_i h
   split
   ·rename_i h'
    have hl:delL k l.list=l.list:=delL_none fun y hy=>by
     have e1:=h3 y hy x (by simp)
     have e2:=ord_flip k (ky x)
     have e3:=ord_trans e1 (show ordI (ky x) k < 0 by omega)
     have e4:=ord_flip k (ky y)
     omega
    rw [if_pos (show ordI k (ky x)≠0 by omega),hl, ←ihr]
    split<;>simp [list,list_rsh]
   ·rename_i h'
    have h0:ordI k (ky x)=0:=by omega
    have e:=ord_zero.1 h0
    have hl:delL k l.list=l.list:=delL_none fun y hy=>by
     have e1:=h3 y hy x (by simp)
     have e4:=ord_flip k (ky y)
     rw [←e] at e1
     omega
    have hr:delL k r.list=r.list:=delL_none fun y hy=>by
     have e1:=h4 y hy
     rw [←e] at e1
     omega
    rw [if_neg (show ¬ordI k (ky x)≠0 by omega),hl,hr,list_join]
    rfl
end Tr
end
end Go.Proofs.Ytfmciiffcmfagaa
namespace Go.Proofs.Ytfmciiffcmfagaa
namespace Tr
section
variable {β:Type}
def bh:Tr β→Nat
 |nil=>0
 |node c l _ _=>l.bh+(if c then 0 else 1)
def HH:Tr β→Prop
 |nil=>True
 |node _ l _ r=>l.HH∧r.HH∧l.bh=r.bh
def CC:Tr β→Prop
 |nil=>True
 |node c l _ r=>l.CC∧r.CC∧(c=true→l.isR=false∧r.isR=false)
def C2:Tr β→Prop
 |nil=>True
 |node _ l _ r=>l.CC∧r.CC
theorem CC.weak {t:Tr β} (h:t.CC):t.C2:=by
 cases t with
 |nil=>trivial
 |node c l x r=>exact⟨h.1,h.2.1⟩
theorem C2.whole {t:Tr β} (h:t.C2) (hr:t.isR=false):t.CC:=by
 cases t with
 |nil=>trivial
 |node c l x r=>
  refine⟨h.1,h.2,fun e=>?_⟩
  subst e
  simp [isR] at hr
theorem C2.root {t:Tr β} (h:t.C2):t.root.CC:=by
 cases t with
 |nil=>trivial
 |node c l x r=>
  cases c
  ·exact⟨h.1,h.2,fun e=>by cases e⟩
  ·exact⟨h.1,h.2,fun e=>by cases e⟩
theorem HH.root {t:Tr β} (h:t.HH):t.root.HH:=by
 cases t with
 |nil=>trivial
 |node c l x r=>cases c<;>exact h
theorem bal_high (l:Tr β) (x:Itm β) (r:Tr β) (hl:l.HH) (hr:r.HH) (h:l.bh=r.bh):(bal l x r).HH∧(bal l x r).bh=l.bh+1:=by
 unfold bal
 split
 all_goals
  simp only [HH,bh] at*
  simp_all
 all_goals omega
theorem bal_left (l:Tr β) (x:Itm β) (r:Tr β) (hl:l.C2) (hr:r.CC):(bal l x r).CC:=by
 unfold bal
 split
 ·simp [CC,C2,isR] at*
  simp [hl,hr]
 ·simp [CC,C2,isR] at*
  simp [hl,hr]
 ·simp [CC,C2,isR] at*
  simp [hl,hr]
 ·simp [CC,C2,isR] at*
 ·simp [CC,C2,isR] at*
 ·rename_i h1 h2 h3 h4 h5
  refine⟨?_,hr,fun e=>by cases e⟩
  cases l with
  |nil=>trivial
  |node c a y b=>
   refine⟨hl.1,hl.2,fun e=>?_⟩
   subst e
   constructor
   ·cases a with
    |nil=>rfl
    |node c a1 z a2=>
     cases c
     ·rfl
     ·exact (h1 _ _ _ _ _ rfl).elim
   ·cases b with
    |nil=>rfl
    |node c b1 z b2=>
     cases c
     ·rfl
     ·exact (h2 _ _ _ _ _ rfl).elim
theorem bal_right (l:Tr β) (x:Itm β) (r:Tr β) (hl:l.CC) (hr:r.C2):(bal l x r).CC:=by
 unfold bal
 split
 ·simp [CC,C2,isR] at*
  simp [hl,hr]
 ·simp [CC,C2,isR] at*
 ·simp [CC,C2,isR] at*
 ·simp [CC,C2,isR] at*
  simp [hl,hr]
 ·simp [CC,C2,isR] at*
  simp [hl,hr]
 ·rename_i h1 h2 h3 h4 h5
  refine⟨hl,?_,fun e=>by cases e⟩
  cases r with
  |nil=>trivial
  |node c a y b=>
   refine⟨hr.1,hr.2,fun e=>?_⟩
   subst e
   constructor
   ·cases a with
    |nil=>rfl
    |node c a1 z a2=>
     cases c
     ·rfl
     ·exact (h4 _ _ _ _ _ rfl).elim
   ·cases b with
    |nil=>rfl
    |node c b1 z b2=>
     cases c
     ·rfl
     ·exact (h3 _ _ _ _ _ rfl).elim
theorem ins_high (it:Itm β):∀t:Tr β,t.HH→(ins it t).HH∧(ins it t).bh=t.bh
 |nil,_=>⟨⟨trivial,trivial,rfl⟩,rfl⟩
 |node c l x r,h=>by
  obtain⟨h1,h2,h3⟩:=h
  have il:=ins_high it l h1
  have ir:=ins_high it r h2
  simp only [ins]
  split
  ·cases c
   ·have:=bal_high (ins it l) x r il.1 h2 (by omega)
    simp only [bh]
    exact⟨this.1,by simp;omega⟩
   ·simp only [if_true,bh]
    exact⟨⟨il.1,h2,by omega⟩,by omega⟩
  ·cases c
   ·have:=bal_high l x (ins it r) h1 ir.1 (by omega)
    simp only [bh]
    exact⟨this.1,by simp;omega⟩
   ·simp only [if_true,bh]
    exact⟨⟨h1,ir.1,by omega⟩,trivial⟩
theorem ins_red (it:Itm β):∀t:Tr β,t.CC→(ins it t).C2∧(t.isR=false→(ins it t).CC)
 |nil,_=>⟨⟨trivial,trivial⟩,fun _=>⟨trivial,trivial,fun _=>⟨rfl,rfl⟩⟩⟩
 |node c l x r,h=>by
  obtain⟨h1,h2,h3⟩:=h
  have il:=ins_red it l h1
  have ir:=ins_red it r h2
  simp only [ins]
  split
  ·cases c
   ·have:=bal_left (ins it l) x r il.1 h2
    exact⟨this.weak,fun _=>this⟩
   ·exact⟨⟨il.2 (h3 rfl).1,h2⟩,fun e=>by simp [isR] at e⟩
  ·cases c
   ·have:=bal_right l x (ins it r) h1 ir.1
    exact⟨this.weak,fun _=>this⟩
   ·exact⟨⟨h1,ir.2 (h3 rfl).2⟩,fun e=>by simp [isR] at e⟩
theorem lsh_high (l:Tr β) (x:Itm β) (r:Tr β) (hl:l.HH) (hr:r.HH) (h:l.bh+1=r.bh) (kl:l.C2) (kr:r.CC):
  (lsh l x r).HH∧(lsh l x r).bh=r.bh∧(lsh l x r).C2∧(r.isR=false→(lsh l x r).CC):=by
 unfold lsh
 split
 ·rename_i a y b
  simp only [HH,bh,C2,CC,isR] at*
  simp at h
  refine⟨⟨⟨hl.1,hl.2.1,hl.2.2⟩,hr,by simp;omega⟩,by simp;omega,⟨⟨kl.1,kl.2,fun e=>by cases e⟩,kr⟩,fun e=>⟨⟨kl.1,kl.2,fun e=>by cases e⟩,kr,by simpa using e⟩⟩
 ·rename_i b y c hn
  have hlr:l.isR=false:=by
   cases l with
   |nil=>rfl
   |node c a y b=>cases c;rfl;exact absurd rfl (hn _ _ _)
  obtain⟨r1,r2,r3⟩:=hr
  obtain⟨k1,k2,_⟩:=kr
  simp [bh] at h
  have g1:=bal_high l x (node true b y c) hl ⟨r1,r2,r3⟩ (by simp [bh];omega)
  have g2:=bal_right l x (node true b y c) (kl.whole hlr) ⟨k1,k2⟩
  exact⟨g1.1,by rw [g1.2];simp [bh];omega,g2.weak,fun _=>g2⟩
 ·rename_i cb b y c z d hn
  have hlr:l.isR=false:=by
   cases l with
   |nil=>rfl
   |node c a y b=>cases c;rfl;exact absurd rfl (hn _ _ _)
  obtain⟨⟨b1,b2,b3⟩,r2,r3⟩:=hr
  obtain⟨⟨p1,p2,p3⟩,k2,k3⟩:=kr
  obtain⟨q1,q2⟩:=k3 rfl
  have hcb:cb=false:=by cases cb;rfl;simp [isR] at q1
  subst hcb
  simp [bh] at h r3
  cases d with
  |nil=>simp [bh] at r3
  |node cd d1 w d2=>
   have hcd:cd=false:=by cases cd;rfl;simp [isR] at q2
   subst hcd
   obtain⟨d3,d4,d5⟩:=r2
   obtain⟨e1,e2,_⟩:=k2
   simp [bh] at r3
   have g1:=bal_high c z (node true d1 w d2) b2 ⟨d3,d4,d5⟩ (by simp [bh];omega)
   have g2:=bal_right c z (node true d1 w d2) p2 ⟨e1,e2⟩
   simp only [redd]
   refine⟨⟨⟨hl,b1,by omega⟩,g1.1,by rw [g1.2];simp [bh];omega⟩,by simp [bh];omega,⟨⟨kl.whole hlr,p1,fun e=>by cases e⟩,g2⟩,fun e=>by simp [isR] at e⟩
 ·rename_i h1 h2 h3
  exfalso
  cases r with
  |nil=>simp [bh] at h
  |node c b y d=>
   cases c
   ·first|exact (h1 _ _ _ rfl).elim|exact (h2 _ _ _ rfl).elim|exact (h3 _ _ _ rfl).elim|exact (h1 _ _ _ _ _ _ rfl).elim|exact (h2 _ _ _ _ _ _ rfl).elim|exact (h3 _ _ _ _ _ _ rfl).elim
   ·cases b with
    |nil=>simp [bh] at h
    |node cb b1 z b2=>first|exact (h1 _ _ _ rfl).elim|exact (h2 _ _ _ rfl).elim|exact (h3 _ _ _ rfl).elim|exact (h1 _ _ _ _ _ _ rfl).elim|exact (h2 _ _ _ _ _ _ rfl).elim|exact (h3 _ _ _ _ _ _ rfl).elim
theorem rsh_high (l:Tr β) (x:Itm β) (r:Tr β) (hl:l.HH) (hr:r.HH) (h:r.bh+1=l.bh) (kl:l.CC) (kr:r.C2):
  (rsh l x r).HH∧(rsh l x r).bh=l.bh∧(rsh l x r).C2∧(l.isR=false→(rsh l x r).CC):=by
 unfold rsh
 split
 ·rename_i a y b
  simp only [HH,bh,C2,CC,isR] at*
  simp at h
  refine⟨⟨hl,⟨hr.1,hr.2.1,hr.2.2⟩,by simp;omega⟩,by simp,⟨kl,⟨kr.1,kr.2,fun e=>by cases e⟩⟩,fun e=>⟨kl,⟨kr.1,kr.2,fun e=>by cases e⟩,by simpa using e⟩⟩
 ·rename_i a y b hn
  have hrr:r.isR=false:=by
   cases r with
   |nil=>rfl
   |node c a y b=>cases c;rfl;exact absurd rfl (hn _ _ _)
  obtain⟨r1,r2,r3⟩:=hl
  obtain⟨k1,k2,_⟩:=kl
  simp [bh] at h
  have g1:=bal_high (node true a y b) x r ⟨r1,r2,r3⟩ hr (by simp [bh];omega)
  have g2:=bal_left (node true a y b) x r ⟨k1,k2⟩ (kr.whole hrr)
  exact⟨g1.1,by rw [g1.2];simp [bh],g2.weak,fun _=>g2⟩
 ·rename_i a y cb b z c hn
  have hrr:r.isR=false:=by
   cases r with
   |nil=>rfl
   |node c a y b=>cases c;rfl;exact absurd rfl (hn _ _ _)
  obtain⟨r2,⟨b1,b2,b3⟩,r3⟩:=hl
  obtain⟨k2,⟨p1,p2,p3⟩,k3⟩:=kl
  obtain⟨q2,q1⟩:=k3 rfl
  have hcb:cb=false:=by cases cb;rfl;simp [isR] at q1
  subst hcb
  simp [bh] at h r3
  cases a with
  |nil=>simp [bh] at r3
  |node cd d1 w d2=>
   have hcd:cd=false:=by cases cd;rfl;simp [isR] at q2
   subst hcd
   obtain⟨d3,d4,d5⟩:=r2
   obtain⟨e1,e2,_⟩:=k2
   simp [bh] at r3 h
   have g1:=bal_high (node true d1 w d2) y b ⟨d3,d4,d5⟩ b1 (by simp [bh];omega)
   have g2:=bal_left (node true d1 w d2) y b ⟨e1,e2⟩ p1
   simp only [redd]
   refine⟨⟨g1.1,⟨b2,hr,by omega⟩,by rw [g1.2];simp [bh];omega⟩,by simp only [bh];rw [g1.2];simp [bh],⟨g2,⟨p2,kr.whole hrr,fun e=>by cases e⟩⟩,fun e=>by simp [isR] at e⟩
 ·rename_i h1 h2 h3
  exfalso
  cases l with
  |nil=>simp [bh] at h
  |node c d y b=>
   cases c
   ·first|exact (h1 _ _ _ rfl).elim|exact (h2 _ _ _ rfl).elim|exact (h3 _ _ _ rfl).elim|exact (h1 _ _ _ _ _ _ rfl).elim|exact (h2 _ _ _ _ _ _ rfl).elim|exact (h3 _ _ _ _ _ _ rfl).elim
   ·cases b with
    |nil=>obtain⟨_,_,r3⟩:=hl;simp [bh] at h r3;omega
    |node cb b1 z b2=>first|exact (h1 _ _ _ rfl).elim|exact (h2 _ _ _ rfl).elim|exact (h3 _ _ _ rfl).elim|exact (h1 _ _ _ _ _ _ rfl).elim|exact (h2 _ _ _ _ _ _ rfl).elim|exact (h3 _ _ _ _ _ _ rfl).elim
end
end Tr
end Go.Proofs.Ytfmciiffcmfagaa
namespace Go.Proofs.Ytfmciiffcmfagaa
namespace Tr
section
variable {β:Type}
theorem jred_high (ll:Tr β) (lx:Itm β) (m:Tr β) (rx:Itm β) (rr:Tr β) (hl:ll.HH) (hm:m.HH) (hr:rr.HH) (h1:ll.bh=m.bh) (h2:rr.bh=m.bh) (kl:ll.CC) (km:m.CC) (kr:rr.CC) (rl:ll.isR=false) (rr':rr.isR=false):
  (jred ll lx m rx rr).HH∧(jred ll lx m rx rr).bh=ll.bh∧(jred ll lx m rx rr).C2:=by
 unfold jred
 split
 ·rename_i a y b
  obtain⟨m1,m2,m3⟩:=hm
  obtain⟨n1,n2,n3⟩:=km
  obtain⟨q1,q2⟩:=n3 rfl
  simp [bh] at h1 h2
  exact⟨⟨⟨hl,m1,by omega⟩,⟨m2,hr,by omega⟩,by simp [bh];omega⟩,by simp [bh],⟨⟨kl,n1,fun _=>⟨rl,q1⟩⟩,⟨n2,kr,fun _=>⟨q2,rr'⟩⟩⟩⟩
 ·rename_i hn
  have hmr:m.isR=false:=by
   cases m with
   |nil=>rfl
   |node c a y b=>cases c;rfl;exact (hn _ _ _ rfl).elim
  exact⟨⟨hl,⟨hm,hr,by omega⟩,by simp [bh];omega⟩,by simp [bh],⟨kl,⟨km,kr,fun _=>⟨hmr,rr'⟩⟩⟩⟩
theorem jblk_high (ll:Tr β) (lx:Itm β) (m:Tr β) (rx:Itm β) (rr:Tr β) (hl:ll.HH) (hm:m.HH) (hr:rr.HH) (h1:ll.bh=m.bh) (h2:rr.bh=m.bh) (kl:ll.CC) (km:m.C2) (kr:rr.CC):
  (jblk ll lx m rx rr).HH∧(jblk ll lx m rx rr).bh=ll.bh+1∧(jblk ll lx m rx rr).CC:=by
 unfold jblk
 split
 ·rename_i a y b
  obtain⟨m1,m2,m3⟩:=hm
  obtain⟨n1,n2⟩:=km
  simp [bh] at h1 h2
  exact⟨⟨⟨hl,m1,by omega⟩,⟨m2,hr,by omega⟩,by simp [bh];omega⟩,by simp [bh],⟨⟨kl,n1,fun e=>by cases e⟩,⟨n2,kr,fun e=>by cases e⟩,fun _=>⟨rfl,rfl⟩⟩⟩
 ·rename_i hn
  have hmr:m.isR=false:=by
   cases m with
   |nil=>rfl
   |node c a y b=>cases c;rfl;exact (hn _ _ _ rfl).elim
  have g:=lsh_high ll lx (node false m rx rr) hl ⟨hm,hr,by omega⟩ (by simp [bh];omega) kl.weak ⟨km.whole hmr,kr,fun e=>by cases e⟩
  exact⟨g.1,by rw [g.2.1];simp [bh];omega,g.2.2.2 rfl⟩
theorem join_high (l r:Tr β):l.HH→r.HH→l.bh=r.bh→l.CC→r.CC→(join l r).HH∧(join l r).bh=l.bh∧(join l r).C2∧(l.isR=false→r.isR=false→(join l r).CC):=by
 induction l,r using join.induct with
 |case1 r=>
  intro h1 h2 h3 h4 h5
  simp only [join]
  exact⟨h2,h3.symm,h5.weak,fun _ _=>h5⟩
 |case2 l h=>
  intro h1 h2 h3 h4 h5
  have e:join l nil=l:=by cases l<;>simp [join]
  rw [e]
  exact⟨h1,rfl,h4.weak,fun _ _=>h4⟩
 |case3 ll lx lr rl rx rr ih=>
  intro h1 h2 h3 h4 h5
  obtain⟨a1,a2,a3⟩:=h1
  obtain⟨b1,b2,b3⟩:=h2
  obtain⟨c1,c2,c3⟩:=h4
  obtain⟨d1,d2,d3⟩:=h5
  simp [bh] at h3
  obtain⟨i1,i2,i3,i4⟩:=ih a2 b1 (by omega) c2 d1
  have g:=jred_high ll lx (join lr rl) rx rr a1 i1 b2 (by omega) (by omega) c1 (i4 (c3 rfl).2 (d3 rfl).1) d2 (c3 rfl).1 (d3 rfl).2
  simp only [join]
  exact⟨g.1,by rw [g.2.1];simp [bh],g.2.2,fun e=>by simp [isR] at e⟩
 |case4 ll lx lr rl rx rr ih=>
  intro h1 h2 h3 h4 h5
  obtain⟨a1,a2,a3⟩:=h1
  obtain⟨b1,b2,b3⟩:=h2
  obtain⟨c1,c2,c3⟩:=h4
  obtain⟨d1,d2,d3⟩:=h5
  simp [bh] at h3
  obtain⟨i1,i2,i3,i4⟩:=ih a2 b1 (by omega) c2 d1
  have g:=jblk_high ll lx (join lr rl) rx rr a1 i1 b2 (by omega) (by omega) c1 i3 d2
  simp only [join]
  exact⟨g.1,by rw [g.2.1];simp [bh],g.2.2.weak,fun _ _=>g.2.2⟩
 |case5 ll lx lr rl rx rr ih=>
  intro h1 h2 h3 h4 h5
  obtain⟨b1,b2,b3⟩:=h2
  obtain⟨d1,d2,d3⟩:=h5
  simp [bh] at h3
  obtain⟨i1,i2,i3,i4⟩:=ih h1 b1 (by simp [bh];omega) h4 d1
  simp [bh] at i2
  simp only [join]
  exact⟨⟨i1,b2,by omega⟩,by simp [bh];omega,⟨i4 rfl (d3 rfl).1,d2⟩,fun _ e=>by simp [isR] at e⟩
 |case6 ll lx lr rl rx rr ih=>
  intro h1 h2 h3 h4 h5
  obtain⟨a1,a2,a3⟩:=h1
  obtain⟨c1,c2,c3⟩:=h4
  simp [bh] at h3
  obtain⟨i1,i2,i3,i4⟩:=ih a2 h2 (by simp [bh];omega) c2 h5
  simp only [join]
  exact⟨⟨a1,i1,by omega⟩,by simp [bh],⟨c1,i4 (c3 rfl).2 rfl⟩,fun e=>by simp [isR] at e⟩
def has (k:Int×Int) (t:Tr β):Prop:=∃x ∈ t.list,ky x=k
theorem has_left {k:Int×Int} {c:Bool} {l r:Tr β} {x:Itm β} (hs:Srt (node c l x r).list) (h:has k (node c l x r)) (hk:ordI k (ky x) < 0):has k l:=by
 obtain⟨y,hy,rfl⟩:=h
 have hs':Srt (l.list++x::r.list):=hs
 obtain⟨h1,h2,h3⟩:=List.pairwise_append.1 hs'
 obtain⟨h4,h5⟩:=List.pairwise_cons.1 h2
 simp only [list,List.mem_append,List.mem_cons] at hy
 rcases hy with hy|rfl|hy
 ·exact⟨y,hy,rfl⟩
 ·have:=(ord_zero (a:=ky y) (b:=ky y)).2 rfl
  omega
 ·have e1:=h4 y hy
  have e2:=ord_flip (ky x) (ky y)
  omega
theorem has_right {k:Int×Int} {c:Bool} {l r:Tr β} {x:Itm β} (hs:Srt (node c l x r).list) (h:has k (node c l x r)) (hk:0 < ordI k (ky x)):has k r:=by
 obtain⟨y,hy,rfl⟩:=h
 have hs':Srt (l.list++x::r.list):=hs
 obtain⟨h1,h2,h3⟩:=List.pairwise_append.1 hs'
 simp only [list,List.mem_append,List.mem_cons] at hy
 rcases hy with hy|rfl|hy
 ·have:=h3 y hy x (by simp)
  omega
 ·have:=(ord_zero (a:=ky y) (b:=ky y)).2 rfl
  omega
 ·exact⟨y,hy,rfl⟩
theorem srt_left {c:Bool} {l r:Tr β} {x:Itm β} (hs:Srt (node c l x r).list):Srt l.list:=(List.pairwise_append.1 (show Srt (l.list++x::r.list) from hs)).1
theorem srt_right {c:Bool} {l r:Tr β} {x:Itm β} (hs:Srt (node c l x r).list):Srt r.list:=(List.pairwise_cons.1 (List.pairwise_append.1 (show Srt (l.list++x::r.list) from hs)).2.1).2
theorem has_nil {k:Int×Int} (h:has k (nil:Tr β)):False:=by
 obtain⟨y,hy,_⟩:=h
 simp [list] at hy
theorem del_high (k:Int×Int):∀t:Tr β,t.HH→t.CC→Srt t.list→has k t→
  (del k t).HH∧(t.isR=false→(del k t).bh+1=t.bh∧(del k t).C2)∧(t.isR=true→(del k t).bh=t.bh∧(del k t).CC)
 |nil,_,_,_,h=>(has_nil h).elim
 |node c l x r,hh,hc,hs,hk=>by
  obtain⟨a1,a2,a3⟩:=hh
  obtain⟨c1,c2,c3⟩:=hc
  simp only [del]
  split
  ·rename_i h
   obtain⟨i1,i2,i3⟩:=del_high k l a1 c1 (srt_left hs) (has_left hs hk h)
   by_cases hr:l.isR=true
   ·rw [if_pos hr]
    obtain⟨j1,j2⟩:=i3 hr
    have hcf:c=false:=by cases c;rfl;exact absurd hr (by simp [(c3 rfl).1])
    subst hcf
    exact⟨⟨i1,a2,by omega⟩,fun _=>⟨by simp [bh];omega,⟨j2,c2⟩⟩,fun e=>by simp [isR] at e⟩
   ·rw [if_neg hr]
    obtain⟨j1,j2⟩:=i2 (by simpa using hr)
    obtain⟨g1,g2,g3,g4⟩:=lsh_high (del k l) x r i1 a2 (by omega) j2 c2
    refine⟨g1,fun e=>?_,fun e=>?_⟩
    ·have hcf:c=false:=by cases c;rfl;simp [isR] at e
     subst hcf
     exact⟨by simp [bh];omega,g3⟩
    ·have hct:c=true:=by cases c;simp [isR] at e;rfl
     subst hct
     exact⟨by simp [bh];omega,g4 (c3 rfl).2⟩
  ·rename_i h
   split
   ·rename_i h'
    obtain⟨i1,i2,i3⟩:=del_high k r a2 c2 (srt_right hs) (has_right hs hk h')
    by_cases hr:r.isR=true
    ·rw [if_pos hr]
     obtain⟨j1,j2⟩:=i3 hr
     have hcf:c=false:=by cases c;rfl;exact absurd hr (by simp [(c3 rfl).2])
     subst hcf
     exact⟨⟨a1,i1,by omega⟩,fun _=>⟨by simp [bh],⟨c1,j2⟩⟩,fun e=>by simp [isR] at e⟩
    ·rw [if_neg hr]
     obtain⟨j1,j2⟩:=i2 (by simpa using hr)
     obtain⟨g1,g2,g3,g4⟩:=rsh_high l x (del k r) a1 i1 (by omega) c1 j2
     refine⟨g1,fun e=>?_,fun e=>?_⟩
     ·have hcf:c=false:=by cases c;rfl;simp [isR] at e
      subst hcf
      exact⟨by simp [bh];omega,g3⟩
     ·have hct:c=true:=by cases c;simp [isR] at e;rfl
      subst hct
      exact⟨by simp [bh];omega,g4 (c3 rfl).1⟩
   ·obtain⟨g1,g2,g3,g4⟩:=join_high l r a1 a2 a3 c1 c2
    refine⟨g1,fun e=>?_,fun e=>?_⟩
    ·have hcf:c=false:=by cases c;rfl;simp [isR] at e
     subst hcf
     exact⟨by simp [bh];omega,g3⟩
    ·have hct:c=true:=by cases c;simp [isR] at e;rfl
     subst hct
     exact⟨by simp [bh];omega,g4 (c3 rfl).1 (c3 rfl).2⟩
structure Good (t:Tr β):Prop where
 hh:t.HH
 cc:t.CC
 so:Srt t.list
theorem Good.nil:Good (nil:Tr β):=⟨trivial,trivial,List.Pairwise.nil⟩
theorem srt_insL {it:Itm β} :∀ {L:List (Itm β)},Srt L→(∀x ∈ L,ordI (ky it) (ky x)≠0)→Srt (insL it L)
 |[],_,_=>List.pairwise_singleton _ _
 |x::L,hs,hn=>by
  obtain⟨h1,h2⟩:=List.pairwise_cons.1 hs
  simp only [insL]
  split
  ·rename_i h
   exact List.pairwise_cons.2 ⟨fun y hy=>by
    rcases List.mem_cons.1 hy with rfl|hy
    ·exact h
    ·exact ord_trans h (h1 y hy),hs⟩
  ·rename_i h
   refine List.pairwise_cons.2 ⟨fun y hy=>?_,srt_insL h2 (fun z hz=>hn z (by simp [hz]))⟩
   have mem:∀M:List (Itm β),y ∈ insL it M→y=it∨y ∈ M:=by
    intro M
    induction M with
    |nil=>intro h;simpa [insL] using h
    |cons z M ih=>
     intro h
     simp only [insL] at h
     split at h
     ·simpa using h
     ·rcases List.mem_cons.1 h with rfl|h
      ·exact .inr (by simp)
      ·rcases ih h with h|h
       ·exact .inl h
       ·exact .inr (by simp [h])
   rcases mem L hy with rfl|hy
   ·have h0:=hn x (by simp)
    have e:=ord_flip (ky y) (ky x)
    show ordI (ky x) (ky y) < 0
    omega
   ·exact h1 y hy
theorem Good.ins {t:Tr β} (h:Good t) (it:Itm β) (hn:∀x ∈ t.list,ordI (ky it) (ky x)≠0):Good (ins it t).root∧(ins it t).root.list=insL it t.list:=by
 have hl:=list_ins it t h.so
 refine⟨⟨(ins_high it t h.hh).1.root,(ins_red it t h.cc).1.root,?_⟩,by rw [list_root,hl]⟩
 rw [list_root,hl]
 exact srt_insL h.so hn
theorem Good.del {t:Tr β} (h:Good t) (k:Int×Int) (hk:has k t):Good (del k t).root∧(del k t).root.list=delL k t.list:=by
 have hl:=list_del k t h.so
 obtain⟨g1,g2,g3⟩:=del_high k t h.hh h.cc h.so hk
 have hc:(Tr.del k t).C2:=by
  by_cases e:t.isR=true
  ·exact (g3 e).2.weak
  ·exact (g2 (by simpa using e)).2
 refine⟨⟨g1.root,hc.root,?_⟩,by rw [list_root,hl]⟩
 rw [list_root,hl]
 exact h.so.filter _
end
end Tr
end Go.Proofs.Ytfmciiffcmfagaa
