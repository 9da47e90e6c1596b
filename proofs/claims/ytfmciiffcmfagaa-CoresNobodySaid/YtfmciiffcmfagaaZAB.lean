/-
  The document's queue in memory: New, place, Load, Tick.
  The document's queue in memory: Settle.
  The document's queue in memory: Add.
  A tick turns one task of a queue's list. No program.
  What a round of a loop over a function may turn. No program.
  A loop over a function that turns memory of its own between two rounds (a heap that is popped): its contract, and the caller's law. No program.
  Inside a round of a loop over a function: a region that draws its order, walked as outside of it. No program.
  What is told of cells abides the steps of a loop over a function; a region with calls in a round; a bool that is answered out of a cell. No program.
  A region that draws its order, in a round of a loop over a function: what its loads read abides till its last operation, which waits for them all, and may turn it. No program.
  A region that draws its order, whose store (number e) turns what its loads read, and some of whose operations may come behind the store ('a.x, _ = f(a.x)'). No program.
  The document's Tick. (Made by gen_rqtick.py.)
  The document's Weigh. (Made by gen_rqweigh.py.)
  The document's Remove.
  Who is ready, in order, as far as the list has been gone over. No program.
  The document's Ready. (Made by gen_rqready.py.)
  The document's Pick, Due, Go.
  The document's Due.
  What holds of every queue, whatever is done to it. No program.
  Shares by weight, plainly, where costs are rounded down: who is, ahead of and behind a stretch, ahead of a floor by no more than a reach, has a fair share of the stretch's ticks. No program.
  Goes between which nothing is done, plainly: who has the ticks; the ticks are fair. No program.
  The document's Go.
-/
import Derived.Test.YtfmciiffcmfagaaZAA
import Derived.Deep.RegionHeld3
import Derived.Deep.RegionWith
import Derived.RangeFuncNested
import Derived.RangeFuncBound
import Derived.RangeFuncCalls
import Derived.RangeFuncLeaves
import Derived.RangeFuncBox
import Derived.RangeFuncWrites
import Derived.BigQuiet
import Derived.StillTailTactics
import Derived.OrdersIn
import Derived.Test.YtfmciiffcmfagaaChecked
import Derived.Shelf.Abstract
import Derived.Deep.RegionLaw
import Derived.Test.YtfmciiffcmfagaaZAl
set_option maxRecDepth 100000
set_option maxHeartbeats 25600000
namespace Go.Proofs.Ytfmciiffcmfagaa
open Go.RowKit
def addE (q:Rq) (id:Int):Int:=if id < 0 then 1 else if (findQ q.l id).isSome=true then 12 else if 16≤q.l.length then 3 else 0
def addV (q:Rq) (id v w:Int):Int:=if addE q id=0 then q.place v (bringR w 1 4096) else 0
structure Kept (X:List Nat) (n₀:Nat) (w w':World):Prop where
 os:w'.os=w.os
 tape:w'.tape=w.tape
 output:w'.output=w.output
 size:w.heap.size≤w'.heap.size
 block:∀k,k < n₀→k ∉ X→w'.heap[k]?=w.heap[k]?
theorem Kept.refl (X:List Nat) (n₀:Nat) (w:World):Kept X n₀ w w:=⟨rfl,rfl,rfl,Nat.le_refl _,fun _ _ _=>rfl⟩
theorem Kept.trans {X:List Nat} {n₀:Nat} {a b c:World} (h:Kept X n₀ a b) (g:Kept X n₀ b c):Kept X n₀ a c:=
 ⟨g.os.trans h.os,g.tape.trans h.tape,g.output.trans h.output,Nat.le_trans h.size g.size,fun k hk hx=>(g.block k hk hx).trans (h.block k hk hx)⟩
theorem Kept.drewN {X:List Nat} {n₀:Nat} {a b:World} (h:Kept X n₀ a b) (n:Nat):Kept X n₀ a (b.drewN n):=⟨h.os,h.tape,h.output,h.size,h.block⟩
theorem Kept.alloc {X:List Nat} {n₀:Nat} {a b:World} (h:Kept X n₀ a b) (hn:n₀≤b.heap.size) (o:Obj):Kept X n₀ a (b.alloc o):=
 ⟨h.os,h.tape,h.output,Nat.le_trans h.size (by simp),fun k hk hx=>(Below.heap_alloc b o k (by omega)).trans (h.block k hk hx)⟩
theorem Kept.setCell {X:List Nat} {n₀:Nat} {a b:World} (h:Kept X n₀ a b) {p:Addr} (hp:p.block ∈ X∨n₀≤p.block) (u:Value):Kept X n₀ a (b.setCell p u):=
 ⟨h.os,h.tape,h.output,Nat.le_trans h.size (by simp [World.setCell]),fun k hk hx=>
   (Below.heap_setCell b p u k (fun e=>by subst e;rcases hp with h1|h1;exact hx h1;omega)).trans (h.block k hk hx)⟩
theorem Kept.of_turned {X:List Nat} {n₀:Nat} {a b:World} (h:Turned X a b) (hn:n₀≤a.heap.size):Kept X n₀ a b:=⟨h.os,h.tape,h.output,h.size,fun k hk hx=>h.block k (by omega) hx⟩
theorem Kept.row {X:List Nat} {n₀:Nat} {a b:World} (h:Kept X n₀ a b) {base:Nat} {e:TypeId} {size:Nat} {v:Value} {n:Nat} {xs:List Value} (hr:a.ownsRow base e size v n xs) (hk:∀k ∈ v.ownBlock.toList,k < n₀∧k ∉ X):b.ownsRow base e size v n xs:=
 ownsRow_same hr fun k hv _=>h.block k (hk k hv).1 (hk k hv).2
theorem Kept.at {X:List Nat} {n₀:Nat} {a b:World} (h:Kept X n₀ a b) {k:Nat} {o:Obj} (ho:a.heap[k]?=some o) (hk:k < n₀) (hx:k ∉ X):b.heap[k]?=some o:=(h.block k hk hx).trans ho
end Go.Proofs.Ytfmciiffcmfagaa
namespace Go.Proofs.Ytfmciiffcmfagaa
open Go.RowKit
def SameAt (X:List Nat) (W W':World):Prop:=∀k ∈ X,W'.heap[k]?=W.heap[k]?
theorem SameAt.refl (X:List Nat) (W:World):SameAt X W W:=fun _ _=>rfl
theorem SameAt.trans {X:List Nat} {A B C:World} (h:SameAt X A B) (g:SameAt X B C):SameAt X A C:=fun k hk=>(g k hk).trans (h k hk)
theorem SameAt.of_turned {X Y:List Nat} {A B:World} (h:Turned Y A B) (hx:∀k ∈ X,k < A.heap.size∧k ∉ Y):SameAt X A B:=fun k hk=>h.block k (hx k hk).1 (hx k hk).2
structure Mild (X:List Nat) (B:Nat) (W W':World):Prop where
 os:W'.os=W.os
 tape:W'.tape=W.tape
 output:W'.output=W.output
 size:W.heap.size≤W'.heap.size
 same:∀(k:Nat) (o:Obj),W.heap[k]?=some o→k ∉ X→k < B∨o.isCells=true→W'.heap[k]?=some o
theorem Mild.of_turned {X:List Nat} {B:Nat} {W W':World} (h:Turned X W W'):Mild X B W W':=
 ⟨h.os,h.tape,h.output,h.size,fun _ _ ho hx _=>h.same ho hx⟩
theorem Mild.of_put {X:List Nat} {B l:Nat} {W:World} {o:Obj} (hl:W.heap[l]?=some o) (ho:o.isCells=false) (hB:B≤l) (o':Obj):Mild X B W (W.putObj l o'):=
 ⟨rfl,rfl,rfl,by simp,fun k u hu _ hk=>by
   have hne:k≠l:=by
    rintro rfl
    rw [hl] at hu
    cases hu
    rcases hk with h|h
    ·omega
    ·rw [ho] at h
     cases h
   exact (World.putObj_heap_other hne).trans hu⟩
def leftPost {α:Type} (B:Nat) (Y:List Nat) (I:List α→World→Prop) (Ix:Code→List α→World→Prop) (xs:List α) (W:World):Exit→Act→World→Prop
 | .normal,_,W'=>KeepsFrom B W W'∧SameAt Y W W'∧I xs W'
 | .ret,_,W'=>KeepsFrom B W W'∧SameAt Y W W'∧Ix .ret xs W'
 | .exit id,_,W'=>KeepsFrom B W W'∧SameAt Y W W'∧Ix (.exit id) xs W'
 | .goto t,_,W'=>KeepsFrom B W W'∧SameAt Y W W'∧Ix (.goto t) xs W'
 | .panic _,_,_=>False
 | .outgrown,_,_=>False
def TurnSeq {α:Type} (F:Fence) (n:Nat) (P:Program) (g:Nat) (lb:Array Value) (encs:α→Array Value) (X Y:List Nat) (Sp:List α→Prop) (S Sx:List α→World→Prop) (w:World):Prop:=
 ∀(l:Nat) (J Jx:List α→World→Prop) (W:World),Turned [] w W→(∀xs A B,J xs A→Turned X A B→J xs B)→
  (∀pre x A,J pre A→Sp (pre++[x])→YieldAt F (n - 1) P l (encs x) A fun e B=>
    SameAt Y A B∧A.heap.size≤B.heap.size∧((e= .returned (.bool true)∧J (pre++[x]) B)∨(e= .returned (.bool false)∧Jx (pre++[x]) B)))→
  J [] W→
  CallsIn F n P g (#[.func (.yield l) #[] #[]]++lb) W fun e W'=>(∃v,e= .returned v)∧((∃xs,S xs W'∧J xs W')∨(∃xs,Sx xs W'∧Jx xs W'))
variable {F:Fence} {n:Nat} {P:Program}
end Go.Proofs.Ytfmciiffcmfagaa
namespace Go.Proofs.Ytfmciiffcmfagaa
open Go
def noDefer (l:List Oper):Bool:=l.all fun o=>match o.op with| .defer _=>false|_=>true
theorem noDefer_spec {ops:Array Oper} (h:noDefer ops.toList=true) {i:Nat} {o:Oper} (hi:ops[i]?=some o):∀c,o.op≠ .defer c:=by
 intro c hc
 have h1:=List.all_eq_true.1 h o (by rw [←Array.getElem?_toList] at hi;exact List.mem_of_getElem? hi)
 rw [hc] at h1
 simp at h1
theorem Oper.wpIn_of_wp {P:Program} {o:Oper} {a:Act} {w:World} {K K':Act→World→Prop} {Q:Exit→Act→World→Prop} {l n:Nat} (hnd:∀c,o.op≠ .defer c) (hK:∀a w,K a w→K' a w)
  (h:o.wp P a w K Q):o.wpIn (Fence.wide.inRound l) n P a w K' Q:=by
 unfold Oper.wp at h
 unfold Oper.wpIn
 refine⟨fun _ _=>trivial,?_⟩
 rw [Oper.semAt_eq _ _ _ hnd]
 generalize (execOp a.eval o).run P w=r at*
 cases r with
 |ok x w'=>
  cases x<;>simp only [Oper.upon] at h<;>simp only [Oper.uponIn]
  case value v=>exact hK _ _ h
  case skip=>exact hK _ _ h
  case defer d=>exact hK _ _ h
  case enter f args=>
   refine⟨fun e=>by simp [Fence.wide] at e,CallsIn.inRound l (callsIn_wide.2 (h.mono ?_))⟩
   intro e w'' he
   cases e with
   |returned v=>exact hK _ _ he
   |panicked c=>exact he
   |outgrown=>exact he
  case row row args=>
   refine⟨fun e=>by simp [Fence.wide] at e,?_⟩
   have hr:RowsIn Fence.wide (n - 1) P row args w' (fun v w''=>K' (a.put o.dst v) w''):=fun c cs _=>let ⟨v,w'',r,s⟩:=h c cs;⟨v,w'',hK _ _ r,stepsIn_wide.2 s⟩
   exact hr
 |halt x w'=>
  cases x<;>simp only [Oper.upon] at h<;>simp only [Oper.uponIn]
  exact h
section
variable {P:Program} {ops:Array Oper} {md:Region.Mode} {Q:Exit→Act→World→Prop} {r n:Nat}
theorem wpOpIn_of_wpOp (hnd:noDefer ops.toList=true) (hQ:¬LetsOut Q) {i:Nat} {K K':Act→World→Prop} {a:Act} {w:World} (hK:∀a w,K a w→K' a w) (h:wpOp P ops Q i K a w):
  wpOpIn (Fence.wide.inRound r) n P ops Q i K' a w:=by
 unfold wpOp at h
 unfold wpOpIn
 cases ho:ops[i]? with
 |none=>simp only [ho] at h ⊢;exact hK _ _ h
 |some o=>
  simp only [ho] at h ⊢
  by_cases hw:Region.wanted o (yielded ops a.tmps)=true
  ·simp only [hw,if_true] at h ⊢
   rcases h with h|h
   ·exact Oper.wpIn_of_wp (noDefer_spec hnd ho) hK h
   ·exact absurd h.2 hQ
  ·simp only [hw] at h ⊢
   exact⟨fun _ _=>trivial,hK _ _ h⟩
theorem wpAnyIn_of_wpAny (hnd:noDefer ops.toList=true) (hQ:¬LetsOut Q):∀(fuel:Nat) (listed:Array Bool) (a:Act) (w:World),wpAny P md ops Q fuel listed a w→wpAnyIn (Fence.wide.inRound r) n P md ops Q fuel listed a w
 |0,_,_,_,h=>h
 |fuel+1,_,_,_,h=>⟨h.1,fun i hi=>wpOpIn_of_wpOp hnd hQ (fun a' w' h'=>wpAnyIn_of_wpAny hnd hQ fuel _ a' w' h') (h.2 i hi)⟩
end
theorem wpStill_of_quiet {P:Program} {ops:Array Oper} {W:World} {Q:Act→Prop} :∀(l:List Oper) (a:Act),wpQuiet P ops (fun w'=>w'=W) Q l a→wpStill P ops W Q l a
 |[],_,h=>h
 |o::l,a,h=>by
  unfold wpQuiet at h
  unfold wpStill
  by_cases hw:Region.wanted o (yielded ops a.tmps)=true
  ·simp only [hw,if_true] at h ⊢
   obtain⟨v,h1,h2⟩:=h
   have h3:=h1 W rfl
   have h4:=wpStill_of_quiet l _ h2
   unfold Oper.quietAt at h3
   unfold Oper.still
   generalize (execOp a.eval o).run P W=r at*
   cases r with
   |ok x w'=>
    cases x<;>simp only [Oper.quietUpon] at h3<;>simp only [Oper.stillUpon]
    case value u=>
     obtain⟨rfl,rfl⟩:=h3
     exact⟨rfl,h4⟩
    case skip=>
     obtain⟨rfl,rfl⟩:=h3
     exact⟨rfl,h4⟩
    case enter f args=>
     obtain⟨rfl,hc⟩:=h3
     exact⟨rfl,v,hc,h4⟩
   |halt x w'=>simp only [Oper.quietUpon] at h3
  ·simp only [hw] at h ⊢
   exact wpStill_of_quiet l _ h
theorem wpRound_tail {P:Program} {id r q:Nat} {Q:Exit→Act→World→Prop} {a:Act} {w:World} {l:List Oper} (n:Nat) (hnd:noDefer l=true) (hQ:¬LetsOut Q) (hm:P.follows .mixedOrders=true) (hB:Region.lexTailB .any l.toArray n=true)
  (h0:wpQuiet P l.toArray (fun w'=>w'=w.drew) (fun a'=>wpList P l.toArray Q (l.drop n) a' w.drew) (l.take n) a):(Code.region id l.toArray true).wpIn (Fence.wide.inRound r) q P Q a w:=by
 simp only [Region.lexTailB,Bool.and_eq_true,decide_eq_true_eq] at hB
 obtain⟨⟨⟨⟨hsel,hn⟩,hs⟩,hc⟩,hlex⟩:=hB
 have h:=wpStill_of_quiet _ _ h0
 have hn':n < l.length:=by simpa using hn
 have htl:(l.take n).length=n:=by simp;omega
 have hdl:(l.drop n).length=l.toArray.size - n:=by simp
 have inv:HeadInv .any l.toArray n (Array.replicate l.toArray.size false):=
  ⟨by simp,fun j oj _ hl=>(by rw [getD_replicate_false] at hl;cases hl),fun t _ ht=>getD_in (by simpa using ht) (getD_replicate_false _ _)⟩
 have H:=wpAnyL_lex (md:= .any) (g:=l.toArray.size - n) hsel hs hc hn (l.take n) 0 _ a (fun j hj=>by
  have hj':j < n:=by rw [htl] at hj;exact hj
  simp [hj']) (by simpa using htl) inv (by rw [htl];exact hlex) h
 refine wpIn_region_any hm (wpAnyIn_of_wpAny (by simpa using hnd) hQ _ _ _ _ ?_)
 have G:=wpAny_of_head (Q':=Q) (g:=l.toArray.size - n) (fun listed a' hL=>by
  have:=wpAny_of_seq (md:= .any) (Q':=Q) (l.drop n) n listed a' w.drew (fun j=>by simp [List.getElem?_drop]) (by rw [hdl];exact hL.1) hL.2
  rwa [hdl] at this) _ _ _ H
 rw [htl,show n+(l.toArray.size - n)=l.toArray.size by omega] at G
 exact G
end Go.Proofs.Ytfmciiffcmfagaa
namespace Go.Proofs.Ytfmciiffcmfagaa
open Go.RowKit
theorem cell1 {w:World} {b:Nat} {x:Value} {t:TypeId} (h:w.heap[b]?=some (.cells #[x] t (0,0))):w.cell? ⟨b,0,none⟩=some x:=by simp [World.cell?,h]
theorem Turned.mild {X Y:List Nat} {N:Nat} {w A B:World} (h:Turned Y w A) (m:Mild X N A B) (hN:w.heap.size≤N) (hX:∀k ∈ X,w.heap.size≤k):Turned Y w B:=
 ⟨m.os.trans h.os,m.tape.trans h.tape,m.output.trans h.output,Nat.le_trans h.size m.size,fun k hk hy=>by
   have h1:=h.block k hk hy
   have h2:A.heap[k]?=some (A.heap[k]'(by have:=h.size;omega)):=Array.getElem?_eq_getElem _
   rw [m.same k _ h2 (fun hx=>by have:=hX k hx;omega) (.inl (by omega)), ←h2,h1]⟩
theorem Mild.cells {X:List Nat} {N k:Nat} {A B:World} {cs:Array Value} {t:TypeId} {f:Nat×Nat} (m:Mild X N A B) (h:A.heap[k]?=some (.cells cs t f)) (hx:k ∉ X):B.heap[k]?=some (.cells cs t f):=m.same k _ h hx (.inr rfl)
theorem Turned.trans' {X Y:List Nat} {a b c:World} (h:Turned X a b) (g:Turned Y b c) (hs:∀k ∈ Y,a.heap.size≤k):Turned X a c:=h.trans g (fun k hk=> .inr (hs k hk))
theorem Turned.put {X:List Nat} {a b:World} (h:Turned X a b) {l:Nat} (hl:a.heap.size≤l) (o:Obj):Turned X a (b.putObj l o):=
 h.grown (grownBy_putObj' b l o) (fun k e=> .inr (by cases e;exact hl))
theorem LAt.mild {α:Type} {tS tE:TypeId} {k:Nat} {enc:α→List Value} {cs:Value→Array Value} {A B:World} {b:Nat} {Z X:List Nat} {N:Nat} {L:List α} (h:LAt tS tE k enc cs A b Z L) (m:Mild X N A B) (hd:∀k ∈ Z,k ∉ X):LAt tS tE k enc cs B b Z L:=by
 obtain⟨v,h1,h2,rfl⟩:=h
 refine⟨v,m.cells h1 (hd _ (by simp)),ownsRow_same h2 (fun k hk _=>?_),rfl⟩
 obtain⟨cur,hc⟩:=ownsRow_type h2 k hk
 rw [m.cells hc (hd k (List.mem_cons_of_mem _ hk)),hc]
theorem LAt.isCells {α:Type} {tS tE:TypeId} {k:Nat} {enc:α→List Value} {cs:Value→Array Value} {A:World} {b:Nat} {Z:List Nat} {L:List α} (h:LAt tS tE k enc cs A b Z L):∀k ∈ Z,∃c t,A.heap[k]?=some (.cells c t (0,0)):=by
 obtain⟨v,h1,h2,rfl⟩:=h
 intro k hk
 rcases List.mem_cons.1 hk with rfl|hk
 ·exact⟨_,_,h1⟩
 ·obtain⟨cur,hc⟩:=ownsRow_type h2 k hk
  exact⟨cur,_,hc⟩
theorem LAt.kinds {α:Type} {tS tE:TypeId} {k:Nat} {enc:α→List Value} {cs:Value→Array Value} {A:World} {b:Nat} {Z:List Nat} {L:List α} (h:LAt tS tE k enc cs A b Z L):∀k ∈ Z,(∃c,A.heap[k]?=some (.cells c tS (0,0)))∨(∃c,A.heap[k]?=some (.cells c tE (0,0))):=by
 obtain⟨v,h1,h2,rfl⟩:=h
 intro k hk
 rcases List.mem_cons.1 hk with rfl|hk
 ·exact .inl ⟨_,h1⟩
 ·obtain⟨cur,hc⟩:=ownsRow_type h2 k hk
  exact .inr ⟨cur,hc⟩
end Go.Proofs.Ytfmciiffcmfagaa
namespace Go.Proofs.Ytfmciiffcmfagaa
open Go.RowKit
def waitsFor (md:Region.Mode) (ops:Array Oper) (e i:Nat):Bool:=
 match ops[e]? with
 |some o=>o.after.any fun d=>Region.binds md d&&d.on == i
 |none=>false
def wpAnyE (P:Program) (md:Region.Mode) (ops:Array Oper) (Q:Exit→Act→World→Prop) (S:World→Prop) (e:Nat):Nat→Array Bool→Act→World→Prop
 |0,done,a,w=>Region.ready md ops done=[]∧Q .normal a w
 |fuel+1,done,a,w=>(Region.ready md ops done=[]→Q .normal a w)∧
  ∀i ∈ Region.ready md ops done,wpOp P ops Q i (fun a' w'=>(i=e∨S w')∧wpAnyE P md ops Q S e fuel (done.setIfInBounds i true) a' w') a w
section
variable {P:Program} {md:Region.Mode} {ops:Array Oper} {Q:Exit→Act→World→Prop} {S:World→Prop} {e:Nat}
def ReadyE (P:Program) (md:Region.Mode) (ops:Array Oper) (Q:Exit→Act→World→Prop) (S:World→Prop) (e fuel:Nat) (done:Array Bool) (a:Act) (w:World) (rs:List Nat):Prop:=
 ∀i ∈ rs,wpOp P ops Q i (fun a' w'=>(i=e∨S w')∧wpAnyE P md ops Q S e fuel (done.setIfInBounds i true) a' w') a w
theorem ReadyE.nil {fuel:Nat} {done:Array Bool} {a:Act} {w:World} :ReadyE P md ops Q S e fuel done a w []:=fun _ h=>by cases h
theorem ReadyE.cons {fuel:Nat} {done:Array Bool} {a:Act} {w:World} {i:Nat} {o:Oper} {rs:List Nat} (ho:ops[i]?=some o)
  (h:∀K':Act→World→Prop,Shut (∀a w,(i=e∨S w)→wpAnyE P md ops Q S e fuel (done.setIfInBounds i true) a w→K' a w)→if Region.wanted o (yielded ops a.tmps)=true then Oper.wp P o a w K' Q else K' (a.put o.dst undef) w)
  (hs:ReadyE P md ops Q S e fuel done a w rs):ReadyE P md ops Q S e fuel done a w (i::rs):=fun j hj=>by
 rcases List.mem_cons.1 hj with rfl|hj
 ·exact wpOp_step ho fun K' hK=>h K' fun a w h1 h2=>hK a w ⟨h1,h2⟩
 ·exact hs j hj
end
end Go.Proofs.Ytfmciiffcmfagaa
namespace Go.Proofs.Ytfmciiffcmfagaa
open Go.RowKit
def wpAnyF (P:Program) (md:Region.Mode) (ops:Array Oper) (Q:Exit→Act→World→Prop) (S:World→Prop) (e:Nat):Nat→Array Bool→Act→World→Prop
 |0,done,a,w=>Region.ready md ops done=[]∧Q .normal a w
 |fuel+1,done,a,w=>(Region.ready md ops done=[]→Q .normal a w)∧
  ∀i ∈ Region.ready md ops done,wpOp P ops Q i (fun a' w'=>((done.setIfInBounds i true).getD e true=true∨S w')∧wpAnyF P md ops Q S e fuel (done.setIfInBounds i true) a' w') a w
section
variable {P:Program} {md:Region.Mode} {ops:Array Oper} {Q:Exit→Act→World→Prop} {S:World→Prop} {e:Nat}
theorem wpAny_of_F:∀(fuel:Nat) (done:Array Bool) (a:Act) (w:World),wpAnyF P md ops Q S e fuel done a w→wpAny P md ops Q fuel done a w
 |0,_,_,_,h=>h
 |fuel+1,_,_,_,h=>⟨h.1,fun i hi=>wpOp_mono (fun a' w' h'=>wpAny_of_F fuel _ a' w' h'.2) (h.2 i hi)⟩
theorem done_set (done:Array Bool) (e:Nat):(done.setIfInBounds e true).getD e true=true:=by
 simp only [Array.getD_eq_getD_getElem?,Array.getElem?_setIfInBounds]
 split
 ·split<;>rfl
 ·next h=>exact absurd trivial h
theorem done_later {done:Array Bool} {e j:Nat} (h:done.getD e true=true):(done.setIfInBounds j true).getD e true=true:=by
 by_cases hj:j=e
 ·subst hj;exact done_set _ _
 ·rw [getD_set_ne true hj];exact h
theorem wpAnyF_take {i:Nat} {oi:Oper} {v:Value} {a:Act} {w:World} (hi:ops[i]?=some oi) (hs:Region.noSelect ops=true) (he:waitsFor md ops e i=true)
  (hQ:∀c a w,Q (.panic c) (a.put oi.dst v) w→Q (.panic c) a w):
  ∀ {fuel:Nat} {done:Array Bool},Region.free md ops done i=true→(Region.ready md ops done).contains i=true→done.getD e true=false→YieldsIf P ops S oi v a→S w→
   wpAnyF P md ops Q S e fuel (done.setIfInBounds i true) (a.put oi.dst v) w→wpAnyF P md ops Q S e (fuel+1) done a w:=by
 have hsel:=Region.noSelect_spec hs
 intro fuel done hf hr hd0
 have hfree:=Region.free_spec hi hf
 have hr':i ∈ Region.ready md ops done:=by simpa using hr
 clear hf hr
 suffices H:∀(fuel:Nat) (done:Array Bool) (a:Act) (w:World),(∀j oj,ops[j]?=some oj→j≠i→done.getD j true=false→(∀d ∈ oj.after,Region.binds md d=true→d.on≠i)→oi.apart ops oj=true)→
  i ∈ Region.ready md ops done→done.getD e true=false→YieldsIf P ops S oi v a→S w→wpAnyF P md ops Q S e fuel (done.setIfInBounds i true) (a.put oi.dst v) w→wpAnyF P md ops Q S e (fuel+1) done a w from H fuel done a w hfree hr' hd0
 intro fuel
 induction fuel with
 |zero=>
  intro done a w _ hr _ hy hS h
  refine⟨fun h0=>by simp [h0] at hr,fun j hj=>?_⟩
  by_cases hji:j=i
  ·subst hji
   exact hy.wpOp hi hS ⟨.inr hS,h⟩
  ·have:=ready_mono hj hji
   simp [h.1] at this
 |succ fuel ih=>
  intro done a w hfr hr hde hy hS h
  refine⟨fun h0=>by simp [h0] at hr,fun j hj=>?_⟩
  by_cases hji:j=i
  ·subst hji
   exact hy.wpOp hi hS ⟨.inr hS,h⟩
  obtain⟨hjd,oj,hoj,hall⟩:=mem_ready.1 hj
  have hno:∀d ∈ oj.after,Region.binds md d=true→d.on≠i:=by
   rintro d hd hb rfl
   have h1:=hall d hd hb
   have h0:=(mem_ready.1 hr).1
   simp only [Array.getD_eq_getD_getElem?] at h0 h1
   cases hq:done[d.on]? with
   |none=>simp [hq] at h0 h1
   |some q=>simp [hq] at h0 h1;rw [h0] at h1;cases h1
  have hje:j≠e:=by
   rintro rfl
   unfold waitsFor at he
   rw [hoj] at he
   obtain⟨k,hk,hd⟩:=Array.any_eq_true.1 he
   simp only [Bool.and_eq_true,beq_iff_eq] at hd
   exact hno _ (Array.getElem_mem hk) hd.1 hd.2
  have hie:i≠e:=by
   rintro rfl
   unfold waitsFor at he
   rw [hi] at he
   obtain⟨k,hk,hd⟩:=Array.any_eq_true.1 he
   simp only [Bool.and_eq_true,beq_iff_eq] at hd
   obtain⟨_,oi',hoi',hall'⟩:=mem_ready.1 hr
   rw [hi] at hoi'
   cases hoi'
   have h1:=hall' _ (Array.getElem_mem hk) hd.1
   have h0:=(mem_ready.1 hr).1
   rw [hd.2] at h1
   simp only [Array.getD_eq_getD_getElem?] at h0 h1
   cases hq:done[i]? with
   |none=>simp [hq] at h0 h1
   |some q=>simp [hq] at h0 h1;rw [h0] at h1;cases h1
  have hstep:=wpOp_putIf hoj (hfr j oj hoj hji hjd hno) (fun cs b=>hsel i oi cs b hi) (fun cs b=>hsel j oj cs b hoj) hQ hy (h.2 j (ready_mono hj hji))
  have hdj:(done.setIfInBounds j true).getD e true=false:=by rw [getD_set_ne true hje];exact hde
  have hdij:((done.setIfInBounds i true).setIfInBounds j true).getD e true=false:=by rw [getD_set_ne true hje,getD_set_ne true hie];exact hde
  refine wpOp_mono (fun a' w' hk=>?_) hstep
  obtain⟨hy',hS',hrest⟩:=hk
  have hS2:S w':=by
   rcases hS' with h1|h1
   ·rw [hdij] at h1;cases h1
   ·exact h1
  refine⟨.inr hS2,ih _ a' w' (fun k ok hk hki hun hn=>hfr k ok hk hki ?_ hn) (ready_mono hr (Ne.symm hji)) hdj hy' hS2 ?_⟩
  ·by_cases hjk:j=k
   ·subst hjk;exact hjd
   ·rwa [getD_set_ne true hjk] at hun
  ·rwa [Array.setIfInBounds_comm _ _ hji]
theorem wpAnyF_free {i:Nat} {oi:Oper} {v:Value} {a:Act} {w:World} (hi:ops[i]?=some oi) (hs:Region.noSelect ops=true) (hie:i≠e)
  (hQ:∀c a w,Q (.panic c) (a.put oi.dst v) w→Q (.panic c) a w):
  ∀ {fuel:Nat} {done:Array Bool},Region.free md ops done i=true→(Region.ready md ops done).contains i=true→YieldsIf P ops (fun _=>True) oi v a→S w→
   wpAnyF P md ops Q S e fuel (done.setIfInBounds i true) (a.put oi.dst v) w→wpAnyF P md ops Q S e (fuel+1) done a w:=by
 have hsel:=Region.noSelect_spec hs
 intro fuel done hf hr hy0 hS0
 have hfree:=Region.free_spec hi hf
 have hr':i ∈ Region.ready md ops done:=by simpa using hr
 clear hf hr
 suffices H:∀(fuel:Nat) (done:Array Bool) (a:Act) (w:World),(∀j oj,ops[j]?=some oj→j≠i→done.getD j true=false→(∀d ∈ oj.after,Region.binds md d=true→d.on≠i)→oi.apart ops oj=true)→
  i ∈ Region.ready md ops done→YieldsIf P ops (fun _=>True) oi v a→(done.getD e true=true∨S w)→wpAnyF P md ops Q S e fuel (done.setIfInBounds i true) (a.put oi.dst v) w→wpAnyF P md ops Q S e (fuel+1) done a w from H fuel done a w hfree hr' hy0 (.inr hS0)
 intro fuel
 induction fuel with
 |zero=>
  intro done a w _ hr hy hS h
  refine⟨fun h0=>by simp [h0] at hr,fun j hj=>?_⟩
  by_cases hji:j=i
  ·subst hji
   exact hy.wpOp hi trivial ⟨hS.imp done_later id,h⟩
  ·have:=ready_mono hj hji
   simp [h.1] at this
 |succ fuel ih=>
  intro done a w hfr hr hy hS h
  refine⟨fun h0=>by simp [h0] at hr,fun j hj=>?_⟩
  by_cases hji:j=i
  ·subst hji
   exact hy.wpOp hi trivial ⟨hS.imp done_later id,h⟩
  obtain⟨hjd,oj,hoj,hall⟩:=mem_ready.1 hj
  have hno:∀d ∈ oj.after,Region.binds md d=true→d.on≠i:=by
   rintro d hd hb rfl
   have h1:=hall d hd hb
   have h0:=(mem_ready.1 hr).1
   simp only [Array.getD_eq_getD_getElem?] at h0 h1
   cases hq:done[d.on]? with
   |none=>simp [hq] at h0 h1
   |some q=>simp [hq] at h0 h1;rw [h0] at h1;cases h1
  have hstep:=wpOp_putIf hoj (hfr j oj hoj hji hjd hno) (fun cs b=>hsel i oi cs b hi) (fun cs b=>hsel j oj cs b hoj) hQ hy (h.2 j (ready_mono hj hji))
  refine wpOp_mono (fun a' w' hk=>?_) hstep
  obtain⟨hy',hS',hrest⟩:=hk
  have hS2:(done.setIfInBounds j true).getD e true=true∨S w':=by
   rcases hS' with h1|h1
   ·rw [Array.setIfInBounds_comm _ _ (Ne.symm hji),getD_set_ne true hie] at h1
    exact .inl h1
   ·exact .inr h1
  refine⟨hS2,ih _ a' w' (fun k ok hk hki hun hn=>hfr k ok hk hki ?_ hn) (ready_mono hr (Ne.symm hji)) hy' hS2 ?_⟩
  ·by_cases hjk:j=k
   ·subst hjk;exact hjd
   ·rwa [getD_set_ne true hjk] at hun
  ·rwa [Array.setIfInBounds_comm _ _ hji]
def ReadyF (P:Program) (md:Region.Mode) (ops:Array Oper) (Q:Exit→Act→World→Prop) (S:World→Prop) (e fuel:Nat) (done:Array Bool) (a:Act) (w:World) (rs:List Nat):Prop:=
 ∀i ∈ rs,wpOp P ops Q i (fun a' w'=>((done.setIfInBounds i true).getD e true=true∨S w')∧wpAnyF P md ops Q S e fuel (done.setIfInBounds i true) a' w') a w
theorem ReadyF.nil {fuel:Nat} {done:Array Bool} {a:Act} {w:World} :ReadyF P md ops Q S e fuel done a w []:=fun _ h=>by cases h
theorem ReadyF.cons {fuel:Nat} {done:Array Bool} {a:Act} {w:World} {i:Nat} {o:Oper} {rs:List Nat} (ho:ops[i]?=some o)
  (h:∀K':Act→World→Prop,Shut (∀a w,((done.setIfInBounds i true).getD e true=true∨S w)→wpAnyF P md ops Q S e fuel (done.setIfInBounds i true) a w→K' a w)→if Region.wanted o (yielded ops a.tmps)=true then Oper.wp P o a w K' Q else K' (a.put o.dst undef) w)
  (hs:ReadyF P md ops Q S e fuel done a w rs):ReadyF P md ops Q S e fuel done a w (i::rs):=fun j hj=>by
 rcases List.mem_cons.1 hj with rfl|hj
 ·exact wpOp_step ho fun K' hK=>h K' fun a w h1 h2=>hK a w ⟨h1,h2⟩
 ·exact hs j hj
theorem wpAnyF_ready {rs:List Nat} {fuel:Nat} {done:Array Bool} {a:Act} {w:World} (hr:Region.ready md ops done=rs) (hne:rs≠[]) (h:ReadyF P md ops Q S e fuel done a w rs):wpAnyF P md ops Q S e (fuel+1) done a w:=
 ⟨fun h0=>absurd (hr ▸ h0) hne,hr ▸ h⟩
theorem wpAnyF_done {done:Array Bool} {a:Act} {w:World} (hr:Region.ready md ops done=[]) (h:Q .normal a w):∀fuel,wpAnyF P md ops Q S e fuel done a w
 |0=>⟨hr,h⟩
 |_+1=>⟨fun _=>h,by rw [hr];simp⟩
end
theorem wp_region_lastF {P:Program} {id:Nat} {Q:Exit→Act→World→Prop} {a:Act} {w:World} {ops:Array Oper} (S:World→Prop) (e:Nat) (hm:P.follows .mixedOrders=true) (hS:S w.drew)
  (h:S w.drew→wpAnyF P .any ops Q S e ops.size (Array.replicate ops.size false) a w.drew):(Code.region id ops true).wp P Q a w:=
 wp_region_any hm (wpAny_of_F _ _ _ _ (h hS))
end Go.Proofs.Ytfmciiffcmfagaa
namespace Go.Proofs.Ytfmciiffcmfagaa
open Go.RowKit
def remV (q:Rq) (id:Int):Int:=((findQ q.l id).map (·.1)).getD 0
end Go.Proofs.Ytfmciiffcmfagaa
namespace Go.Proofs.Ytfmciiffcmfagaa
end Go.Proofs.Ytfmciiffcmfagaa
namespace Go.Proofs.Ytfmciiffcmfagaa
open Go.RowKit
theorem ready_nodup {q:Rq} (hu:(q.l.map (·.1)).Nodup):(q.ready.map (·.1)).Nodup:=(List.filter_sublist.map _).nodup hu
end Go.Proofs.Ytfmciiffcmfagaa
namespace Go.Proofs.Ytfmciiffcmfagaa
structure QOk (q:Rq) (c:Int):Prop where
 g:1≤q.g∧q.g≤8
 f:Word q.f
 ids:∀x ∈ q.l,0≤x.1
 uniq:(q.l.map (·.1)).Nodup
 wt:∀x ∈ q.l,1≤x.2.2∧x.2.2≤4096
 v:∀x ∈ q.l,Word x.2.1
 len:q.l.length≤16
 cur:0≤q.cur→∃x ∈ q.l,x.1=q.cur
 idle:q.cur < 0→q.cur= -1∧q.ran=0
 ran:0≤q.ran∧q.ran≤c
theorem sat_word {x:Int} (h:0≤x):Word (satV x):=by
 unfold satV Word
 split<;>omega
theorem clamp_word {v f r:Int} (hv:Word v) (hf:Word f) (hr:0≤r):Word (clampR v f r):=by
 have:=sat_word (x:=f+r) (by have:=hf.1;omega)
 unfold clampR
 split
 ·exact hf
 ·split
  ·exact this
  ·exact hv
section
variable {q:Rq} {c:Int}
theorem QOk.place (h:QOk q c) {v:Int} (hv:Word v) (w:Int):Word (q.place v w):=clamp_word hv h.f (reach_range w q.g).1
theorem QOk.later (h:QOk q c) {d:Int} (hd:c≤d):QOk q d:=⟨h.g,h.f,h.ids,h.uniq,h.wt,h.v,h.len,h.cur,h.idle,h.ran.1,by have:=h.ran.2;omega⟩
theorem QOk.new (grain:Int):QOk (Rq.new grain) 8:=by
 unfold Rq.new
 exact⟨bring_range (by decide),⟨by show (0:Int)≤0;omega,by show (0:Int)≤18446744073709551615;omega⟩,fun x hx=>(by cases hx),List.nodup_nil,fun x hx=>(by cases hx),fun x hx=>(by cases hx),Nat.zero_le _,fun h=>(by have:(0:Int)≤ -1:=h;omega),fun _=>⟨rfl,rfl⟩,by show (0:Int)≤0∧(0:Int)≤8;omega⟩
theorem QOk.add (h:QOk q c) (id:Int) {v:Int} (hv:Word v) (w:Int):QOk (q.add id v w) c:=by
 unfold Rq.add
 split
 ·exact h
 ·next hc=>
  have hw:=bring_range (n:=w) (lo:=1) (hi:=4096) (by decide)
  have hid:0≤id:=by omega
  have hnone:findQ q.l id=none:=by
   cases he:findQ q.l id with
   |none=>rfl
   |some x=>exact absurd (.inr (.inl (by rw [he];rfl))) hc
  have hne:=findQ_none hnone
  refine⟨h.g,h.f,?_,?_,?_,?_,?_,?_,h.idle,h.ran⟩
  ·intro x hx
   rcases List.mem_append.1 hx with hx|hx
   ·exact h.ids x hx
   ·simp at hx;subst hx;exact hid
  ·simp only [List.map_append,List.map_cons,List.map_nil]
   rw [List.nodup_append]
   refine⟨h.uniq,by simp,fun a ha b hb=>?_⟩
   obtain⟨x,hx,rfl⟩:=List.mem_map.1 ha
   simp at hb
   subst hb
   exact hne x hx
  ·intro x hx
   rcases List.mem_append.1 hx with hx|hx
   ·exact h.wt x hx
   ·simp at hx;subst hx;exact hw
  ·intro x hx
   rcases List.mem_append.1 hx with hx|hx
   ·exact h.v x hx
   ·simp at hx;subst hx;exact h.place hv _
  ·simp only [List.length_append,List.length_cons,List.length_nil]
   omega
  ·intro h0
   obtain⟨x,hx,e⟩:=h.cur h0
   exact⟨x,List.mem_append_left _ hx,e⟩
theorem QOk.remove (h:QOk q c) (id:Int):QOk (q.remove id) c:=by
 unfold Rq.remove
 split
 ·have sub:∀x ∈ q.l.filter (fun x=>decide (x.1≠id)),x ∈ q.l∧x.1≠id:=fun x hx=>by
    have:=List.mem_filter.1 hx
    exact⟨this.1,by simpa using this.2⟩
  refine⟨h.g,h.f,fun x hx=>h.ids x (sub x hx).1,(List.filter_sublist.map _).nodup h.uniq,fun x hx=>h.wt x (sub x hx).1,fun x hx=>h.v x (sub x hx).1,Nat.le_trans (List.length_filter_le _ _) h.len,?_,?_,?_⟩
  ·intro h0
   dsimp only at h0 ⊢
   by_cases hc:q.cur=id
   ·rw [if_pos hc] at h0
    omega
   ·rw [if_neg hc] at h0 ⊢
    obtain⟨x,hx,e⟩:=h.cur h0
    exact⟨x,List.mem_filter.2 ⟨hx,by simp;omega⟩,e⟩
  ·intro h0
   dsimp only at h0 ⊢
   by_cases hc:q.cur=id
   ·rw [if_pos hc,if_pos hc]
    exact⟨rfl,rfl⟩
   ·rw [if_neg hc] at h0
    rw [if_neg hc,if_neg hc]
    exact h.idle h0
  ·dsimp only
   have:=h.ran
   split<;>omega
 ·exact h
theorem QOk.weigh (h:QOk q c) (hc:8≤c) (id w:Int):QOk (q.weigh id w) c:=by
 unfold Rq.weigh
 cases he:findQ q.l id with
 |none=>exact h
 |some x0=>
  have hm:=findQ_mem he
  have hid:=h.ids _ hm
  have hw:=bring_range (n:=w) (lo:=1) (hi:=4096) (by decide)
  generalize bringR w 1 4096=w' at hw
  have get:∀x ∈ q.l.map (fun y=>if y.1=id then (y.1,q.place y.2.1 w',w') else y),∃y ∈ q.l,x.1=y.1∧((y.1=id∧x=(y.1,q.place y.2.1 w',w'))∨(y.1≠id∧x=y)):=fun x hx=>by
   obtain⟨y,hy,rfl⟩:=List.mem_map.1 hx
   by_cases hc:y.1=id
   ·rw [if_pos hc]
    exact⟨y,hy,rfl, .inl ⟨hc,rfl⟩⟩
   ·rw [if_neg hc]
    exact⟨y,hy,rfl, .inr ⟨hc,rfl⟩⟩
  have names:(q.l.map (fun y=>if y.1=id then (y.1,q.place y.2.1 w',w') else y)).map (·.1)=q.l.map (·.1):=by
   rw [List.map_map]
   refine List.map_congr_left fun y _=>?_
   simp only [Function.comp]
   split<;>rfl
  refine⟨h.g,h.f,?_,?_,?_,?_,?_,?_,?_,?_⟩
  ·intro x hx
   obtain⟨y,hy,e,_⟩:=get x hx
   rw [e]
   exact h.ids y hy
  ·show (List.map _ (List.map _ q.l)).Nodup
   rw [names]
   exact h.uniq
  ·intro x hx
   obtain⟨y,hy,_,⟨_,rfl⟩ |⟨_,rfl⟩⟩:=get x hx
   ·exact hw
   ·exact h.wt _ hy
  ·intro x hx
   obtain⟨y,hy,_,⟨_,rfl⟩ |⟨_,rfl⟩⟩:=get x hx
   ·exact h.place (h.v _ hy) _
   ·exact h.v _ hy
  ·rw [List.length_map]
   exact h.len
  ·intro h0
   obtain⟨y,hy,e⟩:=h.cur h0
   by_cases hc:y.1=id
   ·exact⟨(y.1,q.place y.2.1 w',w'),List.mem_map.2 ⟨y,hy,by rw [if_pos hc]⟩,e⟩
   ·exact⟨y,List.mem_map.2 ⟨y,hy,by rw [if_neg hc]⟩,e⟩
  ·intro h0
   dsimp only at h0 ⊢
   obtain⟨e1,e2⟩:=h.idle h0
   have:¬(x0.2≠w'∧q.cur=id):=fun hh=>by have:=hh.2;simp only at hid;omega
   rw [if_neg this]
   exact⟨e1,e2⟩
  ·dsimp only
   have:=h.ran
   have:=h.g
   split<;>omega
theorem minQ_word:∀(l:List (Int×Int×Int)) {m:Int},Word m→(∀x ∈ l,Word x.2.1)→Word (minQ l m)
 |[],_,h,_=>h
 |x::l,m,h,hl=>by
  unfold minQ
  refine minQ_word l ?_ (fun y hy=>hl y (by simp [hy]))
  split
  ·exact hl x (by simp)
  ·exact h
theorem QOk.settle (h:QOk q c):QOk q.settle c:=by
 obtain⟨_,e2,e3,e4,e5⟩:=settle_ge q
 have hf:Word q.settle.f:=by
  have hv:=h.v
  unfold Rq.settle
  cases hl:q.l with
  |nil=>exact h.f
  |cons x l=>
   rw [hl] at hv
   dsimp only
   split
   ·exact minQ_word l (hv x (by simp)) (fun y hy=>hv y (by simp [hy]))
   ·exact h.f
 exact⟨by rw [e2];exact h.g,hf,by rw [e3];exact h.ids,by rw [e3];exact h.uniq,by rw [e3];exact h.wt,by rw [e3];exact h.v,by rw [e3];exact h.len,by rw [e3,e4];exact h.cur,by rw [e4,e5];exact h.idle,by rw [e5];exact h.ran⟩
end
end Go.Proofs.Ytfmciiffcmfagaa
namespace Go.Proofs.Ytfmciiffcmfagaa
end Go.Proofs.Ytfmciiffcmfagaa
namespace Go.Proofs.Ytfmciiffcmfagaa
open Go.RowKit
end Go.Proofs.Ytfmciiffcmfagaa
