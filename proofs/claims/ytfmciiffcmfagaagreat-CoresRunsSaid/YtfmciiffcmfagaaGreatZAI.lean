/-
  Both cores, side by side, and a box: what each deed does to them. (Made by gen_codu.py.)
  sameQueue: a core's queue is held against the document's.
  same: the program's cores are held against the document's.
-/
import Derived.Test.YtfmciiffcmfagaaGreatZAH
import Derived.Test.YtfmciiffcmfagaaGreatZAF
import Derived.Test.YtfmciiffcmfagaaGreatZAB
import Derived.Test.YtfmciiffcmfagaaGreatZAG
import Derived.Test.YtfmciiffcmfagaaGreatZAC
import Derived.Test.YtfmciiffcmfagaaGreatZAE
import Derived.Deep.RegionHeld3
import Derived.BigQuiet
import Derived.Test.YtfmciiffcmfagaaGreatZAl
set_option maxRecDepth 100000
set_option maxHeartbeats 25600000
namespace Go.Proofs.YtfmciiffcmfagaaGreat
open Go.RowKit
def DuB (S:RqSaid) (C:CoSaid S) (w W:World) (b d z:Nat) (bx:Obj) (lp ld:List Rq):Prop:=
 ∃X0 T X1 T1,DuoC S C w W b X0 T d X1 T1 lp ld∧W.heap[z]?=some bx∧z ∉ blk X0 T∧z ∉ blk X1 T1
def DuQ (S:RqSaid) (C:CoSaid S) (w W:World) (b d z:Nat) (bx:Obj) (lp ld:List Rq) (i dq:Nat):Prop:=
 ∃X0 T X1 T1 Y,DuoC S C w W b X0 T d X1 T1 lp ld∧W.heap[z]?=some bx∧z ∉ blk X0 T∧z ∉ blk X1 T1∧T[i]?=some (dq,Y)
section
variable {S:RqSaid} {C:CoSaid S} {w W W':World} {b d z i dq:Nat} {bx:Obj} {lp ld:List Rq} {c:Int} {q:Rq}
theorem lt_of_heap {W:World} {z:Nat} {o:Obj} (h:W.heap[z]?=some o):z < W.heap.size:=(Array.getElem?_eq_some_iff.1 h).1
theorem DuB.box (h:DuB S C w W b d z bx lp ld):W.heap[z]?=some bx:=by
 obtain⟨_,_,_,_,_,h1,_,_⟩:=h
 exact h1
theorem DuB.t (h:DuB S C w W b d z bx lp ld):Turned [] w W:=by
 obtain⟨_,_,_,_,h1,_,_,_⟩:=h
 exact h1.t
theorem DuB.later (h:DuB S C w W b d z bx lp ld) (t:Turned [] W W'):DuB S C w W' b d z bx lp ld:=by
 obtain⟨X0,T,X1,T1,h1,h2,h3,h4⟩:=h
 exact⟨X0,T,X1,T1,h1.later t,t.same h2 (by simp),h3,h4⟩
theorem DuB.boxed (h:DuB S C w W b d z bx lp ld) {y:Nat} {by_:Obj} (t:Turned [] W W') (hy:W'.heap[y]?=some by_) (hz:W.heap.size≤y):DuB S C w W' b d y by_ lp ld:=by
 obtain⟨X0,T,X1,T1,h1,h2,h3,h4⟩:=h
 exact⟨X0,T,X1,T1,h1.later t,hy,(h1.off hz).1,(h1.off hz).2⟩
theorem DuoC.putP {X0 X0' X1:List Nat} {T T' T1:List Tq} {l':List Rq} (h1:DuoC S C w W b X0 T d X1 T1 lp ld) (h2:W.heap[z]?=some bx) (h3:z ∉ blk X0 T) (h4:z ∉ blk X1 T1)
  (a:CAt C.Own S.At W' b X0' T' l') (t:Turned (blk X0 T) W W') (n:Newer (blk X0 T) W.heap.size (blk X0' T')):DuB S C w W' b d z bx l' ld:=
 ⟨X0',T',X1,T1,h1.prog a t n,t.same h2 h3,off_new h3 n (lt_of_heap h2),h4⟩
theorem DuoC.putD {X0 X1 X1':List Nat} {T T1 T1':List Tq} {l':List Rq} (h1:DuoC S C w W b X0 T d X1 T1 lp ld) (h2:W.heap[z]?=some bx) (h3:z ∉ blk X0 T) (h4:z ∉ blk X1 T1)
  (r:R17 W' d X1' T1' l') (t:Turned (blk X1 T1) W W') (n:Newer (blk X1 T1) W.heap.size (blk X1' T1')):DuB S C w W' b d z bx lp l':=
 ⟨X0,T,X1',T1',h1.doc r t n,t.same h2 h4,h3,off_new h4 n (lt_of_heap h2)⟩
theorem du_at (h:DuB S C w W b d z bx lp ld) (hq:ld[i]?=some q):∃g cap dq Y,W.cell? ⟨d,0,none⟩=some (.slice (some ⟨g,0,none⟩) ld.length cap)∧W.cell? ⟨g,i,none⟩=some (.pointer (some ⟨dq,0,none⟩))∧R16 W dq Y q∧
  ∀W' Y' q',R16 W' dq Y' q'→Turned Y W W'→Newer Y W.heap.size Y'→DuB S C w W' b d z bx lp (ld.set i q')∧W'.cell? ⟨d,0,none⟩=some (.slice (some ⟨g,0,none⟩) ld.length cap):=by
 obtain⟨X0,T,X1,T1,h1,h2,h3,h4⟩:=h
 obtain⟨a,cap,c0,_,hv⟩:=h1.ref.view
 obtain⟨g,dq,Y,rfl,hT,cp,r16⟩:=hv i q hq
 refine⟨g,cap,dq,Y,c0,cp,r16,fun W' Y' q' a t n=>?_⟩
 obtain⟨r,t',n'⟩:=h1.ref.set hT a t n
 exact⟨h1.putD h2 h3 h4 r t' n',t.cellX c0 fun hd=>h1.ref.off _ (mem_of_at hT) _ hd (LAt.head h1.ref.cs)⟩
theorem du_len (h:DuB S C w W b d z bx lp ld) (hl:0 < ld.length):∃g cap,W.cell? ⟨d,0,none⟩=some (.slice (some ⟨g,0,none⟩) ld.length cap):=by
 obtain⟨g,cap,_,_,c0,_⟩:=du_at h (i:=0) (List.getElem?_eq_getElem hl)
 exact⟨g,cap,c0⟩
theorem du_queue (h:DuB S C w W b d z bx lp ld) (hc:COk lp c) (h1:c≤10000) (hi:i < lp.length):
  Calls Tryz.prog 20 #[.pointer (some ⟨b,0,none⟩), .int .i64 i] W fun e w'=>∃dq,e= .returned (.pointer (some ⟨dq,0,none⟩))∧DuQ S C w w' b d z bx lp ld i dq:=by
 obtain⟨X0,T,X1,T1,h2,h3,h4,h5⟩:=h
 have hl:T.length=lp.length:=h2.at_.qs.len
 have hT:T[i]?=some (T[i]'(by omega)):=List.getElem?_eq_getElem (by omega)
 have:=hc.len
 refine (C.queue (i:Nat) h2.at_ hc h1 (by unfold isI;omega)).mono fun e w' hh=>?_
 refine⟨(T[i]'(by omega)).1,hh.1.trans ?_,X0,T,X1,T1,(T[i]'(by omega)).2,h2.later hh.2,hh.2.same h3 (by simp),h4,h5,hT⟩
 rw [if_neg (by omega),Int.toNat_natCast,hT]
 rfl
theorem du_add (h:DuB S C w W b d z bx lp ld) (hc:COk lp c) (h1:c≤10000) (core id v wt:Int) (i1:isI core) (i2:isI id) (i3:isI wt) (i4:Word v):
  Calls Tryz.prog 7 #[.pointer (some ⟨b,0,none⟩), .int .i64 core, .int .i64 id, .int .u64 v, .int .i64 wt] W fun e w'=>e= .returned (.tuple #[.int .u64 (addCV lp core id v wt), .int .i64 (addCE lp core id)])∧DuB S C w w' b d z bx (addC lp core id v wt) ld:=by
 obtain⟨X0,T,X1,T1,h2,h3,h4,h5⟩:=h
 refine (C.add core id v wt h2.at_ hc h1 i1 i2 i3 i4).mono fun e w' hh=>?_
 obtain⟨e1,X0',T',a',t',n'⟩:=hh
 exact⟨e1,h2.putP h3 h4 h5 a' t' n'⟩
theorem du_remove (h:DuB S C w W b d z bx lp ld) (hc:COk lp c) (h1:c≤10000) (id:Int) (i2:isI id):
  Calls Tryz.prog 9 #[.pointer (some ⟨b,0,none⟩), .int .i64 id] W fun e w'=>e= .returned (.tuple #[.int .u64 (remCV lp id), .bool (ofN lp id).isSome])∧DuB S C w w' b d z bx (remC lp id) ld:=by
 obtain⟨X0,T,X1,T1,h2,h3,h4,h5⟩:=h
 refine (C.remove id h2.at_ hc h1 i2).mono fun e w' hh=>?_
 obtain⟨e1,X0',T',a',t',n'⟩:=hh
 exact⟨e1,h2.putP h3 h4 h5 a' t' n'⟩
theorem du_move (h:DuB S C w W b d z bx lp ld) (hc:COk lp c) (h1:c≤10000) (id core:Int) (i1:isI id) (i2:isI core):
  Calls Tryz.prog 11 #[.pointer (some ⟨b,0,none⟩), .int .i64 id, .int .i64 core] W fun e w'=>e= .returned (.int .i64 (moveE lp id core))∧DuB S C w w' b d z bx (moveC lp id core) ld:=by
 obtain⟨X0,T,X1,T1,h2,h3,h4,h5⟩:=h
 refine (C.move id core h2.at_ hc h1 i1 i2).mono fun e w' hh=>?_
 obtain⟨e1,X0',T',a',t',n'⟩:=hh
 exact⟨e1,h2.putP h3 h4 h5 a' t' n'⟩
theorem du_bal (h:DuB S C w W b d z bx lp ld) (hc:COk lp c) (h1:c≤10000):
  Calls Tryz.prog 13 #[.pointer (some ⟨b,0,none⟩)] W fun e w'=>e= .returned (.tuple #[.int .i64 (balV lp).1, .int .i64 (balV lp).2.1, .int .i64 (balV lp).2.2, .bool (balC lp).isSome])∧DuB S C w w' b d z bx (balanceC lp) ld:=by
 obtain⟨X0,T,X1,T1,h2,h3,h4,h5⟩:=h
 refine (C.bal h2.at_ hc h1).mono fun e w' hh=>?_
 obtain⟨e1,X0',T',a',t',n'⟩:=hh
 exact⟨e1,h2.putP h3 h4 h5 a' t' n'⟩
theorem du_weigh (h:DuB S C w W b d z bx lp ld) (hc:COk lp c) (h1:c≤10000) (id wt:Int) (i1:isI id) (i2:isI wt):
  Calls Tryz.prog 16 #[.pointer (some ⟨b,0,none⟩), .int .i64 id, .int .i64 wt] W fun e w'=>e= .returned (.bool (ofN lp id).isSome)∧DuB S C w w' b d z bx (weighC lp id wt) ld:=by
 obtain⟨X0,T,X1,T1,h2,h3,h4,h5⟩:=h
 refine (C.weigh id wt h2.at_ hc h1 i1 i2).mono fun e w' hh=>?_
 obtain⟨e1,X0',T',a',t',n'⟩:=hh
 exact⟨e1,h2.putP h3 h4 h5 a' t' n'⟩
theorem du_settle (h:DuB S C w W b d z bx lp ld) (hc:COk lp c) (h1:c≤10000):
  Calls Tryz.prog 18 #[.pointer (some ⟨b,0,none⟩)] W fun e w'=>e= .returned (.tuple #[])∧DuB S C w w' b d z bx (lp.map Rq.settle) ld:=by
 obtain⟨X0,T,X1,T1,h2,h3,h4,h5⟩:=h
 refine (C.settle h2.at_ hc h1).mono fun e w' hh=>?_
 obtain⟨e1,X0',T',a',t',n'⟩:=hh
 exact⟨e1,h2.putP h3 h4 h5 a' t' n'⟩
theorem du_radd (h:DuB S C w W b d z bx lp ld) (hc:COk ld c) (core id v wt:Int):
  Calls Tryz.prog 8 #[.pointer (some ⟨d,0,none⟩), .int .i64 core, .int .i64 id, .int .u64 v, .int .i64 wt] W fun e w'=>e= .returned (.tuple #[.int .u64 (addCV ld core id v wt), .int .i64 (addCE ld core id)])∧DuB S C w w' b d z bx lp (addC ld core id v wt):=by
 obtain⟨X0,T,X1,T1,h2,h3,h4,h5⟩:=h
 refine (rcadd_any h2.ref hc core id v wt).mono fun e w' hh=>?_
 obtain⟨e1,T',a',t',n'⟩:=hh
 exact⟨e1,h2.putD h3 h4 h5 a' t' n'⟩
theorem du_rremove (h:DuB S C w W b d z bx lp ld) (hc:COk ld c) (id:Int):
  Calls Tryz.prog 10 #[.pointer (some ⟨d,0,none⟩), .int .i64 id] W fun e w'=>e= .returned (.tuple #[.int .u64 (remCV ld id), .bool (ofN ld id).isSome])∧DuB S C w w' b d z bx lp (remC ld id):=by
 obtain⟨X0,T,X1,T1,h2,h3,h4,h5⟩:=h
 refine (rcrem_any h2.ref hc id).mono fun e w' hh=>?_
 obtain⟨e1,T',a',t',n'⟩:=hh
 exact⟨e1,h2.putD h3 h4 h5 a' t' n'⟩
theorem du_rmove (h:DuB S C w W b d z bx lp ld) (hc:COk ld c) (id core:Int):
  Calls Tryz.prog 12 #[.pointer (some ⟨d,0,none⟩), .int .i64 id, .int .i64 core] W fun e w'=>e= .returned (.int .i64 (moveE ld id core))∧DuB S C w w' b d z bx lp (moveC ld id core):=by
 obtain⟨X0,T,X1,T1,h2,h3,h4,h5⟩:=h
 refine (rcmv_any h2.ref hc id core).mono fun e w' hh=>?_
 obtain⟨e1,T',a',t',n'⟩:=hh
 exact⟨e1,h2.putD h3 h4 h5 a' t' n'⟩
theorem du_rbal (h:DuB S C w W b d z bx lp ld) (hc:COk ld c):
  Calls Tryz.prog 14 #[.pointer (some ⟨d,0,none⟩)] W fun e w'=>e= .returned (.tuple #[.int .i64 (balV ld).1, .int .i64 (balV ld).2.1, .int .i64 (balV ld).2.2])∧DuB S C w w' b d z bx lp (balanceC ld):=by
 obtain⟨X0,T,X1,T1,h2,h3,h4,h5⟩:=h
 refine (rcbal_any h2.ref hc).mono fun e w' hh=>?_
 obtain⟨e1,T',a',t',n'⟩:=hh
 exact⟨e1,h2.putD h3 h4 h5 a' t' n'⟩
theorem du_rof (h:DuB S C w W b d z bx lp ld) (id:Int):
  Calls Tryz.prog 15 #[.pointer (some ⟨d,0,none⟩), .int .i64 id] W fun e w'=>e= .returned (.int .i64 (ofC ld id))∧w'=W:=by
 obtain⟨X0,T,X1,T1,h2,h3,h4,h5⟩:=h
 exact (rcof_any h2.ref id).mono fun e w' hh=>⟨hh.1,hh.2.symm⟩
theorem du_pick (h:DuQ S C w W b d z bx lp ld i dq) (hc:COk lp c) (h1:c≤10000) (hq:lp[i]?=some q):
  Calls Tryz.prog 21 #[.pointer (some ⟨dq,0,none⟩)] W fun e w'=>e= .returned (.tuple #[.int .i64 (pickV q), .bool (decide (0≤pickV q))])∧DuB S C w w' b d z bx (lp.set i q.pick) ld:=by
 obtain⟨X0,T,X1,T1,Y,h2,h3,h4,h5,hT⟩:=h
 refine (S.pick (h2.at_.qs.at_ i _ q hT hq) (hc.ok q (mem_at hq)) h1).mono fun e w' hh=>?_
 obtain⟨e1,Y',a',t',n'⟩:=hh
 obtain⟨a2,t2,n2⟩:=h2.at_.turn hT hq a' (wts_l (pick_l q)) t' n'
 exact⟨e1,h2.putP h3 h4 h5 a2 t2 n2⟩
theorem du_back (h:DuQ S C w W b d z bx lp ld i dq) (hc:COk lp c) (h1:c≤10000) (hq:lp[i]?=some q):
  Calls Tryz.prog 23 #[.pointer (some ⟨dq,0,none⟩)] W fun e w'=>e= .returned (.tuple #[.int .i64 q.cur, .bool (decide (0≤q.cur))])∧DuB S C w w' b d z bx (lp.set i q.back) ld:=by
 obtain⟨X0,T,X1,T1,Y,h2,h3,h4,h5,hT⟩:=h
 refine (S.back (h2.at_.qs.at_ i _ q hT hq) (hc.ok q (mem_at hq)) h1).mono fun e w' hh=>?_
 obtain⟨e1,Y',a',t',n'⟩:=hh
 obtain⟨a2,t2,n2⟩:=h2.at_.turn hT hq a' (wts_l (back_l q)) t' n'
 exact⟨e1,h2.putP h3 h4 h5 a2 t2 n2⟩
theorem du_tick (h:DuQ S C w W b d z bx lp ld i dq) (hc:COk lp c) (h1:c≤10000) (hq:lp[i]?=some q):
  Calls Tryz.prog 25 #[.pointer (some ⟨dq,0,none⟩)] W fun e w'=>e= .returned (.tuple #[.int .i64 q.cur, .bool (decide (0≤q.cur))])∧DuB S C w w' b d z bx (lp.set i q.tick) ld:=by
 obtain⟨X0,T,X1,T1,Y,h2,h3,h4,h5,hT⟩:=h
 refine (S.tick (h2.at_.qs.at_ i _ q hT hq) (hc.ok q (mem_at hq)) h1).mono fun e w' hh=>?_
 obtain⟨e1,Y',a',t',n'⟩:=hh
 obtain⟨a2,t2,n2⟩:=h2.at_.turn hT hq a' (tick_wts q) t' n'
 exact⟨e1,h2.putP h3 h4 h5 a2 t2 n2⟩
theorem du_start {V0 V1 V2:World} {X1:List Nat} {T1:List Tq} {l:List Rq} (t0:Turned [] w V0) (hb:V0.heap[z]?=some bx) (a:CoOn S C V0 V1 b l) (r:R17 V2 d X1 T1 l) (t2:Turned [] V1 V2) (n2:∀k ∈ blk X1 T1,V1.heap.size≤k):DuB S C w V2 b d z bx l l:=by
 obtain⟨X0,T,h1,t1,n1⟩:=a
 have s0:=t0.size
 have s1:=t1.size
 have hz:=lt_of_heap hb
 refine⟨X0,T,X1,T1,⟨h1.keep0 t2,r,fun k hk hy=>?_,fun k hk=>?_,fun k hk=>?_,(t0.also t1).also t2⟩,(t1.also t2).same hb (by simp),fun hx=>?_,fun hx=>?_⟩
 ·have:=h1.all_lt k hk
  have:=n2 k hy
  omega
 ·have:=n1 k hk
  omega
 ·have:=n2 k hk
  omega
 ·have:=n1 z hx
  omega
 ·have:=n2 z hx
  omega
end
end Go.Proofs.YtfmciiffcmfagaaGreat
namespace Go.Proofs.YtfmciiffcmfagaaGreat
open Go.RowKit
structure SqK (S:RqSaid) (C:CoSaid S) (w:World) (cb:Nat) (X0:List Nat) (T:List Tq) (l:List Rq) (d:Nat) (Y:List Nat) (q:Rq) (a:Option Addr) (cap:Nat) (V:World):Prop where
 at_:CAt C.Own S.At V cb X0 T l
 ref:R16 V d Y q
 blk:V.heap[d]?=some (.cells #[.int .i64 q.g, .int .u64 q.f, .slice a q.l.length cap, .int .i64 q.cur, .int .i64 q.ran] tQ16 (0,0))
 t:Turned [] w V
section
variable {S:RqSaid} {C:CoSaid S} {w V V':World} {cb d:Nat} {X0 Y:List Nat} {T:List Tq} {l:List Rq} {q:Rq} {a:Option Addr} {cap:Nat}
theorem SqK.keep (h:SqK S C w cb X0 T l d Y q a cap V) (t:Turned [] V V'):SqK S C w cb X0 T l d Y q a cap V':=
 ⟨h.at_.keep0 t,LAt.keep h.ref t (by simp),t.same h.blk (by simp),h.t.trans t (Newer.refl _ _)⟩
theorem SqK.start (h:CAt C.Own S.At w cb X0 T l) (hr:R16 w d Y q):∃a cap,SqK S C w cb X0 T l d Y q a cap w:=by
 obtain⟨v,h1,h2,h3⟩:=id hr
 obtain⟨a,cap,rfl,_,_⟩:=ownsRow_shape h2
 exact⟨a,cap,h,hr,h1,Turned.refl _ _⟩
theorem SqK.view (h:SqK S C w cb X0 T l d Y q a cap V):V.cell? ⟨d,1,none⟩=some (.int .u64 q.f)∧V.cell? ⟨d,2,none⟩=some (.slice a q.l.length cap)∧V.cell? ⟨d,3,none⟩=some (.int .i64 q.cur)∧V.cell? ⟨d,4,none⟩=some (.int .i64 q.ran)∧SqK S C w cb X0 T l d Y q a cap V:=by
 obtain⟨_,c1,c2,c3,c4,_⟩:=cells5q h.blk
 exact⟨c1,c2,c3,c4,h⟩
theorem SqK.task (h:SqK S C w cb X0 T l d Y q a cap V) {k:Nat} (hk:k < q.l.length):∃g,a=some ⟨g,0,none⟩∧V.cell? ⟨g,k*3,none⟩=some (.int .i64 q.l[k].1)∧V.cell? ⟨g,k*3+1,none⟩=some (.int .u64 q.l[k].2.1)∧V.cell? ⟨g,k*3+2,none⟩=some (.int .i64 q.l[k].2.2):=by
 obtain⟨g,cap',e2,t0,t1,t2,_,_⟩:=h.ref.task hk
 obtain⟨_,c2,_⟩:=h.view
 rw [c2] at e2
 simp only [Option.some.injEq,Value.slice.injEq] at e2
 exact⟨g,e2.1,t0,t1,t2⟩
end
theorem sameq_any (S:RqSaid) (C:CoSaid S) {w:World} {cb d:Nat} {X0 Y:List Nat} {T:List Tq} {l:List Rq} {c:Int} (h:CAt C.Own S.At w cb X0 T l) (hc:COk l c) (hc1:c≤10000) {i:Nat} {q:Rq} (hi:l[i]?=some q) (hr:R16 w d Y q) (hI:∀x ∈ q.l,isI x.1):
  Calls Tryz.prog 60 #[.pointer (some ⟨cb,0,none⟩), .pointer (some ⟨d,0,none⟩), .int .i64 i] w fun e w'=>e= .returned (.bool true)∧Turned [] w w':=by
 obtain⟨a,cap,k0⟩:=SqK.start h hr
 have hq:=hc.ok q (mem_at hi)
 have hil:i < l.length:=(List.getElem?_eq_some_iff.1 hi).1
 have hii:isI i:=by
  have:=hc.len
  unfold isI
  omega
 have hTi:T[i]?=some (T[i]'(by have:=h.qs.len;omega)):=List.getElem?_eq_getElem _
 obtain⟨x,hx⟩:∃x,T[i]'(by have:=h.qs.len;omega)=x:=⟨_,rfl⟩
 rw [hx] at hTi
 obtain⟨b,X⟩:=x
 have PQ:Hid (Calls Tryz.prog 20 #[.pointer (some ⟨cb,0,none⟩), .int .i64 i] w fun e w'=>e= .returned (.pointer (some ⟨b,0,none⟩))∧SqK S C w cb X0 T l d Y q a cap w'):=xhd ((C.queue i h hc hc1 hii).mono fun e w' hh=>by
  refine⟨hh.1.trans ?_,k0.keep hh.2⟩
  rw [if_neg (by omega),Int.toNat_natCast,hTi]
  rfl)
 have AT:=fun V (hk:SqK S C w cb X0 T l d Y q a cap V)=>hk.at_.qs.at_ i _ q hTi hi
 have PCU:=xhd (fun V (hk:SqK S C w cb X0 T l d Y q a cap V)=>(S.current (AT V hk) hq hc1).mono fun e w' hh=>(⟨hh.1,hk.keep hh.2⟩:_∧SqK S C w cb X0 T l d Y q a cap w'))
 have PFL:=xhd (fun V (hk:SqK S C w cb X0 T l d Y q a cap V)=>(S.floor (AT V hk) hq hc1).mono fun e w' hh=>(⟨hh.1,hk.keep hh.2⟩:_∧SqK S C w cb X0 T l d Y q a cap w'))
 have PLN:=xhd (fun V (hk:SqK S C w cb X0 T l d Y q a cap V)=>(S.len (AT V hk) hq hc1).mono fun e w' hh=>(⟨hh.1,hk.keep hh.2⟩:_∧SqK S C w cb X0 T l d Y q a cap w'))
 have PVV:Hid (∀V,SqK S C w cb X0 T l d Y q a cap V→∀k (hk:k < q.l.length) (x:Int×Int×Int),q.l[k]=x→Calls Tryz.prog 62 #[.pointer (some ⟨b,0,none⟩), .int .i64 x.1] V fun e w'=>e= .returned (.tuple #[.int .u64 x.2.1, .bool true])∧SqK S C w cb X0 T l d Y q a cap w'∧Turned [] V w'):=xhd fun V hV k hk x hx=>by
  subst hx
  refine (S.vv q.l[k].1 (AT V hV) hq hc1 (hI _ (List.getElem_mem hk))).mono ?_
  rintro e w' ⟨he,ht⟩
  have e1:=find_at hq.uniq hk rfl
  refine⟨he.trans ?_,hV.keep ht,ht⟩
  unfold remV
  rw [e1]
  rfl
 have HL:=xhd hq.len
 clear h hr hc hc1 hi hI hq AT hx hTi k0 hii hil
 go_enter Tryz.func60,Tryz.ntmps60
 go_wp2_with fail
 with_reducible refine PQ.out.mono ?_
 rintro e w0 ⟨rfl,k0⟩
 have K0:=xhd k0
 clear k0 PQ
 go_wp2_with fail
 with_reducible refine (PCU.out _ K0.out).mono ?_
 rintro e w1 ⟨rfl,k1⟩
 have HK1:=xhd k1
 clear k1
 go_wp2_with fail
 obtain⟨c1,c2,c3,c4,ck⟩:=(HK1.out.keep ((Turned.refl [] w1).drew)).view
 go_region_held3 (fun V=>V.cell? ⟨d,1,none⟩=some (.int .u64 q.f)∧V.cell? ⟨d,2,none⟩=some (.slice a q.l.length cap)∧V.cell? ⟨d,3,none⟩=some (.int .i64 q.cur)∧V.cell? ⟨d,4,none⟩=some (.int .i64 q.ran)∧SqK S C w cb X0 T l d Y q a cap V)
  (first|exact⟨c1,c2,c3,c4,ck⟩ |exact (ck.keep ((Turned.refl [] _).drew)).view)
  (first
    |(go_at_call 72;with_reducible refine (PFL.out _ ck).mono ?_;rintro e w' ⟨rfl,kk⟩;obtain⟨c1,c2,c3,c4,ck⟩:=kk.view)
    |(go_at_call 64;with_reducible refine (PLN.out _ ck).mono ?_;rintro e w' ⟨rfl,kk⟩;obtain⟨c1,c2,c3,c4,ck⟩:=kk.view)
    |fail)
 clear K0 PCU PFL PLN HK1 c1 c3 c4
 have HCK:=xhd ck
 clear ck
 have hl:=HL.out
 go_wp2
 go_loopw [62] (fun iv W=>∃k:Nat,k≤q.l.length∧iv= .int .i64 k∧Hid (SqK S C w cb X0 T l d Y q a cap W)) (fun iv _=>q.l.length - (intOf iv).toNat)
 case atStart=>exact⟨0,Nat.zero_le _,rfl,HCK⟩
 case round=>
  clear HCK c2
  obtain⟨k,hk,rfl,HK⟩:=hrel
  by_cases hlt:k < q.l.length
  ·have hkl:k < q.l.length:=hlt
   have HLT:=xhd hlt
   obtain⟨g,rfl,r0,r1,r2⟩:=HK.out.task hkl
   have hx:∃x:Int×Int×Int,q.l[k]=x:=⟨_,rfl⟩
   obtain⟨⟨x1,x2,x3⟩,hx⟩:=hx
   replace r0:wr.cell? ⟨g,k*3,none⟩=some (.int .i64 x1):=r0.trans (congrArg (fun x:Int×Int×Int=>some (Value.int .i64 x.1)) hx)
   replace r1:wr.cell? ⟨g,k*3+1,none⟩=some (.int .u64 x2):=r1.trans (congrArg (fun x:Int×Int×Int=>some (Value.int .u64 x.2.1)) hx)
   replace r2:wr.cell? ⟨g,k*3+2,none⟩=some (.int .i64 x3):=r2.trans (congrArg (fun x:Int×Int×Int=>some (Value.int .i64 x.2.2)) hx)
   have PV:=xhd (fun V hV=>PVV.out V hV k hkl _ hx)
   have i0:(0:Int)≤k:=by omega
   have i1:(k:Int) < q.l.length:=by omega
   clear hx hkl hk hlt
   go_wp2_with fail
   have T1:=xhd ((Turned.refl [] wr).alloc (.cells #[.int .i64 x1, .int .u64 x2, .int .i64 x3] tT16))
   have B1:Hid ((wr.alloc (.cells #[.int .i64 x1, .int .u64 x2, .int .i64 x3] tT16)).heap[wr.heap.size]?=_):=xhd (heap_alloc_new wr (.cells #[.int .i64 x1, .int .u64 x2, .int .i64 x3] tT16))
   clear r0 r1 r2
   generalize wr.alloc (.cells #[.int .i64 x1, .int .u64 x2, .int .i64 x3] tT16)=V1 at T1 B1 ⊢
   generalize wr.heap.size=z at B1 ⊢
   obtain⟨p0,p1,p2⟩:=part3 B1.out
   go_wp2_with fail
   with_reducible refine (PV.out V1 (HK.out.keep T1.out)).mono ?_
   rintro e V2 ⟨rfl,hk2,t2⟩
   have HK2:=xhd hk2
   have B2:=xhd (t2.same B1.out (by simp))
   clear hk2 t2 p0 p1 p2
   obtain⟨p0,p1,p2⟩:=part3 B2.out
   go_wp2
   go_roundw
   case rel=>exact⟨k+1,HLT.out,by go_num,HK2⟩
   case measure=>have:=HLT.out;simp [intOf];omega
  ·have hkn:k=q.l.length:=by omega
   subst hkn
   go_wp2
   go_ret
   exact⟨rfl,HK.out.t⟩
end Go.Proofs.YtfmciiffcmfagaaGreat
namespace Go.Proofs.YtfmciiffcmfagaaGreat
open Go.RowKit
structure SaK (S:RqSaid) (C:CoSaid S) (w:World) (cb:Nat) (X0:List Nat) (T:List Tq) (l:List Rq) (d:Nat) (X1:List Nat) (T1:List Tq) (gd capd gl:Nat) (V:World):Prop where
 at_:CAt C.Own S.At V cb X0 T l
 ref:R17 V d X1 T1 l
 hd:V.cell? ⟨d,0,none⟩=some (.slice (some ⟨gd,0,none⟩) l.length capd)
 el:∀(i:Nat) (q:Rq),l[i]?=some q→∃dq Yq,V.cell? ⟨gd,i,none⟩=some (.pointer (some ⟨dq,0,none⟩))∧T1[i]?=some (dq,Yq)
 ld:∀(i:Nat) (q:Rq),l[i]?=some q→V.cell? ⟨gl,i,none⟩=some (.int .i64 (loadQ q))
 t:Turned [] w V
section
variable {S:RqSaid} {C:CoSaid S} {w V V':World} {cb d gd capd gl:Nat} {X0 X1:List Nat} {T T1:List Tq} {l:List Rq}
theorem SaK.keep (h:SaK S C w cb X0 T l d X1 T1 gd capd gl V) (t:Turned [] V V'):SaK S C w cb X0 T l d X1 T1 gd capd gl V':=
 ⟨h.at_.keep0 t,h.ref.keep t (by simp),t.cell0 h.hd,fun i q hq=>by
   obtain⟨dq,Yq,e1,e2⟩:=h.el i q hq
   exact⟨dq,Yq,t.cell0 e1,e2⟩,fun i q hq=>t.cell0 (h.ld i q hq),h.t.also t⟩
theorem SaK.both (h:SaK S C w cb X0 T l d X1 T1 gd capd gl V):V.cell? ⟨d,0,none⟩=some (.slice (some ⟨gd,0,none⟩) l.length capd)∧SaK S C w cb X0 T l d X1 T1 gd capd gl V:=⟨h.hd,h⟩
end
theorem same17_any (S:RqSaid) (C:CoSaid S) {w:World} {cb d:Nat} {X0 X1:List Nat} {T T1:List Tq} {l:List Rq} {c:Int} (h:CAt C.Own S.At w cb X0 T l) (hr:R17 w d X1 T1 l) (hc:COk l c) (hc1:c≤10000) (hI:∀q ∈ l,∀x ∈ q.l,isI x.1) (id:Int) (hid:isI id):
  Calls Tryz.prog 27 #[.pointer (some ⟨cb,0,none⟩), .pointer (some ⟨d,0,none⟩), .int .i64 id] w fun e w'=>e= .returned (.bool true)∧Turned [] w w':=by
 have hlen:=hc.len
 have h0:l[0]?=some l[0]:=List.getElem?_eq_getElem (by omega)
 have PLD:Hid (Calls Tryz.prog 28 #[.pointer (some ⟨cb,0,none⟩)] w fun e w'=>∃gl cap gd capd,e= .returned (.slice (some ⟨gl,0,none⟩) l.length cap)∧SaK S C w cb X0 T l d X1 T1 gd capd gl w'):=xhd ((C.loads h hc hc1).mono fun e w' hh=>by
  obtain⟨gl,cap,e1,t,_,_,_,hcell⟩:=hh
  obtain⟨a,capd,c0,_,hv⟩:=(hr.keep t (by simp)).view
  obtain⟨gd,_,_,rfl,_,_,_⟩:=hv 0 _ h0
  refine⟨gl,cap,gd,capd,e1,h.keep0 t,hr.keep t (by simp),c0,fun i q hq=>?_,hcell,t⟩
  obtain⟨g',dq,Yq,hg,h1,h2,_⟩:=hv i q hq
  cases hg
  exact⟨dq,Yq,h2,h1⟩)
 have POF:=xhd (fun gd capd gl V (hk:SaK S C w cb X0 T l d X1 T1 gd capd gl V)=>(C.of id hk.at_ hc hc1 hid).mono fun e w' hh=>(⟨hh.1,hk.keep hh.2⟩:_∧SaK S C w cb X0 T l d X1 T1 gd capd gl w'))
 have PLN:=xhd (fun gd capd gl V (hk:SaK S C w cb X0 T l d X1 T1 gd capd gl V)=>(C.len hk.at_ hc hc1).mono fun e w' hh=>(⟨hh.1,hk.keep hh.2⟩:_∧SaK S C w cb X0 T l d X1 T1 gd capd gl w'))
 have ROF:=xhd (fun gd capd gl V (hk:SaK S C w cb X0 T l d X1 T1 gd capd gl V)=>(rcof_any hk.ref id).mono fun e w' hh=>(⟨hh.1,hh.2 ▸ hk⟩:_∧SaK S C w cb X0 T l d X1 T1 gd capd gl w'))
 have PQN:Hid (∀gd capd gl V,SaK S C w cb X0 T l d X1 T1 gd capd gl V→Calls Tryz.prog 20 #[.pointer (some ⟨cb,0,none⟩), .int .i64 (-1)] V fun e w'=>e= .returned (.pointer none)∧SaK S C w cb X0 T l d X1 T1 gd capd gl w'):=xhd fun gd capd gl V hk=>(C.queue (-1) hk.at_ hc hc1 ⟨by decide,by decide⟩).mono fun e w' hh=>⟨hh.1.trans (by rw [if_pos (by decide)]),hk.keep hh.2⟩
 have PQE:Hid (∀gd capd gl V,SaK S C w cb X0 T l d X1 T1 gd capd gl V→Calls Tryz.prog 20 #[.pointer (some ⟨cb,0,none⟩), .int .i64 (l.length:Nat)] V fun e w'=>e= .returned (.pointer none)∧SaK S C w cb X0 T l d X1 T1 gd capd gl w'):=xhd fun gd capd gl V hk=>(C.queue (l.length:Nat) hk.at_ hc hc1 (by unfold isI;omega)).mono fun e w' hh=>⟨hh.1.trans (by
  have:T.length=l.length:=h.qs.len
  rw [if_neg (by omega),Int.toNat_natCast,List.getElem?_eq_none (by omega)]
  rfl),hk.keep hh.2⟩
 have RLD:Hid (∀gd capd gl V,SaK S C w cb X0 T l d X1 T1 gd capd gl V→∀i q dq Yq,l[i]?=some q→T1[i]?=some (dq,Yq)→Calls Tryz.prog 46 #[.pointer (some ⟨dq,0,none⟩)] V fun e w'=>e= .returned (.int .i64 (loadQ q))∧SaK S C w cb X0 T l d X1 T1 gd capd gl w'):=xhd fun gd capd gl V hk i q dq Yq hq hT=>
  (rload_any (hk.ref.qs.at_ i _ _ hT hq) (Nat.le_trans (hc.ok q (mem_at hq)).len (by decide)) (hc.ok q (mem_at hq)).wt).mono fun e w' hh=>⟨hh.1,hh.2 ▸ hk⟩
 have SQ:Hid (∀gd capd gl V,SaK S C w cb X0 T l d X1 T1 gd capd gl V→∀(i:Nat) q dq Yq,l[i]?=some q→T1[i]?=some (dq,Yq)→Calls Tryz.prog 60 #[.pointer (some ⟨cb,0,none⟩), .pointer (some ⟨dq,0,none⟩), .int .i64 i] V fun e w'=>e= .returned (.bool true)∧SaK S C w cb X0 T l d X1 T1 gd capd gl w'):=xhd fun gd capd gl V hk i q dq Yq hq hT=>
  (sameq_any S C hk.at_ hc hc1 hq (hk.ref.qs.at_ i _ _ hT hq) (hI q (mem_at hq))).mono fun e w' hh=>⟨hh.1,hk.keep hh.2⟩
 have HAT:Hid (∀i,i < l.length→∃q,l[i]?=some q):=xhd fun i hi=>⟨_,List.getElem?_eq_getElem hi⟩
 clear h hr hc hc1 hI h0 hid
 generalize ofC l id=oc at POF ROF
 go_enter Tryz.func27,Tryz.ntmps27
 go_wp2_with fail
 with_reducible refine PLD.out.mono ?_
 rintro e w1 ⟨gl,cap,gd,capd,rfl,k1⟩
 have POF:=xhd (POF.out gd capd gl)
 have PLN:=xhd (PLN.out gd capd gl)
 have ROF:=xhd (ROF.out gd capd gl)
 have HK1:=xhd k1
 clear k1
 go_wp2_with fail
 obtain⟨c0,ck⟩:=(HK1.out.keep ((Turned.refl [] w1).drew)).both
 go_region_held3 (fun V=>V.cell? ⟨d,0,none⟩=some (.slice (some ⟨gd,0,none⟩) l.length capd)∧SaK S C w cb X0 T l d X1 T1 gd capd gl V)
  (first|exact⟨c0,ck⟩ |exact (ck.keep ((Turned.refl [] _).drew)).both)
  (first
    |(go_at_call 29;with_reducible refine (POF.out _ ck).mono ?_;rintro e w' ⟨rfl,kk⟩;obtain⟨c0,ck⟩:=kk.both)
    |(go_at_call 15;with_reducible refine (ROF.out _ ck).mono ?_;rintro e w' ⟨rfl,kk⟩;obtain⟨c0,ck⟩:=kk.both)
    |(go_at_call 30;with_reducible refine (PLN.out _ ck).mono ?_;rintro e w' ⟨rfl,kk⟩;obtain⟨c0,ck⟩:=kk.both)
    |fail)
 have HCK:=xhd ck
 clear ck HK1 POF PLN ROF
 go_wp2
 go_loopw [44] (fun iv W=>∃k:Nat,k≤l.length∧iv= .int .i64 k∧Hid (SaK S C w cb X0 T l d X1 T1 gd capd gl W)) (fun iv _=>l.length - (intOf iv).toNat)
 case atStart=>exact⟨0,Nat.zero_le _,rfl,HCK⟩
 case round=>
  clear HCK c0
  obtain⟨k,hk,rfl,HK⟩:=hrel
  by_cases hlt:k < l.length
  ·have HLT:=xhd hlt
   obtain⟨q,hq⟩:=HAT.out k hlt
   have HQ:=xhd hq
   obtain⟨dq,Yq,p0,hT⟩:=HK.out.el k q hq
   have RL:=xhd (fun V hV=>RLD.out gd capd gl V hV k q dq Yq hq hT)
   have SQ1:=xhd (fun V hV=>SQ.out gd capd gl V hV k q dq Yq hq hT)
   generalize hlq:loadQ q=lq at RL
   have HB:=xhd (fun V (hV:SaK S C w cb X0 T l d X1 T1 gd capd gl V)=>(⟨hlq ▸ hV.ld k q HQ.out,hV⟩:V.cell? ⟨gl,k,none⟩=some (.int .i64 lq)∧SaK S C w cb X0 T l d X1 T1 gd capd gl V))
   have i0:(0:Int)≤k:=by omega
   have i1:(k:Int) < l.length:=by omega
   clear hq hT hlq
   go_wp2_with fail
   obtain⟨c0,ck⟩:=HB.out _ (HK.out.keep ((Turned.refl [] wr).drew))
   go_region_held3 (fun V=>V.cell? ⟨gl,k,none⟩=some (.int .i64 lq)∧SaK S C w cb X0 T l d X1 T1 gd capd gl V)
    (first|exact⟨c0,ck⟩ |exact HB.out _ (ck.keep ((Turned.refl [] _).drew)))
    (first
      |(go_at_call 46;with_reducible refine (RL.out _ ck).mono ?_;rintro e w' ⟨rfl,kk⟩;obtain⟨c0,ck⟩:=HB.out _ kk)
      |(go_at_call 60;with_reducible refine (SQ1.out _ ck).mono ?_;rintro e w' ⟨rfl,kk⟩;obtain⟨c0,ck⟩:=HB.out _ kk)
      |fail)
   have HCK:=xhd ck
   clear ck c0
   go_wp2
   go_roundw
   case rel=>exact⟨k+1,HLT.out,by go_num,HCK⟩
   case measure=>have:=HLT.out;simp [intOf];omega
  ·have hkn:k=l.length:=by omega
   subst hkn
   have c0:=HK.out.hd
   go_wp2_with fail
   with_reducible refine (PQN.out gd capd gl _ HK.out).mono ?_
   rintro e w2 ⟨rfl,k2⟩
   have HK2:=xhd k2
   have c0:=HK2.out.hd
   clear k2
   go_wp2_with fail
   with_reducible refine (PQE.out gd capd gl _ HK2.out).mono ?_
   rintro e w3 ⟨rfl,k3⟩
   have HK3:=xhd k3
   clear k3
   go_wp2
   go_ret
   exact⟨rfl,HK3.out.t⟩
end Go.Proofs.YtfmciiffcmfagaaGreat
