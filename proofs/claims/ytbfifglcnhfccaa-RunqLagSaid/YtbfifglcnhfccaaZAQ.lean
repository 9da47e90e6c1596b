/-
  A function that may have no answer, turned at one place. No program.
  A map from whole numbers to whole numbers (map[int]int) in memory, told by a function that may have no answer; put, delete, look up.
  RunqLag's map of weights, beside the queue.
  RunqLag: the walk, given what is said of the program's queues and of its unit. (Made by gen_rqlag.py.)
-/
import Derived.Test.YtbfifglcnhfccaaChecked
import Derived.Test.YtbfifglcnhfccaaZAB
import Derived.Lib.Hide
import Derived.Maps.OwnSet
import Derived.Deep.QuietTactic
import Derived.BigQuiet
import Derived.Deep.RegionLaw
import Derived.Test.YtbfifglcnhfccaaZAH
import Derived.Test.YtbfifglcnhfccaaZAG
import Derived.Test.YtbfifglcnhfccaaZAO
import Derived.Maps.RangeWalk
import Derived.OwnWalk
import Derived.Test.YtbfifglcnhfccaaZAl
set_option maxRecDepth 100000
set_option maxHeartbeats 25600000
namespace Go.Proofs.Ytbfifglcnhfccaa
def updF (f:Int→Option Int) (i:Int) (v:Option Int):Int→Option Int:=fun k=>if k=i then v else f k
theorem updF_same (f:Int→Option Int) (i:Int) (v:Option Int):updF f i v i=v:=by simp [updF]
theorem updF_other {f:Int→Option Int} {i k:Int} {v:Option Int} (h:k≠i):updF f i v k=f k:=by simp [updF,h]
end Go.Proofs.Ytbfifglcnhfccaa
namespace Go.Proofs.Ytbfifglcnhfccaa
open Go.RowKit Go.Maps
abbrev tN:TypeId:=3
theorem lawN:Keyed Try.prog tN:=int_keyed Try.underlying3
abbrev litN (i:Int):Lit:= .int .i64 i
theorem litN_ne {i k:Int} (h:k≠i):litN k≠litN i:=fun e=>h (by cases e;rfl)
structure ReadsF (D:DataW Unit) (f:Int→Option Int):Prop where
 isMap:IsMap D
 has:∀i,Maps.has D (litN i)=(f i).isSome
 at_:∀i v,f i=some v→D.atKey (litN i) (.lit (litN 0))= .lit (litN v)
theorem ReadsF.empty:ReadsF (.map []) (fun _=>none):=⟨isMap_empty,fun _=>rfl,fun _ _ h=>by cases h⟩
theorem ReadsF.put {D:DataW Unit} {f:Int→Option Int} (h:ReadsF D f) (i v:Int):ReadsF (D.put (litN i) (.lit (litN v))) (updF f i (some v)):=by
 refine⟨h.isMap.put _ _,fun k=>?_,fun k u hk=>?_⟩
 ·by_cases e:k=i
  ·subst e
   rw [has_put_same (k:=litN k) h.isMap trivial,updF_same]
   rfl
  ·rw [has_put_other (litN_ne e),updF_other e]
   exact h.has k
 ·by_cases e:k=i
  ·subst e
   rw [updF_same] at hk
   cases hk
   exact atKey_put_same (k:=litN k) h.isMap trivial _ _
  ·rw [updF_other e] at hk
   rw [atKey_put_other (litN_ne e)]
   exact h.at_ k u hk
theorem ReadsF.del {D:DataW Unit} {f:Int→Option Int} (h:ReadsF D f) (i:Int):ReadsF (D.del (litN i)) (updF f i none):=by
 refine⟨h.isMap.del _,fun k=>?_,fun k u hk=>?_⟩
 ·by_cases e:k=i
  ·subst e
   rw [has_del_same,updF_same]
   rfl
  ·rw [has_del_other (litN_ne e),updF_other e]
   exact h.has k
 ·by_cases e:k=i
  ·subst e
   rw [updF_same] at hk
   cases hk
  ·rw [updF_other e] at hk
   rw [atKey_del_other (litN_ne e)]
   exact h.at_ k u hk
section
variable {P:Program} {k:TypeId} {R:Value→Option (DataW Unit×List MemPlace)} {w w':World} {b n:Nat} {D:DataW Unit}
theorem ownsMap_same (h:w.ownsMap P k R b n D) (hs:w'.heap[b]?=w.heap[b]?):w'.ownsMap P k R b n D:=by
 obtain⟨es,clock,hb,r⟩:=h
 exact⟨es,clock,hs.trans hb,r⟩
end
section
variable (w:World) {ops:Array Oper} {o:Oper} {a:Act} {K:Act→World→Prop} {Q:Exit→Act→World→Prop} {E:Prop}
end
end Go.Proofs.Ytbfifglcnhfccaa
namespace Go.Proofs.Ytbfifglcnhfccaa
open Go.RowKit Go.Maps
def MapOk (q:Rq) (f:Int→Option Int):Prop:=∀id W,f id=some W→isI id∧∃x ∈ q.l,x.1=id∧x.2.2=bringR W 1 4096
theorem MapOk.start (q:Rq):MapOk q (fun _=>none):=fun _ _ h=>by cases h
theorem MapOk.more {q q':Rq} {f:Int→Option Int} (h:MapOk q f) (hl:∀x ∈ q.l,∃y ∈ q'.l,y.1=x.1∧y.2.2=x.2.2):MapOk q' f:=fun id W e=>by
 obtain⟨hi,x,hx,e1,e2⟩:=h id W e
 obtain⟨y,hy,e3,e4⟩:=hl x hx
 exact⟨hi,y,hy,e3.trans e1,e4.trans e2⟩
theorem MapOk.add {q:Rq} {f:Int→Option Int} (h:MapOk q f) (id v w:Int):MapOk (q.add id v w) f:=h.more fun x hx=>⟨x,by
 unfold Rq.add
 split
 ·exact hx
 ·exact List.mem_append_left _ hx,rfl,rfl⟩
theorem MapOk.put {q:Rq} {f:Int→Option Int} (h:MapOk q f) {id W:Int} (hi:isI id) (hx:∃x ∈ q.l,x.1=id∧x.2.2=bringR W 1 4096):MapOk q (updF f id (some W)):=fun j U e=>by
 by_cases hj:j=id
 ·subst hj
  rw [updF_same] at e
  cases e
  exact⟨hi,hx⟩
 ·rw [updF_other hj] at e
  exact h j U e
theorem MapOk.added {q:Rq} {f:Int→Option Int} (h:MapOk q f) {id:Int} (v w:Int) (hi:isI id) (he:addE q id=0):MapOk (q.add id v w) (updF f id (some w)):=by
 refine (h.add id v w).put hi ⟨(id,q.place v (bringR w 1 4096),bringR w 1 4096),?_,rfl,rfl⟩
 unfold addE at he
 unfold Rq.add
 split at he
 ·omega
 ·split at he
  ·omega
  ·split at he
   ·omega
   ·rw [if_neg (by
      rintro (a|a|a)
      ·omega
      ·contradiction
      ·omega)]
    exact List.mem_append_right _ (by simp)
theorem MapOk.removed {q:Rq} {f:Int→Option Int} (h:MapOk q f) (id:Int):MapOk (q.remove id) (updF f id none):=fun j U e=>by
 by_cases hj:j=id
 ·subst hj
  rw [updF_same] at e
  cases e
 ·rw [updF_other hj] at e
  obtain⟨hi,x,hx,e1,e2⟩:=h j U e
  refine⟨hi,x,?_,e1,e2⟩
  unfold Rq.remove
  split
  ·exact List.mem_filter.2 ⟨hx,by simp;omega⟩
  ·exact hx
theorem MapOk.weighed {q:Rq} {f:Int→Option Int} (h:MapOk q f) {id:Int} (w:Int) (hi:isI id) (he:(findQ q.l id).isSome=true):MapOk (q.weigh id w) (updF f id (some w)):=by
 obtain⟨y,hy⟩:=Option.isSome_iff_exists.1 he
 have hm:=findQ_mem hy
 have hl:(q.weigh id w).l=q.l.map (fun y=>if y.1=id then (y.1,q.place y.2.1 (bringR w 1 4096),bringR w 1 4096) else y):=by
  unfold Rq.weigh
  rw [hy]
 intro j U e
 by_cases hj:j=id
 ·subst hj
  rw [updF_same] at e
  cases e
  refine⟨hi,_,by rw [hl];exact List.mem_map.2 ⟨_,hm,rfl⟩,?_,?_⟩<;>simp
 ·rw [updF_other hj] at e
  obtain⟨hi',x,hx,e1,e2⟩:=h j U e
  refine⟨hi',_,by rw [hl];exact List.mem_map.2 ⟨x,hx,rfl⟩,?_,?_⟩
  ·rw [if_neg (by omega)];exact e1
  ·rw [if_neg (by omega)];exact e2
theorem weigh_none {q:Rq} {id w:Int} (he:(findQ q.l id).isSome=false):q.weigh id w=q:=by
 unfold Rq.weigh
 cases h:findQ q.l id with
 |none=>rfl
 |some x=>rw [h] at he;cases he
theorem MapOk.go {q:Rq} {f:Int→Option Int} {B:Int} (h:MapOk q f) (hl:Lag q B) (h0:0≤q.ran) (hB:B≤9223372036854775808):MapOk q.go f:=h.more fun x hx=>by
 rw [go_list hl h0 hB]
 exact⟨_,List.mem_map.2 ⟨x,hx,rfl⟩,rfl,rfl⟩
theorem Lag.later {q:Rq} {B B':Int} (h:Lag q B) (hB:B≤B'):Lag q B':=⟨h.g1,h.g8,h.f0,by have:=h.fB;omega,h.ids,h.uniq,h.wt,h.lo,h.hi,h.cur,h.run⟩
theorem reach_bring (c g:Int):reachR (bringR c 1 4096) (bringR g 1 8)=reachR c g:=by
 have h:=bring_range (n:=g) (lo:=1) (hi:=8) (by decide)
 rw [reach_in h.1 h.2,core_bring]
 rfl
theorem MapOk.seen {q:Rq} {f:Int→Option Int} {B gr id W:Int} (h:MapOk q f) (hl:Lag q B) (hg:q.g=bringR gr 1 8) (hB:B≤9223372036854775808) (e:f id=some W):
  isI id∧(findQ q.l id).isSome=true∧q.f≤remV q id∧remV q id - q.f≤reachR W gr∧0≤q.f∧remV q id≤18446744073709551615:=by
 obtain⟨hi,x,hx,e1,e2⟩:=h id W e
 cases hf:findQ q.l id with
 |none=>exact absurd e1 (findQ_none hf x hx)
 |some y=>
  have hm:=findQ_mem hf
  have hxy:=findQ_one hl.uniq hm hx (by rw [e1])
  have l1:=hl.lo x hx
  have l2:=hl.hi x hx
  have l3:=hl.f0
  have l4:=hl.fB
  have hr:remV q id=x.2.1:=by
   unfold remV
   rw [hf, ←hxy]
   rfl
  have hR:coreR x.2.2*q.g=reachR W gr:=by
   rw [←reach_bring W gr, ←e2, ←hg,reach_in hl.g1 hl.g8]
  have hc:=core_range x.2.2
  have hgg:coreR x.2.2*q.g≤1099511627776*8:=Int.mul_le_mul hc.2 hl.g8 (by have:=hl.g1;omega) (by decide)
  rw [hr, ←hR]
  exact⟨hi,rfl,by omega,by omega,by omega,by omega⟩
structure LgQ (S:RqSaid) (w V:World) (b:Nat) (X:List Nat) (q:Rq) (B c g:Int) (mb k:Nat) (D:DataW Unit) (f:Int→Option Int):Prop where
 at_:S.At V b X q
 ok:QOk q c
 lag:Lag q B
 qg:q.g=g
 t:Turned [] w V
 lx:∀j ∈ X,w.heap.size≤j
 own:V.ownsMap Try.prog tN (plainElem (H:=Unit) Try.prog tN) mb k D
 rd:ReadsF D f
 mo:mb ∉ X
 mw:w.heap.size≤mb
section
variable {S:RqSaid} {w V V':World} {b mb k k':Nat} {X X':List Nat} {q q':Rq} {B B' c c' g:Int} {D D':DataW Unit} {f f':Int→Option Int}
theorem LgQ.later (h:LgQ S w V b X q B c g mb k D f) (t:Turned [] V V'):LgQ S w V' b X q B c g mb k D f:=
 ⟨S.keep0 h.at_ t,h.ok,h.lag,h.qg,h.t.trans t (Newer.refl _ _),h.lx,ownsMap_same h.own (t.block mb h.own.lt (by simp)),h.rd,h.mo,h.mw⟩
theorem LgQ.step (h:LgQ S w V b X q B c g mb k D f) (a:S.At V' b X' q') (t:Turned X V V') (n:Newer X V.heap.size X') (ok:QOk q' c') (lag:Lag q' B') (hg:q'.g=q.g):LgQ S w V' b X' q' B' c' g mb k D f:=by
 have hn:∀j ∈ X',w.heap.size≤j:=fun j hj=>by
  rcases n j hj with h1|h1
  ·exact h.lx j h1
  ·exact Nat.le_trans h.t.size h1
 refine⟨a,ok,lag,hg.trans h.qg,h.t.trans t (fun j hj=> .inr (h.lx j hj)),hn,ownsMap_same h.own (t.block mb h.own.lt h.mo),h.rd,fun hm=>?_,h.mw⟩
 rcases n mb hm with h1|h1
 ·exact h.mo h1
 ·have:=h.own.lt
  omega
theorem LgQ.more (h:LgQ S w V b X q B c g mb k D f) (hB:B≤B') (hc:c≤c') (hk:k≤k'):LgQ S w V b X q B' c' g mb k' D f:=
 ⟨h.at_,h.ok.later hc,h.lag.later hB,h.qg,h.t,h.lx,h.own.mono hk,h.rd,h.mo,h.mw⟩
theorem LgQ.turn (h:LgQ S w V b X q B c g mb k D f) {r:Nat} (hg:V.grownBy V' (some r)) (hx:r ∉ X) (hw:w.heap.size≤r) (hr:∀cs t fz,V.heap[r]?≠some (.cells cs t fz)) (own:V'.ownsMap Try.prog tN (plainElem (H:=Unit) Try.prog tN) mb k' D') (rd:ReadsF D' f'):LgQ S w V' b X q B c g mb k' D' f':=by
 have hT:Turned [r] V V':=Turned.grown (Turned.refl _ V) hg (fun j hj=> .inl (by cases hj;simp))
 refine⟨S.keep h.at_ hT (fun j hj hk=>hx (by rw [List.mem_singleton] at hk;exact hk ▸ hj)) (fun j hj cs t fz ho=>?_),h.ok,h.lag,h.qg,h.t.trans hT (fun j hj=> .inr (by rw [List.mem_singleton] at hj;omega)),h.lx,own,rd,h.mo,h.mw⟩
 rw [List.mem_singleton] at hj
 subst hj
 exact absurd ho (hr cs t fz)
theorem map_nocells (h:V.ownsMap Try.prog tN (plainElem (H:=Unit) Try.prog tN) mb k D):∀cs t fz,V.heap[mb]?≠some (.cells cs t fz):=fun cs t fz e=>by
 obtain⟨es,cl,hb,_⟩:=h
 rw [hb] at e
 cases e
theorem iter_nocells {r cnt:Nat} {left:Lit→Bool} (h:V.ranges Try.prog tN (plainElem (H:=Unit) Try.prog tN) mb r k D left cnt):∀cs t fz,V.heap[r]?≠some (.cells cs t fz):=fun cs t fz e=>by
 obtain⟨es,cl,since,seen,c0,_,_,_,_,hr,_⟩:=h
 rw [hr] at e
 cases e
theorem ranges_later {r cnt:Nat} {left:Lit→Bool} (h:V.ranges Try.prog tN (plainElem (H:=Unit) Try.prog tN) mb r k D left cnt) (t:Turned [] V V'):V'.ranges Try.prog tN (plainElem (H:=Unit) Try.prog tN) mb r k D left cnt:=
 h.kept (row:=none) ⟨t.os,t.tape,t.output,t.size,fun j hj _=>t.block j hj (by simp)⟩ (by simp) (by simp)
theorem reads_came (hr:ReadsF D f) {x c:Int} (hh:Maps.has D (litN x)=true) (hat:∀zd,D.atKey (litN x) zd= .lit (litN c)):f x=some c:=by
 rw [hr.has x] at hh
 obtain⟨u,hu⟩:=Option.isSome_iff_exists.1 hh
 have h1:=hr.at_ x u hu
 rw [hat] at h1
 cases h1
 exact hu
end
end Go.Proofs.Ytbfifglcnhfccaa
namespace Go.Proofs.Ytbfifglcnhfccaa
open Go.RowKit Go.Maps
theorem add_g (q:Rq) (id v w:Int):(q.add id v w).g=q.g:=by unfold Rq.add;split<;>rfl
theorem remove_g (q:Rq) (id:Int):(q.remove id).g=q.g:=by unfold Rq.remove;split<;>rfl
theorem weigh_g (q:Rq) (id w:Int):(q.weigh id w).g=q.g:=by unfold Rq.weigh;split<;>rfl
theorem rqlag_walk (S:RqSaid) (U:UnGiven) (gr:Int) (ao:Option Addr) (lb off n cap:Nat) (E:Nat→Dq) (w:World) (hgr:isI gr) (hao:0 < n→ao=some ⟨lb,off,none⟩∧lb < w.heap.size)
  (hE:∀i,i < n→w.cell? ⟨lb,off+i*4,none⟩=some (.int .u8 (E i).1)∧w.cell? ⟨lb,off+i*4+1,none⟩=some (.int .i64 (E i).2.1)∧w.cell? ⟨lb,off+i*4+2,none⟩=some (.int .u64 (E i).2.2.1)∧w.cell? ⟨lb,off+i*4+3,none⟩=some (.int .i64 (E i).2.2.2))
  (hW:∀i,i < n→wfD (E i)) (hm:n≤maxLen):
  Calls Try.prog 4 #[.int .i64 gr, .slice ao n cap] w fun r w'=>r= .returned (.bool true)∧Turned [] w w':=by
 unfold maxLen at hm
 have HE:=xhd hE
 have HAO:=xhd hao
 have HWf:=xhd hW
 have AW:=xhd (awake16 S w)
 have HNP:=xhd (fun V=>S.new gr V hgr)
 have HRE:=xhd (fun c V=>U.reach c gr V)
 obtain⟨g,hg⟩:∃g,bringR gr 1 8=g:=⟨_,rfl⟩
 have HG:=xhd hg
 clear hE hao hW hgr U hg
 by_cases h80:120 < n
 ·have h80z:(120:Int) < (n:Int):=by omega
  go_enter Try.func4,Try.ntmps4
  go_wp2_with fail
  with_reducible refine AW.out.mono ?_
  rintro e w0 ⟨rfl,t0⟩
  have T0:=xhd t0
  clear t0
  go_wp2
  go_ret
  exact⟨rfl,T0.out⟩
 ·have h80z:¬(120:Int) < (n:Int):=by omega
  have hmm:= @run_makeMap Try.prog
  go_enter Try.func4,Try.ntmps4
  go_wp2_with fail
  with_reducible refine AW.out.mono ?_
  rintro e w0 ⟨rfl,t0⟩
  have T0:=xhd t0
  clear t0 AW
  go_wp2_with fail
  with_reducible refine (HNP.out _).mono ?_
  rintro e w1 ⟨b,X0,rfl,a1,t1,n1⟩
  have hL0:LgQ S w (w1.alloc (.map #[] 0)) b X0 (Rq.new gr) (17592186044416*((0:Nat):Int)) (8+((0:Nat):Int)) g w1.heap.size 0 (.map []) (fun _=>none):=by
   have ta:Turned [] w1 (w1.alloc (.map #[] 0)):=(Turned.refl [] w1).alloc _
   have T1:=T0.out.trans t1 (Newer.refl _ _)
   exact⟨S.keep0 a1 ta,QOk.new gr,Lag.start gr,HG.out,T1.trans ta (Newer.refl _ _),fun j hj=>Nat.le_trans T0.out.size (n1 j hj),World.ownsMap_made _ _ _ _,ReadsF.empty,fun hx=>by have:=S.lt a1 _ hx;omega,T1.size⟩
  have HL0:=xhd hL0
  clear a1 t1 n1 hL0 T0 HNP
  go_wp2_with fail
  generalize w1.heap.size=mb at HL0 ⊢
  go_loopw [25] (fun iv V=>∃(i k:Nat) (X:List Nat) (q:Rq) (D:DataW Unit) (f:Int→Option Int),i≤n∧iv= .int .i64 i∧k≤i∧Hid (LgQ S w V b X q (17592186044416*((i:Nat):Int)) (8+((i:Nat):Int)) g mb k D f)∧Hid (MapOk q f)) (fun iv _=>n - (intOf iv).toNat)
  case atStart=>exact⟨0,0,X0,_,_,_,Nat.zero_le _,rfl,Nat.le_refl _,HL0,xhd (MapOk.start _)⟩
  case round=>
   clear HL0
   obtain⟨i,k,X,q,D,f,hi,rfl,hki,HL,HM⟩:=hrel
   by_cases hlt:i < n
   ·obtain⟨rfl,hlb⟩:=HAO.out (by omega)
    have hcell:=HE.out i hlt
    have hwf:=HWf.out i hlt
    have hbb:=HL.out.t.below (B:=w.heap.size) (by simp) (Nat.le_refl _)
    rw [←hbb.cell (p:=⟨lb,off+i*4,none⟩) hlb, ←hbb.cell (p:=⟨lb,off+i*4+1,none⟩) hlb, ←hbb.cell (p:=⟨lb,off+i*4+2,none⟩) hlb, ←hbb.cell (p:=⟨lb,off+i*4+3,none⟩) hlb] at hcell
    obtain⟨z0,z1,z2,z3⟩:=hcell
    obtain⟨⟨dk,d1,d2,d3⟩,hdd⟩:∃z,E i=z:=⟨_,rfl⟩
    simp only [hdd] at z0 z1 z2 z3 hwf
    clear hdd hbb
    obtain⟨hw0,hw1,hw2,hw3⟩:=hwf
    simp only at hw0 hw1 hw2 hw3
    obtain⟨hv0,hv1⟩:=hw2
    obtain⟨W,hW⟩:∃W,wr.alloc (.cells #[.int .u8 dk, .int .i64 d1, .int .u64 d2, .int .i64 d3] 30)=W:=⟨_,rfl⟩
    have td:Turned [] wr W:=hW ▸ (Turned.refl [] wr).alloc _
    have hdk:W.heap[wr.heap.size]?=some (.cells #[.int .u8 dk, .int .i64 d1, .int .u64 d2, .int .i64 d3] 30 (0,0)):=hW ▸ heap_alloc_new wr _
    have H1:=xhd (HL.out.later td)
    have HDK:=xhd hdk
    have HNZ:Hid (wr.heap.size ∉ X∧wr.heap.size < W.heap.size):=xhd ⟨fun hx=>by have:=S.lt HL.out.at_ _ hx;omega,lt_of_block hdk⟩
    have HNM:Hid (wr.heap.size≠mb):=xhd (by have:=HL.out.own.lt;omega)
    have HWa:=xhd hW
    have l1:(i:Int) < n:=by omega
    have hc5:(8:Int)+i≤1000:=by omega
    have HBB:Hid ((17592186044416:Int)*(i:Int)≤4611686018427387904):=xhd (by omega)
    have HLT:Hid (i < n):=xhd hlt
    have HKI:Hid (k≤i):=xhd hki
    have HK1:Hid (k < maxLen):=xhd (by unfold maxLen;omega)
    have w1wf:(Lit.int .i64 d1).wf=true:=by simp [Lit.wf,IntKind.min,IntKind.max,IntKind.signed,IntKind.bits];unfold isI at hw1;omega
    have w3wf:(Lit.int .i64 d3).wf=true:=by simp [Lit.wf,IntKind.min,IntKind.max,IntKind.signed,IntKind.bits];unfold isI at hw3;omega
    have HW1:=xhd w1wf
    have HW3:=xhd w3wf
    clear td hdk HL hW hlt w1wf w3wf hki
    by_cases q0:(dk % 10 == 0)=true
    ·as_aux_lemma=>
      have hvm:d2.tmod 1152921504606846976=d2 % 1152921504606846976:=Int.tmod_eq_emod_of_nonneg hv0
      have HV:Hid (Word (d2 % 1152921504606846976)):=xhd ⟨by omega,by omega⟩
      have PC:=xhd (S.add d1 (d2 % 1152921504606846976) d3 H1.out.at_ H1.out.ok (by omega) hw1 hw3 HV.out)
      have HIS:=xhd hw1
      clear hw1 hw3
      obtain⟨y0,y1,y2,y3⟩:=cells4q HDK.out
      go_wp2_with fail
      rw [HWa.out]
      go_wp2_with fail
      with_reducible refine PC.out.mono ?_
      rintro e V1 ⟨rfl,X1,a1,t1,n1⟩
      have L1:=xhd (H1.out.step a1 t1 n1 (H1.out.ok.add d1 HV.out d3) (H1.out.lag.add (by have:=HBB.out;omega) d1 (d2 % 1152921504606846976) d3) (add_g _ _ _ _))
      have K1:=xhd (t1.same HDK.out HNZ.out.1)
      clear a1 t1 n1 y0 y1 y2 y3 PC z0 z1 z2 z3
      obtain⟨y0,y1,y2,y3⟩:=cells4q K1.out
      by_cases he:addE q d1=0
      ·have HM2:=xhd (HM.out.added (d2 % 1152921504606846976) d3 HIS.out he)
       have HEZ:(addE q d1 == 0)=true:=by simpa using he
       go_wp2_with (at_mapUpdate;refine wpList_mapUpdate_own _ rfl _ _ _ 45 rfl 3 3 lawN Try.underlying45 _ mb k _ rfl L1.out.own HK1.out _ _ _ rfl rfl (keyOf_int_mk Try.underlying3 HW1.out) _ [] (plainElem_int Try.underlying3 HW3.out) ?_)
       intro V2 own2 grow2
       have L2:=xhd (L1.out.turn grow2 L1.out.mo L1.out.mw (map_nocells L1.out.own) own2 (L1.out.rd.put d1 d3))
       clear own2 grow2
       go_wp2
       go_roundw
       case rel=>exact⟨i+1,k+1,X1,_,_,_,by have:=HLT.out;omega,by go_num,by have:=HKI.out;omega,xhd (L2.out.more (by omega) (by omega) (Nat.le_refl _)),HM2⟩
       case measure=>have:=HLT.out;simp [intOf];omega
      ·have HM2:=xhd (HM.out.add d1 (d2 % 1152921504606846976) d3)
       have HEZ:(addE q d1 == 0)=false:=by simpa using he
       go_wp2
       go_roundw
       case rel=>exact⟨i+1,k,X1,_,_,_,by have:=HLT.out;omega,by go_num,by have:=HKI.out;omega,xhd (L1.out.more (by omega) (by omega) (Nat.le_refl _)),HM2⟩
       case measure=>have:=HLT.out;simp [intOf];omega
    ·have q0':(dk % 10 == 0)=false:=by simpa using q0
     clear q0
     by_cases q1:(dk % 10 == 1)=true
     ·as_aux_lemma=>
       have PC:=xhd (S.remove d1 H1.out.at_ H1.out.ok (by omega) hw1)
       clear hw1 hw3
       obtain⟨y0,y1,y2,y3⟩:=cells4q HDK.out
       go_wp2_with fail
       rw [HWa.out]
       go_wp2_with fail
       with_reducible refine PC.out.mono ?_
       rintro e V1 ⟨rfl,X1,a1,t1,n1⟩
       have L1:=xhd (H1.out.step a1 t1 n1 (H1.out.ok.remove d1) (H1.out.lag.remove d1) (remove_g _ _))
       have K1:=xhd (t1.same HDK.out HNZ.out.1)
       have HM2:=xhd (HM.out.removed d1)
       clear a1 t1 n1 y0 y1 y2 y3 PC z0 z1 z2 z3
       obtain⟨y0,y1,y2,y3⟩:=cells4q K1.out
       go_wp2_with (at_delete;refine wpList_delete_own _ rfl _ _ 45 3 rfl 3 lawN Try.underlying45 _ mb k _ rfl L1.out.own _ _ rfl (keyOf_int_mk Try.underlying3 HW1.out) ?_)
       intro V2 own2 turn2
       have L2:=xhd (L1.out.turn turn2.grown L1.out.mo L1.out.mw (map_nocells L1.out.own) own2 (L1.out.rd.del d1))
       clear own2 turn2
       go_wp2
       go_roundw
       case rel=>exact⟨i+1,k,X1,_,_,_,by have:=HLT.out;omega,by go_num,by have:=HKI.out;omega,xhd (L2.out.more (by omega) (by omega) (Nat.le_refl _)),HM2⟩
       case measure=>have:=HLT.out;simp [intOf];omega
     ·have q1':(dk % 10 == 1)=false:=by simpa using q1
      clear q1
      by_cases q5:(dk % 10 == 5)=true
      ·as_aux_lemma=>
        have PC:=xhd (S.weigh d1 d3 H1.out.at_ H1.out.ok (by omega) hw1 hw3)
        have HIS:=xhd hw1
        clear hw1 hw3
        obtain⟨y0,y1,y2,y3⟩:=cells4q HDK.out
        go_wp2_with fail
        rw [HWa.out]
        go_wp2_with fail
        with_reducible refine PC.out.mono ?_
        rintro e V1 ⟨rfl,X1,a1,t1,n1⟩
        have L1:=xhd (H1.out.step a1 t1 n1 (H1.out.ok.weigh (by omega) d1 d3) (H1.out.lag.weigh (by have:=HBB.out;omega) d1 d3) (weigh_g _ _ _))
        have K1:=xhd (t1.same HDK.out HNZ.out.1)
        clear a1 t1 n1 y0 y1 y2 y3 PC z0 z1 z2 z3
        obtain⟨y0,y1,y2,y3⟩:=cells4q K1.out
        by_cases he:(findQ q.l d1).isSome=true
        ·have HM2:=xhd (HM.out.weighed d3 HIS.out he)
         go_wp2_with (at_mapUpdate;refine wpList_mapUpdate_own _ rfl _ _ _ 45 rfl 3 3 lawN Try.underlying45 _ mb k _ rfl L1.out.own HK1.out _ _ _ rfl rfl (keyOf_int_mk Try.underlying3 HW1.out) _ [] (plainElem_int Try.underlying3 HW3.out) ?_)
         intro V2 own2 grow2
         have L2:=xhd (L1.out.turn grow2 L1.out.mo L1.out.mw (map_nocells L1.out.own) own2 (L1.out.rd.put d1 d3))
         clear own2 grow2
         go_wp2
         go_roundw
         case rel=>exact⟨i+1,k+1,X1,_,_,_,by have:=HLT.out;omega,by go_num,by have:=HKI.out;omega,xhd (L2.out.more (by omega) (by omega) (Nat.le_refl _)),HM2⟩
         case measure=>have:=HLT.out;simp [intOf];omega
        ·have HEZ:(findQ q.l d1).isSome=false:=by simpa using he
         have HM2:Hid (MapOk (q.weigh d1 d3) f):=xhd (by rw [weigh_none HEZ];exact HM.out)
         clear he
         go_wp2
         go_roundw
         case rel=>exact⟨i+1,k,X1,_,_,_,by have:=HLT.out;omega,by go_num,by have:=HKI.out;omega,xhd (L1.out.more (by omega) (by omega) (Nat.le_refl _)),HM2⟩
         case measure=>have:=HLT.out;simp [intOf];omega
      ·have q5':(dk % 10 == 5)=false:=by simpa using q5
       clear q5
       as_aux_lemma=>
        have PC:=xhd (goon_any S H1.out.at_ H1.out.ok (by omega))
        clear hw1 hw3
        obtain⟨y0,y1,y2,y3⟩:=cells4q HDK.out
        go_wp2_with fail
        rw [HWa.out]
        go_wp2_with fail
        with_reducible refine PC.out.mono ?_
        rintro e V1 ⟨rfl,X1,a1,t1,n1⟩
        have L1:Hid (LgQ S w V1 b X1 q.go (17592186044416*((i+1:Nat):Int)) (8+((i+1:Nat):Int)) g mb k D f):=xhd (by
         have:=H1.out.step a1 t1 n1 H1.out.ok.go (H1.out.lag.go H1.out.ok.ran.1 (by have:=HBB.out;omega)).1 (go_g q)
         rw [show (17592186044416:Int)*((i+1:Nat):Int)=17592186044416*(i:Int)+17592186044416 by omega,show (8:Int)+((i+1:Nat):Int)=8+i+1 by omega]
         exact this)
        have HM2:=xhd (HM.out.go H1.out.lag H1.out.ok.ran.1 (by have:=HBB.out;omega))
        have HSN:=xhd (fun x c (e:f x=some c)=>HM2.out.seen L1.out.lag (L1.out.qg.trans HG.out.symm) (by have:=HBB.out;omega) e)
        clear a1 t1 n1 y0 y1 y2 y3 PC z0 z1 z2 z3
        go_wp2_with (at_range;refine wpList_range_own _ rfl _ 45 rfl 3 3 lawN Try.underlying45 _ mb k D rfl L1.out.own ?_;intro V2 hrg0 hg0 hs0)
        go_frame
        have t2:Turned [] V1 V2:=Turned.grown (Turned.refl [] V1) hg0 (fun j hj=>by cases hj)
        have L2:=xhd (L1.out.later t2)
        have HR0:=xhd hrg0
        have HX0:Hid (V1.heap.size ∉ X1∧w.heap.size≤V1.heap.size):=xhd ⟨fun hx=>by have:=S.lt L1.out.at_ _ hx;omega,L1.out.t.size⟩
        clear hrg0 hg0 hs0 t2 L1
        generalize V1.heap.size=r at HR0 HX0 ⊢
        go_loopw [11] (fun _ V=>∃(left:Lit→Bool) (cnt:Nat),Hid (V.ranges Try.prog tN (plainElem (H:=Unit) Try.prog tN) mb r k D left cnt)∧Hid (LgQ S w V b X1 q.go (17592186044416*((i+1:Nat):Int)) (8+((i+1:Nat):Int)) g mb k D f)∧Hid (∀kl,left kl=true→Maps.has D kl=true)) (fun _ V=>V.rangeLeft mb r)
        case atStart=>exact⟨_,_,HR0,L2,xhd fun _ h=>h⟩
        case round=>
         clear HR0 L2
         obtain⟨left,cnt,HR,HL,HH⟩:=hrel
         go_wp2_with (at_next;refine wpList_next_ranges_ii _ rfl _ rfl 3 3 .i64 .i64 lawN Try.underlying3 Try.underlying3 mb r k D _ _ rfl HR.out ?_ ?_)
         ·intro _ _
          go_wp2
          go_roundw
          case rel=>exact⟨i+1,k,X1,_,D,f,by have:=HLT.out;omega,by go_num,by have:=HKI.out;omega,xhd (HL.out.more (by omega) (by omega) (Nat.le_refl _)),HM2⟩
          case measure=>have:=HLT.out;simp [intOf];omega
         ·intro x c V3 cnt1 hwx hwc hlx hat hrg1 hcl hg1 hs1 hen
          obtain⟨s1,s2,s3,s4,s5,s6⟩:=HSN.out x c (reads_came HL.out.rd (HH.out _ hlx) hat)
          have L3:=xhd (HL.out.turn hg1 HX0.out.1 HX0.out.2 (iter_nocells HR.out) hrg1.owns HL.out.rd)
          have R3:=xhd hrg1
          have HLE:=xhd HR.out.left_eq
          have HCL:=xhd hcl
          have PV:=xhd (S.vv x L3.out.at_ L3.out.ok (by omega) s1)
          have PF:=xhd (fun V (h:LgQ S w V b X1 q.go (17592186044416*((i+1:Nat):Int)) (8+((i+1:Nat):Int)) g mb k D f)=>S.floor h.at_ h.ok (by omega))
          have HH1:Hid (∀kl,(left kl&&!kl.sameKey (.int .i64 x))=true→Maps.has D kl=true):=xhd fun kl h=>HH.out kl (by simp at h;exact h.1)
          have HRR:=xhd (HRE.out c)
          rw [s2] at PV
          obtain⟨vv,hvv⟩:∃vv,remV q.go x=vv:=⟨_,rfl⟩
          obtain⟨fl,hfl⟩:∃fl,q.go.f=fl:=⟨_,rfl⟩
          obtain⟨rr,hrr⟩:∃rr,reachR c gr=rr:=⟨_,rfl⟩
          rw [hvv] at PV s3 s4 s6
          rw [hfl] at PF s3 s4 s5
          rw [hrr] at HRR s4
          have hwv:IntKind.u64.wrap (vv - fl)=vv - fl:=by rw [IntKind.wrap_u64];omega
          have e1:decide (vv < fl)=false:=by simp;omega
          have e2:decide (rr < vv - fl)=false:=by simp;omega
          clear hvv hfl hrr hrg1 hg1 hs1 hcl hat hlx hwx hwc s1 s2 HL HR HH
          go_wp2_with fail
          with_reducible refine PV.out.mono ?_
          rintro e V4 ⟨rfl,t4⟩
          have L4:=xhd (L3.out.later t4)
          have R4:=xhd (ranges_later R3.out t4)
          clear t4 hen L3 R3
          go_wp2_with fail
          with_reducible refine (PF.out _ L4.out).mono ?_
          rintro e V5 ⟨rfl,t5⟩
          have L5:=xhd (L4.out.later t5)
          have R5:=xhd (ranges_later R4.out t5)
          clear t5 L4 R4
          go_wp2_with fail
          with_reducible refine (PF.out _ L5.out).mono ?_
          rintro e V6 ⟨rfl,t6⟩
          have L6:=xhd (L5.out.later t6)
          have R6:=xhd (ranges_later R5.out t6)
          clear t6 L5 R5
          go_wp2_with fail
          with_reducible refine (HRR.out _).mono ?_
          rintro e V7 ⟨rfl,b7⟩
          have L7:=xhd (L6.out.later (turned_bel b7))
          have R7:=xhd (ranges_later R6.out (turned_bel b7))
          clear b7 L6 R6
          go_wp2
          go_roundw
          case rel=>exact⟨_,cnt1,R7,L7,HH1⟩
          case measure=>rw [R7.out.left_eq,HLE.out];exact HCL.out
   ·obtain rfl:i=n:=by omega
    have HT:=xhd HL.out.t
    go_wp2
    go_ret
    exact⟨rfl,HT.out⟩
end Go.Proofs.Ytbfifglcnhfccaa
