/-
  The program's cores: Move.
  The program's cores: lighter: the first ready task that weighs less.
  The program's cores: Loads, and what they tell of the greatest and of the least.
  The program's cores: extremes, Balance.
  All that is to be said of the program's cores, for the laws of stage 17.
-/
import Derived.Test.YtfmciiffcmfagaaZAR
import Derived.LaidEqlPtr
import Derived.Test.YtfmciiffcmfagaaZAC
import Derived.OwnWalk
import Derived.BigQuiet
import Derived.Deep.RegionHeld3
import Derived.Test.YtfmciiffcmfagaaZAl
set_option maxRecDepth 100000
set_option maxHeartbeats 25600000
namespace Go.Proofs.Ytfmciiffcmfagaa
open Go.RowKit
theorem cpInfoQu:(Try.prog.info? tQu).map (fun i=>i.size)=some 6:=by kernel_rfl
theorem cpQu_info:∃j,Try.prog.info? tQu=some j∧j.size≠0:=by
 have h:=cpInfoQu
 rw [Option.map_eq_some_iff] at h
 obtain⟨j,hj,hs⟩:=h
 exact⟨j,hj,by omega⟩
theorem qp_same (a:Nat) (w:World):(binOp .eql tPp (.pointer (some ⟨a,0,none⟩)) (.pointer (some ⟨a,0,none⟩))).run Try.prog w= .ok (.bool true) w:=by
 obtain⟨j,hj,_⟩:=cpQu_info
 exact run_eql_ptr_same w _ Try.underlying42 hj
theorem qp_other {a b:Nat} {w:World} {ca cb:Array Value} (hne:a≠b) (ha:w.heap[a]?=some (.cells ca tQu (0,0))) (hb:w.heap[b]?=some (.cells cb tQu (0,0))):
  (binOp .eql tPp (.pointer (some ⟨a,0,none⟩)) (.pointer (some ⟨b,0,none⟩))).run Try.prog w= .ok (.bool false) w:=by
 obtain⟨j,hj,hs⟩:=cpQu_info
 exact run_eql_ptr_other w Try.underlying42 hj hs (fun e=>hne (by cases e;rfl)) ha hb
section
variable {w w':World} {b d d':Nat} {X X0 Y Y':List Nat} {T:List Tq} {l:List Rq} {q r:Rq} {c:Int}
theorem rp_block (h:RpAt w b X q):b ∈ X∧∃cs,w.heap[b]?=some (.cells cs tQu (0,0)):=by
 obtain⟨bt,br,T,R,B,r,rfl,h⟩:=h
 exact⟨mem_blocksQ.2 (.inl rfl),_,h.h0⟩
theorem moveC_no {l:List Rq} {id core:Int} (h:moveE l id core≠0):moveC l id core=l:=if_neg h
theorem cpmove (h:CpI w b X0 T l) (hc:COk l c) (id core:Int):
  Calls Try.prog 15 #[.pointer (some ⟨b,0,none⟩), .int .i64 id, .int .i64 core] w fun e w'=>e= .returned (.int .i64 (moveE l id core))∧∃T',CpI w' b X0 T' (moveC l id core)∧Turned (blk X0 T) w w'∧Newer (blk X0 T) w.heap.size (blk X0 T'):=by
 have HK:=xhd (fun V (t:Turned [] w V)=>h.keep0 t)
 have HQ:=xhd (fun V (t:Turned [] w V)=>cpqueue (h.keep0 t) core)
 cases ho:ofN l id with
 |none=>
  have e:moveE l id core=4:=by unfold moveE;rw [ho]
  rw [moveC_no (by omega),e]
  have HH:=xhd (cphome_no h ho)
  obtain⟨p,hp⟩:∃p,(if core < 0 then none else (T[core.toNat]?).map fun x=>(⟨x.1,0,none⟩:Addr))=p:=⟨_,rfl⟩
  rw [hp] at HQ
  clear h hc ho e hp
  go_enter Try.func15,Try.ntmps15
  go_wp2_with fail
  with_reducible refine HH.out.mono ?_
  rintro e w1 ⟨rfl,t1⟩
  have T1:=xhd t1
  clear t1
  go_wp2_with fail
  with_reducible refine (HQ.out _ T1.out).mono ?_
  rintro e w2 ⟨rfl,rfl⟩
  go_wp2
  go_ret
  exact⟨rfl,T,HK.out _ T1.out,T1.out.mono (fun k hk=>by simp at hk),Newer.refl _ _⟩
 |some k=>
  obtain⟨q,hq,hf,_⟩:=ofN_some ho
  obtain⟨d,Y,hT⟩:=cp_row h hq
  have HH:=xhd (cphome_at h ho hT)
  by_cases h1:core < 0∨(l.length:Int)≤core
  ·have e:moveE l id core=1:=by unfold moveE;rw [ho];exact if_pos h1
   rw [moveC_no (by omega),e]
   have hp:(if core < 0 then none else (T[core.toNat]?).map fun x=>(⟨x.1,0,none⟩:Addr))=none:=by
    have hl:=h.qs.len
    by_cases h2:core < 0
    ·rw [if_pos h2]
    ·rw [if_neg h2,List.getElem?_eq_none (by omega),Option.map_none]
   rw [hp] at HQ
   clear h hc ho e hp hq hf hT h1
   go_enter Try.func15,Try.ntmps15
   go_wp2_with fail
   with_reducible refine HH.out.mono ?_
   rintro e w1 ⟨rfl,t1⟩
   have T1:=xhd t1
   clear t1
   go_wp2_with fail
   with_reducible refine (HQ.out _ T1.out).mono ?_
   rintro e w2 ⟨rfl,rfl⟩
   go_wp2
   go_ret
   exact⟨rfl,T,HK.out _ T1.out,T1.out.mono (fun k hk=>by simp at hk),Newer.refl _ _⟩
  ·obtain⟨t,rfl⟩:∃t:Nat,core=t:=⟨core.toNat,by omega⟩
   have ht:t < l.length:=by omega
   have hr:l[t]?=some l[t]:=List.getElem?_eq_getElem ht
   obtain⟨r,hrr⟩:∃r,l[t]=r:=⟨_,rfl⟩
   rw [hrr] at hr
   obtain⟨d',Y',hTt⟩:=cp_row h hr
   have hp:(if (t:Int) < 0 then none else (T[((t:Nat):Int).toNat]?).map fun x=>(⟨x.1,0,none⟩:Addr))=some ⟨d',0,none⟩:=by
    rw [if_neg (by omega),Int.toNat_natCast,hTt]
    rfl
   rw [hp] at HQ
   by_cases h2:k=t
   ·subst h2
    have e:moveE l id k=12:=by
     unfold moveE
     rw [ho]
     show (if _ then _ else _)=_
     rw [if_neg h1,if_pos rfl]
    rw [moveC_no (by omega),e]
    rw [hT] at hTt
    cases hTt
    have heq:=fun w=>qp_same d w
    clear h hc ho e hp hq hf hT h1 hr hrr ht
    go_enter Try.func15,Try.ntmps15
    go_wp2_with fail
    with_reducible refine HH.out.mono ?_
    rintro e w1 ⟨rfl,t1⟩
    have T1:=xhd t1
    clear t1
    go_wp2_with fail
    with_reducible refine (HQ.out _ T1.out).mono ?_
    rintro e w2 ⟨rfl,rfl⟩
    replace heq:=heq w1
    go_wp2
    go_ret
    exact⟨rfl,T,HK.out _ T1.out,T1.out.mono (fun k hk=>by simp at hk),Newer.refl _ _⟩
   ·have hqk:=hc.ok q (mem_at hq)
    have hid:0≤id:=by
     obtain⟨x,hx⟩:=Option.isSome_iff_exists.1 hf
     exact hqk.ids _ (findQ_mem hx)
    have hcur:((l[k]?).map (·.cur)).getD (-1)=q.cur:=by rw [hq];rfl
    have hktz:¬((k:Int)=(t:Int)):=by omega
    have HC:=xhd (fun V (t:Turned [] w V)=>cpcurrent ((h.keep0 t).qs.at_ k _ q hT hq) hqk id)
    have HEQ:Hid (∀V,Turned [] w V→(binOp .eql tPp (.pointer (some ⟨d,0,none⟩)) (.pointer (some ⟨d',0,none⟩))).run Try.prog V= .ok (.bool false) V):=xhd fun V tV=>by
     have a1:=(h.keep0 tV).qs.at_ k _ q hT hq
     have a2:=(h.keep0 tV).qs.at_ t _ r hTt hr
     obtain⟨m1,_,g1⟩:=rp_block a1
     obtain⟨m2,_,g2⟩:=rp_block a2
     exact qp_other (fun e=>h.qs.apart k t _ _ h2 hT hTt d m1 (by rw [e];exact m2)) g1 g2
    by_cases h3:q.cur=id
    ·have e:moveE l id t=8:=by
       unfold moveE
       rw [ho]
       show (if _ then _ else _)=_
       rw [if_neg h1,if_neg hktz,hcur,if_pos h3]
     rw [moveC_no (by omega),e]
     rw [show (decide (0≤q.cur)&&decide (q.cur=id))=true by rw [h3];simpa using hid] at HC
     clear h hc ho e hp hq hf hT h1 hr hrr ht hTt hqk hid hcur hktz h2 h3
     go_enter Try.func15,Try.ntmps15
     go_wp2_with fail
     with_reducible refine HH.out.mono ?_
     rintro e w1 ⟨rfl,t1⟩
     have T1:=xhd t1
     clear t1
     go_wp2_with fail
     with_reducible refine (HQ.out _ T1.out).mono ?_
     rintro e w2 ⟨rfl,rfl⟩
     have heq:=HEQ.out w1 T1.out
     go_wp2_with fail
     with_reducible refine (HC.out _ T1.out).mono ?_
     rintro e w3 ⟨rfl,t3⟩
     have T3:=xhd (T1.out.join t3)
     clear t3
     go_wp2
     go_ret
     exact⟨rfl,T,HK.out _ T3.out,T3.out.mono (fun k hk=>by simp at hk),Newer.refl _ _⟩
    ·have e:moveE l id t=0:=by
       unfold moveE
       rw [ho]
       show (if _ then _ else _)=_
       rw [if_neg h1,if_neg hktz,hcur,if_neg h3]
     have e2:moveC l id t=goC l id k t:=by
      unfold moveC
      rw [if_pos e,ho,Int.toNat_natCast]
      rfl
     rw [e2,e]
     rw [show (decide (0≤q.cur)&&decide (q.cur=id))=false by simp [h3]] at HC
     have HCA:=xhd (fun V (tV:Turned [] w V)=>cpcarry (h.keep0 tV) hc hq hf ht h2 hT hTt)
     clear h hc ho e e2 hp hq hf hT h1 hr hrr ht hTt hqk hid hcur hktz h2 h3
     go_enter Try.func15,Try.ntmps15
     go_wp2_with fail
     with_reducible refine HH.out.mono ?_
     rintro e w1 ⟨rfl,t1⟩
     have T1:=xhd t1
     clear t1
     go_wp2_with fail
     with_reducible refine (HQ.out _ T1.out).mono ?_
     rintro e w2 ⟨rfl,rfl⟩
     have heq:=HEQ.out w1 T1.out
     go_wp2_with fail
     with_reducible refine (HC.out _ T1.out).mono ?_
     rintro e w3 ⟨rfl,t3⟩
     have T3:=xhd (T1.out.join t3)
     clear t3 heq
     go_wp2_with fail
     with_reducible refine (HCA.out _ T3.out).mono ?_
     rintro e w4 ⟨rfl,_,T',a4,t4,n4⟩
     have HE:=xhd (And.intro a4 (And.intro t4 n4))
     clear a4 t4 n4
     go_wp2
     go_ret
     exact⟨rfl,T',HE.out.1,(T3.out.mono (fun k hk=>by simp at hk)).trans HE.out.2.1 (Newer.refl _ _),HE.out.2.2.low T3.out.size⟩
end
end Go.Proofs.Ytfmciiffcmfagaa
namespace Go.Proofs.Ytfmciiffcmfagaa
open Go.RowKit
attribute [local go_sem] Oper.semAt_some
def litQ (q:Rq) (d:Int):Int:=match (sortQ q.ready).find? (fun x=>decide (x.2.2 < d)) with
 |none=> -1
 |some x=>x.1
theorem find_lit {g:Int→Int} {d:Int} :∀ {S:List Tk},(∀y ∈ S,g y.1=y.2.2)→∀ {pre:List (Int×Int)} {x:Int×Int},pre++[x] <+:S.map (fun x=>(x.1,x.2.1))→(∀y ∈ pre,d≤g y.1)→g x.1 < d→
  ∃y ∈ S,S.find? (fun x=>decide (x.2.2 < d))=some y∧y.1=x.1
 |[],_,pre,x,h,_,_=>by
  rw [List.map_nil,List.prefix_nil] at h
  simp at h
 |s::S,hS,[],x,h,_,hx=>by
  rw [List.nil_append,List.map_cons,List.cons_prefix_cons] at h
  obtain⟨rfl,_⟩:=h
  have h1:=hS s (by simp)
  refine⟨s,by simp,?_,rfl⟩
  rw [List.find?_cons_of_pos (by simp only [decide_eq_true_eq];simp only at hx;omega)]
 |s::S,hS,p::pre,x,h,hp,hx=>by
  rw [List.cons_append,List.map_cons,List.cons_prefix_cons] at h
  obtain⟨rfl,h⟩:=h
  have h1:=hS s (by simp)
  have h2:=hp (s.1,s.2.1) (by simp)
  obtain⟨y,hy,h3,h4⟩:=find_lit (fun y hy=>hS y (List.mem_cons_of_mem _ hy)) h (fun y hy=>hp y (List.mem_cons_of_mem _ hy)) hx
  refine⟨y,List.mem_cons_of_mem _ hy,?_,h4⟩
  rw [List.find?_cons_of_neg (by simp only [decide_eq_true_eq];simp only at h2;omega),h3]
theorem wt_ready {q:Rq} {c:Int} (hq:QOk q c):∀y ∈ sortQ q.ready,wtV q y.1=y.2.2:=fun y hy=>by
 have hm:=(ready_sub (mem_sort.1 hy)).1
 rw [wtV_some (find_mem hq.uniq hm)]
theorem lit_at {q:Rq} {c d:Int} (hq:QOk q c) {pre:List (Int×Int)} {x:Int×Int} (h:pre++[x] <+:rdyL q) (hp:∀y ∈ pre,d≤wtV q y.1) (hx:wtV q x.1 < d):litQ q d=x.1:=by
 obtain⟨y,_,h1,h2⟩:=find_lit (wt_ready hq) h hp hx
 unfold litQ
 rw [h1]
 exact h2
theorem lit_no {q:Rq} {c d:Int} (hq:QOk q c) (h:∀y ∈ rdyL q,d≤wtV q y.1):litQ q d= -1:=by
 unfold litQ
 rw [List.find?_eq_none.2 fun y hy=>by
  have h1:=h (y.1,y.2.1) (List.mem_map.2 ⟨y,hy,rfl⟩)
  have h2:=wt_ready hq y hy
  simp only [decide_eq_true_eq]
  simp only at h1
  omega]
structure LgB (w w2 V:World) (p:Value) (d s:Int) (Y Z:List Nat):Prop where
 t:Turned [] w V
 r0:V.heap[w.heap.size]?=some (.cells #[p] tPp (0,0))
 r1:V.heap[w.heap.size+1]?=some (.cells #[.int .i64 d] 3 (0,0))
 r2:V.heap[w.heap.size+2]?=some (.cells #[.int .i64 s] 3 (0,0))
 ym:SameAt Y w2 V
 zm:∀k ∈ Z,w2.heap.size≤k∧k < V.heap.size
 sz:w2.heap.size≤V.heap.size
section
variable {w w2 A B:World} {p:Value} {d s:Int} {Y Z Z':List Nat}
theorem LgB.mild (h:LgB w w2 A p d s Y Z) (m:Mild Z w2.heap.size A B) (hN:w.heap.size+3≤w2.heap.size) (hY:∀k ∈ Y,k < w2.heap.size) (hn:Newer Z A.heap.size Z') (hb:∀k ∈ Z',k < B.heap.size):LgB w w2 B p d s Y Z':=by
 have off:∀k,k < w2.heap.size→k ∉ Z:=fun k hk hz=>by have:=(h.zm k hz).1;omega
 refine⟨h.t.mild m (by omega) (fun k hk=>by have:=(h.zm k hk).1;omega),m.cells h.r0 (off _ (by omega)),m.cells h.r1 (off _ (by omega)),m.cells h.r2 (off _ (by omega)),fun k hk=>?_,fun k hk=>⟨?_,hb k hk⟩,Nat.le_trans h.sz m.size⟩
 ·have h1:=hY k hk
  have h2:A.heap[k]?=some (A.heap[k]'(by have:=h.sz;omega)):=Array.getElem?_eq_getElem _
  rw [m.same k _ h2 (off k h1) (.inl h1), ←h2]
  exact h.ym k hk
 ·rcases hn k hk with h1|h1
  ·exact (h.zm k h1).1
  ·have:=h.sz;omega
theorem LgB.later (h:LgB w w2 A p d s Y Z) (t:Turned [] A B) (hY:∀k ∈ Y,k < w2.heap.size):LgB w w2 B p d s Y Z:=
 ⟨h.t.join t,t.same h.r0 (by simp),t.same h.r1 (by simp),t.same h.r2 (by simp),fun k hk=>(t.block k (Nat.lt_of_lt_of_le (hY k hk) h.sz) (by simp)).trans (h.ym k hk),fun k hk=>⟨(h.zm k hk).1,Nat.lt_of_lt_of_le (h.zm k hk).2 t.size⟩,Nat.le_trans h.sz t.size⟩
theorem LgB.set (h:LgB w w2 A p d s Y Z) (hY:∀k ∈ Y,k≠w.heap.size+2) (s':Int):LgB w w2 (A.setCell ⟨w.heap.size+2,0,none⟩ (.int .i64 s')) p d s' Y Z:=by
 have T:=(Turned.refl [w.heap.size+2] A).setCell (p:=⟨w.heap.size+2,0,none⟩) (.inl (by simp)) (.int .i64 s')
 refine⟨h.t.trans' T (fun k hk=>by simp at hk;omega),(Below.heap_setCell _ _ _ _ (by simp)).trans h.r0,(Below.heap_setCell _ _ _ _ (by simp)).trans h.r1,?_,fun k hk=>(Below.heap_setCell _ _ _ k (hY k hk)).trans (h.ym k hk),fun k hk=>?_,Nat.le_trans h.sz T.size⟩
 ·rw [heap_setCell_same _ _ _ _ _ _ h.r2]
  rfl
 ·have:=h.zm k hk
  exact⟨this.1,Nat.lt_of_lt_of_le this.2 T.size⟩
theorem keeps_turned0 {A B:World} (t:Turned [] A B) (n:Nat):KeepsFrom n A B:=⟨t.size,fun k o _ hk _=>t.same hk (by simp)⟩
end
section
variable {w w':World} {b d:Nat} {X X0 Y:List Nat} {T:List Tq} {l:List Rq} {q:Rq} {c:Int}
theorem rp_ready (h:RpAt w b X q) (hq:QOk q c):Calls Try.prog 38 #[.pointer (some ⟨b,0,none⟩)] w fun e w'=>∃Bx,e= .returned (.func (.func 55) #[] #[.pointer (some ⟨Bx,0,none⟩)])∧Turned [] w w'∧
  ∃Y:List Nat,(∀k ∈ Y,k < w'.heap.size∧∃cs,w'.heap[k]?=some (.cells cs tNd (0,0)))∧∀n,TurnSeqY Fence.wide n Try.prog 55 #[.pointer (some ⟨Bx,0,none⟩)] encR Y [] (fun xs=>xs <+:rdyL q) (fun xs _ _=>xs=rdyL q) (fun xs _ _=>xs <+:rdyL q) w':=by
 obtain⟨bt,br,T,R,B,r,rfl,h⟩:=h
 exact rpReady h hq
theorem int_result2 {fn:Func} {p:Tmp} (hf:fn.results= #[.cell p 3]) {tmps:Array Value} {w:World} {N:Nat} {s:Int}
  (q1:tmps.getD p undef= .pointer (some ⟨N,0,none⟩)) (h0:w.heap[N]?=some (.cells #[.int .i64 s] 3 (0,0))):(results fn tmps).run Try.prog w= .ok (.int .i64 s) w:=by
 have a0:=cell1 h0
 have q1':tmps[p]?.getD undef= .pointer (some ⟨N,0,none⟩):=by simpa using q1
 simp [results,hf,q1',loadVar,go_sem,a0,asAddr,Sem.run_bind,Result.andThen]
theorem cplighter (h:RpAt w b X q) (hq:QOk q c) (d:Int):
  Calls Try.prog 23 #[.pointer (some ⟨b,0,none⟩), .int .i64 d] w fun e w'=>e= .returned (.int .i64 (litQ q d))∧Turned [] w w':=by
 obtain⟨N,hN⟩:∃N,w.heap.size=N:=⟨_,rfl⟩
 obtain⟨W,hW⟩:∃W,((w.alloc (.cells #[.pointer (some ⟨b,0,none⟩)] tPp)).alloc (.cells #[.int .i64 d] 3)).alloc (.cells #[.int .i64 0] 3)=W:=⟨_,rfl⟩
 have TW:Turned [] w W:=hW ▸ (((Turned.refl [] w).alloc _).alloc _).alloc _
 have e0:W.heap[w.heap.size]?=some (.cells #[.pointer (some ⟨b,0,none⟩)] tPp (0,0)):=by
  rw [←hW];exact ((Below.heap_alloc _ _ _ (by simp;omega)).trans (Below.heap_alloc _ _ _ (by simp))).trans (heap_alloc_new w _)
 have e1:W.heap[w.heap.size+1]?=some (.cells #[.int .i64 d] 3 (0,0)):=by
  have q:=heap_alloc_new (w.alloc (.cells #[.pointer (some ⟨b,0,none⟩)] tPp)) (.cells #[.int .i64 d] 3)
  rw [show (w.alloc (.cells #[.pointer (some ⟨b,0,none⟩)] tPp)).heap.size=w.heap.size+1 by simp] at q
  rw [←hW];exact (Below.heap_alloc _ _ _ (by simp)).trans q
 have e2:W.heap[w.heap.size+2]?=some (.cells #[.int .i64 0] 3 (0,0)):=by
  have q:=heap_alloc_new ((w.alloc (.cells #[.pointer (some ⟨b,0,none⟩)] tPp)).alloc (.cells #[.int .i64 d] 3)) (.cells #[.int .i64 0] 3)
  rw [show ((w.alloc (.cells #[.pointer (some ⟨b,0,none⟩)] tPp)).alloc (.cells #[.int .i64 d] 3)).heap.size=w.heap.size+2 by simp] at q
  rw [←hW];exact q
 have hs3:w.heap.size+3≤W.heap.size:=lt_of_block e2
 have HA:=xhd (rp_ready (rp_keep0 h TW) hq)
 have HWT:=xhd (fun V (t:Turned [] w V) id=>rp_weight (rp_keep0 h t) id)
 have HLA:=xhd (fun pre x h1 h2 h3=>lit_at (d:=d) hq (pre:=pre) (x:=x) h1 h2 h3)
 have HLN:=xhd (fun h1=>lit_no (d:=d) hq h1)
 have HE:=xhd (And.intro e0 (And.intro e1 e2))
 have HT:=xhd TW
 have HW:=xhd hW
 have b0:W.cell? ⟨N,0,none⟩=some (.pointer (some ⟨b,0,none⟩)):=by rw [hN] at e0;exact cell1 e0
 clear h hq hW TW e0 e1 e2
 refine callsIn_wide.1 (?_:CallsIn Fence.wide 20 _ _ _ _ _)
 refine callsIn_of_wp_marks Try.func23 rfl trivial ?_ rfl
 simp only [Try.ntmps23,List.size_toArray,List.length_cons,List.length_nil,Nat.reduceAdd,Nat.reduceSub,Array.replicate_succ,Array.replicate_zero,List.push_toArray,List.append_toArray,List.nil_append,List.cons_append]
 refine wpIn_wide.2 ?_
 rw [hN] at hs3
 go_wp2_with fail
 (try simp only [Nat.add_assoc,Nat.reduceAdd])
 (try rw [HW.out])
 (try rw [hN])
 (try go_wp2_with fail)
 with_reducible refine HA.out.mono ?_
 rintro e w2 ⟨Bx,rfl,t2,Y,hY,hseq⟩
 have hN3:w.heap.size+3≤w2.heap.size:=by have:=t2.size;omega
 have F0:LgB w w2 w2 (.pointer (some ⟨b,0,none⟩)) d 0 Y []:=⟨HT.out.join t2,t2.same HE.out.1 (by simp),t2.same HE.out.2.1 (by simp),t2.same HE.out.2.2 (by simp),SameAt.refl _ _,fun k hk=>by simp at hk,Nat.le_refl _⟩
 have hYo:∀k ∈ Y,k≠w.heap.size+2:=fun k hk e=>by
  obtain⟨_,cs,hc⟩:=hY k hk
  rw [e,F0.r2] at hc
  injection hc with hc
  injection hc with _ hc
  exact absurd hc (by decide)
 have hYl:∀k ∈ Y,k < w2.heap.size:=fun k hk=>(hY k hk).1
 have HF0:=xhd F0
 have HYO:=xhd hYo
 have HYL:=xhd hYl
 have HSQ:=xhd hseq
 have HN3:=xhd hN3
 have HNN:=xhd hN
 clear t2 hY hseq F0 hYo hYl hN3 hN hs3 HA HE HT HW b0
 go_wp2_with fail
 refine (wpIn_wide (n:=20)).1 ?_
 refine range_turnsY_plain rfl (by omega) rfl trivial (fun _ _=>rfl) (Y:=Y) (X:=[]) (by simp) HYL.out (HSQ.out 19) (fun _=>rfl) (fun _ _ _ _ h _=>h) (fun _ _ _ _ h _=>h)
  (fun xs Z V=>(∀y ∈ xs,d≤wtV q y.1)∧LgB w w2 V (.pointer (some ⟨b,0,none⟩)) d 0 Y Z)
  (fun cc xs Z V=>cc= .ret∧∃pre x,xs=pre++[x]∧(∀y ∈ pre,d≤wtV q y.1)∧wtV q x.1 < d∧LgB w w2 V (.pointer (some ⟨b,0,none⟩)) d x.1 Y Z)
  (fun xs Z Z' A B h m hn hb=>⟨h.1,h.2.mild m HN3.out HYL.out hn hb⟩)
  (fun cc xs Z Z' A B h m hn hb=>⟨h.1,by obtain⟨pre,x,h1,h2,h3,hf⟩:=h.2;exact⟨pre,x,h1,h2,h3,hf.mild m HN3.out HYL.out hn hb⟩⟩)
  ⟨by simp,HF0.out⟩ (fun _ _ _ h=>h.2.ym) (fun _ _ _ _ h=>by obtain⟨_,_,_,_,_,_,hf⟩:=h;exact hf.ym) ?a1 ?assign ?body ?done ?stop
 case assign=>
  intro l' x V K hK
  gi_wp2
  exact hK
 case body=>
  rintro l' pre ⟨x1,x2⟩ Z V ⟨hall,hI⟩ hsp
  have b0:V.cell? ⟨N,0,none⟩=some (.pointer (some ⟨b,0,none⟩)):=by have:=hI.r0;rw [HNN.out] at this;exact cell1 this
  have HC:=xhd (HWT.out V hI.t x1)
  have HI:=xhd hI
  have HALL:=xhd hall
  clear hI hall hsp
  dsimp only
  obtain⟨z,hz⟩:∃z,wtV q x1=z:=⟨_,rfl⟩
  obtain⟨bb,hbb⟩:∃bb,(findQ q.l x1).isSome=bb:=⟨_,rfl⟩
  rw [hz,hbb] at HC
  have HZ:=xhd hz
  clear hz hbb
  gi_wp2_with fail
  refine⟨trivial,?_⟩
  refine (CallsIn.inRound l' (callsIn_wide.2 HC.out)).mono ?_
  rintro e V1 ⟨rfl,t1⟩
  have HI1:=xhd (HI.out.later t1 HYL.out)
  have HK1:=xhd (keeps_turned0 t1 w2.heap.size)
  have HZ1:Hid (SameAt Z V V1):=xhd fun k hk=>t1.block k (HI.out.zm k hk).2 (by simp)
  have b1:V1.cell? ⟨N+1,0,none⟩=some (.int .i64 d):=by have:=HI1.out.r1;rw [HNN.out] at this;exact cell1 this
  clear t1 b0
  by_cases hlt:z < d
  ·have b2:V1.cell? ⟨N+2,0,none⟩=some (.int .i64 0):=by have:=HI1.out.r2;rw [HNN.out] at this;exact cell1 this
   have f2:V1.frozen? ⟨N+2,0,none⟩=false:=by have:=HI1.out.r2;rw [HNN.out] at this;exact frozen_of_row V1 (N+2) 0 _ _ this
   have HS:=HI1.out.set HYO.out x1
   rw [HNN.out] at HS
   have HLT:=xhd hlt
   have HSS:=xhd HS
   have hz3:∀k ∈ Z,N+3≤k:=fun k hk=>by have h1:=(HI1.out.zm k hk).1;have h2:=HN3.out;rw [HNN.out] at h2;omega
   have R:Hid (KeepsFrom w2.heap.size V (V1.setCell ⟨N+2,0,none⟩ (.int .i64 x1))∧SameAt Z V (V1.setCell ⟨N+2,0,none⟩ (.int .i64 x1))):=xhd ⟨HK1.out.trans ((KeepsOthers.setCell _ _ _).from _),fun k hk=>(Below.heap_setCell _ _ _ k (by have:=hz3 k hk;simp;omega)).trans (HZ1.out k hk)⟩
   clear HS hz3
   gi_wp2
   exact⟨R.out.1,R.out.2,rfl,pre,(x1,x2),rfl,HALL.out,by rw [HZ.out];exact HLT.out,HSS.out⟩
  ·have HLT:=xhd hlt
   gi_wp2
   refine⟨HK1.out,HZ1.out,fun y hy=>?_,HI1.out⟩
   rcases List.mem_append.1 hy with h1|h1
   ·exact HALL.out y h1
   ·rw [List.mem_singleton] at h1
    subst h1
    have:=HLT.out
    have:=HZ.out
    dsimp only
    omega
 case done=>
  rintro D xs Z V hD hz rfl ⟨hall,hI⟩ hK
  have b2:V.cell? ⟨N+2,0,none⟩=some (.int .i64 0):=by have:=hI.r2;rw [HNN.out] at this;exact cell1 this
  have f2:V.frozen? ⟨N+2,0,none⟩=false:=by have:=hI.r2;rw [HNN.out] at this;exact frozen_of_row V (N+2) 0 _ _ this
  have hS:=hI.set HYO.out (-1)
  have HV:=xhd (HLN.out hall)
  rw [HNN.out] at hS
  have HS:=xhd hS
  have HD:Hid (N+3≤D):=xhd (by have:=HN3.out;rw [HNN.out] at this;omega)
  have HKD:Hid ((V.setCell ⟨N+2,0,none⟩ (.int .i64 (-1))).heap[D]?=some (.deferred (some []))):=xhd ((Below.heap_setCell _ _ _ D (by have:=HD.out;simp;omega)).trans hK)
  clear hS hI hK hall hz
  go_wp2
  refine⟨by simp, .inl ⟨_,_,rfl,run_takeDeferred HKD.out,?_⟩⟩
  have hd:=HD.out
  have HI:=HS.out
  have i2:=HI.r2
  rw [HNN.out] at i2
  refine⟨_,int_result2 (N:=N+2) rfl rfl ((World.putObj_heap_other (by omega)).trans i2),?_,HI.t.put (by rw [HNN.out];omega) _⟩
  rw [HV.out]
 case stop=>
  rintro D cc xs Z V hD hz hsx ⟨rfl,pre,x,rfl,hp,hx,hI⟩ hK
  have HV:=xhd (HLA.out pre x hsx hp hx)
  have HD:w.heap.size+3≤D:=Nat.le_trans HN3.out hD
  refine wpIn_ret ?_
  simp only [Exit.inBlock]
  refine⟨by simp, .inl ⟨_,_,rfl,run_takeDeferred hK,?_⟩⟩
  refine⟨_,int_result2 (N:=w.heap.size+2) rfl (by rw [HNN.out];rfl) ((World.putObj_heap_other (by omega)).trans hI.r2),?_,hI.t.put (by omega) _⟩
  rw [HV.out]
end
end Go.Proofs.Ytfmciiffcmfagaa
namespace Go.Proofs.Ytfmciiffcmfagaa
open Go.RowKit
theorem cpInfoInt:(Try.prog.info? 3).map (fun i=>(i.zero,i.size,i.bytes))=some (some (.int .i64 0),1,8):=by kernel_rfl
def loadsTo (l:List Rq) (k:Nat):List Value:=(l.take k).map fun q=> .int .i64 (loadQ q)
theorem loadsTo_succ {l:List Rq} {k:Nat} {q:Rq} (h:l[k]?=some q):loadsTo l (k+1)=loadsTo l k++[.int .i64 (loadQ q)]:=by
 unfold loadsTo
 rw [List.take_add_one,h,List.map_append]
 rfl
theorem cp_one_cell (W:World) (v:Value) (t:TypeId):(W.alloc (Obj.cells #[v] t)).cell? ⟨W.heap.size,0,none⟩=some v:=by simp
section
variable {w w':World} {b d:Nat} {X X0 Y:List Nat} {T:List Tq} {l:List Rq} {q:Rq} {c:Int}
theorem rp_load (h:RpAt w b X q) (hq:QOk q c):Calls Try.prog 21 #[.pointer (some ⟨b,0,none⟩)] w fun e w'=>e= .returned (.int .i64 (loadQ q))∧Turned [] w w':=by
 obtain⟨bt,br,T,R,B,r,rfl,h⟩:=h
 exact rpLoad h hq
structure LdI (w V:World) (v:Value) (n:Nat) (xs:List Value):Prop where
 row:V.ownsRow w.heap.size 3 1 v n xs
 t:Turned [] w V
theorem LdI.later {w V V':World} {v:Value} {n:Nat} {xs:List Value} (h:LdI w V v n xs) (t:Turned [] V V'):LdI w V' v n xs:=
 ⟨ownsRow_same h.row (fun k _ hl=>t.block k hl (by simp)),h.t.join t⟩
theorem cploads (h:CpI w b X0 T l) (hc:COk l c):Calls Try.prog 10 #[.pointer (some ⟨b,0,none⟩)] w fun e w'=>∃v,e= .returned v∧LdI w w' v l.length (loadsTo l l.length):=by
 obtain⟨i0,hi0,hz0,hz1,hz2⟩:=info_parts cpInfoInt
 have HL:=xhd (cplen h)
 have HV:=xhd (fun V (t:Turned [] w V)=>(h.keep0 t).view)
 have HOK:=xhd hc.ok
 have hlen:l.length≤4:=hc.len.2
 obtain⟨n,hn⟩:∃n,l.length=n:=⟨_,rfl⟩
 have HN:=xhd hn
 rw [hn] at HL hlen HV ⊢
 clear h hn hc
 go_enter Try.func10,Try.ntmps10
 go_wp2_with fail
 with_reducible refine HL.out.mono ?_
 rintro e w1 ⟨rfl,rfl⟩
 clear HL
 go_wp2
 go_loopw [3,7] (fun o iv V=>∃k:Nat,k≤n∧iv= .int .i64 k∧Hid (LdI w V o k (loadsTo l k))) (fun _ iv _=>n - (intOf iv).toNat)
 case atStart=>exact⟨0,Nat.zero_le _,rfl,xhd ⟨World.ownsRow_nil _ _ _ _,Turned.refl _ _⟩⟩
 case round=>
  obtain⟨k,hk,rfl,HI⟩:=hrel
  by_cases hlt:k < n
  ·have hq:l[k]?=some (l[k]'(by have:=HN.out;omega)):=List.getElem?_eq_getElem _
   obtain⟨q,hqq⟩:∃q,l[k]'(by have:=HN.out;omega)=q:=⟨_,rfl⟩
   rw [hqq] at hq
   obtain⟨a,cap,c0,_,hr⟩:=HV.out _ HI.out.t
   obtain⟨g,d,Y,rfl,_,cp,hat⟩:=hr k q hq
   have HAT:=xhd (rp_load hat (HOK.out q (mem_at hq)))
   have HLT:=xhd hlt
   have HS:=xhd (loadsTo_succ hq)
   have i1:(0:Int)≤k:=by omega
   have i2:(k:Int) < n:=by omega
   obtain⟨y,hy⟩:∃y,loadQ q=y:=⟨_,rfl⟩
   rw [hy] at HAT HS
   clear hq hqq hat hr hlt hy
   go_wp2_with fail
   with_reducible refine HAT.out.mono ?_
   rintro e w2 ⟨rfl,t2⟩
   have HI2:=xhd (HI.out.later t2)
   clear t2 c0 cp
   go_wp2_with (at_builtin;refine wpList_append_own _ rfl _ _ 32 rfl w.heap.size 3 i0 (.int .i64 0) 1 8 Try.underlying32 hi0 hz0 hz1 hz2 rfl (by decide) _ _ _ rfl (HI2.out.row.alloc _) ⟨w2.heap.size,0,none⟩ 1 1 [.int .i64 y] rfl rfl ?c1 ?c2 ?c3 ?c4 ?c5 ?_)
   case c1=>
    intro j u hj
    match j,hj with
    |0,hj=>simp at hj;subst hj;exact cp_one_cell w2 _ _
   case c2=>intro u hu;simp at hu;subst hu;rfl
   case c3=>unfold maxLen;omega
   case c4=>omega
   case c5=>have:=HI2.out.t.size;simp;omega
   intro v' w3 hown3 hgrow _
   have HF:Hid (LdI w w3 v' (k+1) (loadsTo l (k+1))):=xhd ⟨by rw [HS.out];exact hown3,Turned.grown (HI2.out.t.alloc _) hgrow fun j hj=> .inr (HI2.out.row.lt j (by simpa using hj)).1⟩
   clear hown3 hgrow
   go_wp2
   go_roundw
   case rel=>exact⟨k+1,by have:=HLT.out;omega,by go_num,HF⟩
   case measure=>have:=HLT.out;simp [intOf];omega
  ·have hk':k=n:=by omega
   subst hk'
   go_wp2
   go_ret
   exact⟨_,rfl,HI.out⟩
theorem LdI.view {w V:World} {v:Value} (h:LdI w V v l.length (loadsTo l l.length)) (hl:1≤l.length):∃g cap,v= .slice (some ⟨g,0,none⟩) l.length cap∧w.heap.size≤g∧l.length≤cap∧cap≤maxLen∧∀i q,l[i]?=some q→V.cell? ⟨g,i,none⟩=some (.int .i64 (loadQ q)):=by
 obtain⟨g,cap,rfl,hc',hm'⟩:=ownsRow_pos h.row (by omega)
 have h0:V.ownsRow 0 3 1 (.slice (some ⟨g,0,none⟩) l.length cap) l.length (cellsOf (fun q:Rq=>[Value.int .i64 (loadQ q)]) l):=by
  have e:cellsOf (fun q:Rq=>[Value.int .i64 (loadQ q)]) l=loadsTo l l.length:=by
   unfold loadsTo
   rw [List.take_length]
   clear h hl hc' hm'
   induction l with
   |nil=>rfl
   |cons x t ih=>simpa [cellsOf] using ih
  rw [e]
  exact⟨h.row.1,h.row.2.imp_right fun ⟨g',cap',cur,hv,_,rest⟩=>⟨g',cap',cur,hv,Nat.zero_le _,rest⟩⟩
 refine⟨g,cap,rfl,(h.row.lt g (by simp [Value.ownBlock])).1,hc',hm',fun i q hq=>?_⟩
 have hi:i < l.length:=(List.getElem?_eq_some_iff.1 hq).1
 have r:=(row_cells (k:=1) (fun _=>rfl) h0 (j:=i) hi 0 (by decide)).1
 rw [(List.getElem?_eq_some_iff.1 hq).2] at r
 simpa using r
end
end Go.Proofs.Ytfmciiffcmfagaa
namespace Go.Proofs.Ytfmciiffcmfagaa
open Go.RowKit
theorem results_tmp4 {fn:Func} {t u v x:Tmp} (h:fn.results= #[.tmp t, .tmp u, .tmp v, .tmp x]) (tmps:Array Value) (P:Program) (w:World):
  (results fn tmps).run P w= .ok (.tuple #[tmps.getD t undef,tmps.getD u undef,tmps.getD v undef,tmps.getD x undef]) w:=by
 simp [results,h]
section
variable {w w':World} {b d:Nat} {X X0 Y:List Nat} {T:List Tq} {l:List Rq} {q:Rq} {c:Int}
theorem cpextremes {w:World} {l:List Rq} {g n cap:Nat} (h1:1≤n) (h4:n≤4) (hcell:∀i,i < n→w.cell? ⟨g,i,none⟩=some (.int .i64 (loadAt l i))) (hr:∀i,0≤loadAt l i∧loadAt l i≤65536):
  Calls Try.prog 22 #[.slice (some ⟨g,0,none⟩) n cap] w fun e w'=>e= .returned (.tuple #[.int .i64 (mostTo l n:Nat), .int .i64 (leastTo l n:Nat), .int .i64 (loadAt l (mostTo l n) - loadAt l (leastTo l n))])∧Turned [] w w':=by
 have HC:=xhd hcell
 have HR:=xhd hr
 clear hcell hr
 go_enter Try.func22,Try.ntmps22
 go_wp2
 go_loop [5,6,11] (fun mo le iv=>∃k:Nat,k≤n∧iv= .int .i64 k∧mo= .int .i64 (mostTo l k:Nat)∧le= .int .i64 (leastTo l k:Nat)∧Hid (mostTo l k < n∧leastTo l k < n)) (fun _ _ iv=>n - (intOf iv).toNat)
 case atStart=>exact⟨0,Nat.zero_le _,rfl,rfl,rfl,xhd ⟨by simp [mostTo];omega,by simp [leastTo];omega⟩⟩
 case round=>
  obtain⟨k,hk,rfl,rfl,rfl,HML⟩:=hrel
  by_cases hlt:k < n
  ·have em:=mostTo_succ l k
   have el:=leastTo_succ l k
   obtain⟨hm0,hl0⟩:=HML.out
   have p1:=HC.out k hlt
   have p2:=HC.out _ hm0
   have p3:=HC.out _ hl0
   have HEM:=xhd em
   have HEL:=xhd el
   have HLT:=xhd hlt
   have i0:(0:Int)≤k:=by omega
   have i1:(k:Int) < n:=by omega
   have i2:(0:Int)≤(mostTo l k:Nat):=by omega
   have i3:((mostTo l k:Nat):Int) < n:=by omega
   have i4:(0:Int)≤(leastTo l k:Nat):=by omega
   have i5:((leastTo l k:Nat):Int) < n:=by omega
   clear hm0 hl0 em el
   generalize mostTo l k=m at i2 i3 p2 HEM HML ⊢
   generalize leastTo l k=s at i4 i5 p3 HEL HML ⊢
   generalize loadAt l k=la at p1 HEM HEL
   generalize loadAt l m=lm at p2 HEM
   generalize loadAt l s=ls at p3 HEL
   clear hk hlt
   cases a1:decide (lm < la) with
   |true=>
    cases a2:decide (la < ls) with
    |true=>
     go_wp2
     go_round
     case rel=>exact⟨k+1,HLT.out,by go_num,by rw [HEM.out];rw [if_pos (of_decide_eq_true a1)],by rw [HEL.out];rw [if_pos (of_decide_eq_true a2)],xhd ⟨by rw [HEM.out];rw [if_pos (of_decide_eq_true a1)];exact HLT.out,by rw [HEL.out];rw [if_pos (of_decide_eq_true a2)];exact HLT.out⟩⟩
     case measure=>have:=HLT.out;simp [intOf];omega
    |false=>
     go_wp2
     go_round
     case rel=>exact⟨k+1,HLT.out,by go_num,by rw [HEM.out];rw [if_pos (of_decide_eq_true a1)],by rw [HEL.out];rw [if_neg (of_decide_eq_false a2)],xhd ⟨by rw [HEM.out];rw [if_pos (of_decide_eq_true a1)];exact HLT.out,by rw [HEL.out];rw [if_neg (of_decide_eq_false a2)];exact HML.out.2⟩⟩
     case measure=>have:=HLT.out;simp [intOf];omega
   |false=>
    cases a2:decide (la < ls) with
    |true=>
     go_wp2
     go_round
     case rel=>exact⟨k+1,HLT.out,by go_num,by rw [HEM.out];rw [if_neg (of_decide_eq_false a1)],by rw [HEL.out];rw [if_pos (of_decide_eq_true a2)],xhd ⟨by rw [HEM.out];rw [if_neg (of_decide_eq_false a1)];exact HML.out.1,by rw [HEL.out];rw [if_pos (of_decide_eq_true a2)];exact HLT.out⟩⟩
     case measure=>have:=HLT.out;simp [intOf];omega
    |false=>
     go_wp2
     go_round
     case rel=>exact⟨k+1,HLT.out,by go_num,by rw [HEM.out];rw [if_neg (of_decide_eq_false a1)],by rw [HEL.out];rw [if_neg (of_decide_eq_false a2)],xhd ⟨by rw [HEM.out];rw [if_neg (of_decide_eq_false a1)];exact HML.out.1,by rw [HEL.out];rw [if_neg (of_decide_eq_false a2)];exact HML.out.2⟩⟩
     case measure=>have:=HLT.out;simp [intOf];omega
  ·have hkn:k=n:=by omega
   subst hkn
   obtain⟨hm0,hl0⟩:=HML.out
   have p2:=HC.out _ hm0
   have p3:=HC.out _ hl0
   have i2:(0:Int)≤(mostTo l k:Nat):=by omega
   have i3:((mostTo l k:Nat):Int) < k:=by omega
   have i4:(0:Int)≤(leastTo l k:Nat):=by omega
   have i5:((leastTo l k:Nat):Int) < k:=by omega
   have hma:=HR.out (mostTo l k)
   have hla:=HR.out (leastTo l k)
   have hwrap:IntKind.i64.wrap (loadAt l (mostTo l k) - loadAt l (leastTo l k))=loadAt l (mostTo l k) - loadAt l (leastTo l k):=by rw [IntKind.wrap_i64];omega
   clear HML hm0 hl0 hma hla hk hlt HR HC
   generalize hA:loadAt l (mostTo l k)=lm at p2 hwrap
   generalize hB:loadAt l (leastTo l k)=ls at p3 hwrap
   have HA:=xhd hA
   have HB:=xhd hB
   clear hA hB
   generalize hM:mostTo l k=m at i2 i3 p2
   generalize hS:leastTo l k=s at i4 i5 p3
   have HM:=xhd hM
   have HS:=xhd hS
   clear hM hS
   go_wp2_with fail
   go_quiet (fail)
   go_wp2
   go_ret3
   rw [HA.out,HB.out,HM.out,HS.out]
   exact⟨rfl,(Turned.refl _ _).drewN _⟩
theorem bal_lit {l:List Rq} {k t:Nat} {q:Rq} (hq:l[k]?=some q) (hk:k=mostTo l l.length) (ht:t=leastTo l l.length):
  (litQ q (loadAt l k - loadAt l t)= -1∧balC l=none)∨∃id,litQ q (loadAt l k - loadAt l t)=id∧balC l=some (id,k,t):=by
 unfold balC litQ
 rw [←hk, ←ht,readyAt_some hq]
 cases (sortQ q.ready).find? (fun x=>decide (x.2.2 < loadAt l k - loadAt l t)) with
 |none=>exact .inl ⟨rfl,rfl⟩
 |some x=>exact .inr ⟨x.1,rfl,rfl⟩
theorem cpbalance (h:CpI w b X0 T l) (hc:COk l c):
  Calls Try.prog 11 #[.pointer (some ⟨b,0,none⟩)] w fun e w'=>e= .returned (.tuple #[.int .i64 (balV l).1, .int .i64 (balV l).2.1, .int .i64 (balV l).2.2, .bool (balC l).isSome])∧∃T',CpI w' b X0 T' (balanceC l)∧Turned (blk X0 T) w w'∧Newer (blk X0 T) w.heap.size (blk X0 T'):=by
 have hlen:=hc.len
 have hmo:=most_lt (l:=l) (by omega)
 have hle:=least_lt (l:=l) (by omega)
 have hqm:l[mostTo l l.length]?=some (l[mostTo l l.length]'hmo):=List.getElem?_eq_getElem hmo
 have hql:l[leastTo l l.length]?=some (l[leastTo l l.length]'hle):=List.getElem?_eq_getElem hle
 obtain⟨q,hq⟩:∃q,l[mostTo l l.length]'hmo=q:=⟨_,rfl⟩
 obtain⟨r,hr⟩:∃r,l[leastTo l l.length]'hle=r:=⟨_,rfl⟩
 rw [hq] at hqm
 rw [hr] at hql
 obtain⟨d1,Y1,hT1⟩:=cp_row h hqm
 obtain⟨d2,Y2,hT2⟩:=cp_row h hql
 have HL:=xhd (cplen h)
 have HLD:=xhd (cploads h hc)
 have HEX:Hid (∀V v,LdI w V v l.length (loadsTo l l.length)→∃g cap,v= .slice (some ⟨g,0,none⟩) l.length cap∧Calls Try.prog 22 #[.slice (some ⟨g,0,none⟩) l.length cap] V fun e w'=>e= .returned (.tuple #[.int .i64 (mostTo l l.length:Nat), .int .i64 (leastTo l l.length:Nat), .int .i64 (loadAt l (mostTo l l.length) - loadAt l (leastTo l l.length))])∧Turned [] V w'):=xhd fun V v hv=>by
  obtain⟨g,cap,hg,_,_,_,hcl⟩:=hv.view hlen.1
  exact⟨g,cap,hg,cpextremes hlen.1 hlen.2 (fun i hi=>by
   have hqi:l[i]?=some l[i]:=List.getElem?_eq_getElem hi
   rw [loadAt_some hqi]
   exact hcl i _ hqi) (loadAt_range hc)⟩
 have HV:Hid (∀V,Turned [] w V→∃g cap,b ∈ X0∧g ∈ X0∧V.cell? ⟨b,0,none⟩=some (.slice (some ⟨g,0,none⟩) l.length cap)∧V.cell? ⟨g,mostTo l l.length,none⟩=some (.pointer (some ⟨d1,0,none⟩))∧V.cell? ⟨g,leastTo l l.length,none⟩=some (.pointer (some ⟨d2,0,none⟩))):=xhd fun V tV=>by
  obtain⟨a,cap,c0,_,hv⟩:=(h.keep0 tV).view
  obtain⟨g,d1',Y1',rfl,e1,cp1,_⟩:=hv _ q hqm
  obtain⟨g',d2',Y2',hg,e2,cp2,_⟩:=hv _ r hql
  cases hg
  rw [hT1] at e1
  cases e1
  rw [hT2] at e2
  cases e2
  obtain⟨m1,m2⟩:=(h.keep0 tV).own_at c0
  exact⟨g,cap,m1,m2,c0,cp1,cp2⟩
 have HLG:=xhd (fun V (tV:Turned [] w V)=>cplighter ((h.keep0 tV).qs.at_ _ _ q hT1 hqm) (hc.ok q (mem_at hqm)) (loadAt l (mostTo l l.length) - loadAt l (leastTo l l.length)))
 have hbl:=bal_lit hqm rfl rfl
 have HNO:Hid (balC l=none→∀W,Turned [] w W→balV l=(-1, -1, -1)∧(balC l).isSome=false∧∃T',CpI W b X0 T' (balanceC l)∧Turned (blk X0 T) w W∧Newer (blk X0 T) w.heap.size (blk X0 T')):=xhd fun hb W tW=>by
  unfold balV balanceC
  rw [hb]
  exact⟨rfl,rfl,T,h.keep0 tW,tW.mono (fun k hk=>by simp at hk),Newer.refl _ _⟩
 have HGO:Hid (∀id,balC l=some (id,mostTo l l.length,leastTo l l.length)→0≤id∧balV l=(id,((mostTo l l.length:Nat):Int),((leastTo l l.length:Nat):Int))∧(balC l).isSome=true∧∀W,Turned [] w W→Calls Try.prog 24 #[.int .i64 id, .pointer (some ⟨d1,0,none⟩), .pointer (some ⟨d2,0,none⟩)] W fun e w'=>e= .returned (.int .i64 0)∧SameAt X0 W w'∧∃T',CpI w' b X0 T' (balanceC l)∧Turned (blk X0 T) w w'∧Newer (blk X0 T) w.heap.size (blk X0 T')):=xhd fun id hb=>by
  obtain⟨q',x,hq',hx,ht,_,_,_,_,hkt,_⟩:=balC_some hc hb
  rw [hqm] at hq'
  cases hq'
  have hf:(findQ q.l id).isSome=true:=by rw [hx];rfl
  have hid:0≤id:=(hc.ok q (mem_at hqm)).ids _ (findQ_mem hx)
  refine⟨hid,by unfold balV;rw [hb],by rw [hb];rfl,fun W tW=>?_⟩
  have e:balanceC l=goC l id (mostTo l l.length) (leastTo l l.length):=by
   unfold balanceC
   rw [hb]
  rw [e]
  refine (cpcarry (h.keep0 tW) hc hqm hf ht hkt hT1 hT2).mono ?_
  rintro e w' ⟨he,hs,T',h1,h2,h3⟩
  exact⟨he,hs,T',h1,(tW.mono (fun k hk=>by simp at hk)).trans h2 (Newer.refl _ _),fun k hk=>(h3 k hk).imp_right (Nat.le_trans tW.size)⟩
 obtain⟨n,hn⟩:∃n,l.length=n:=⟨_,rfl⟩
 rw [hn] at HL HLD HEX HV HLG hbl HGO hlen hmo hle
 have hn1:0 < (n:Int):=by omega
 have i2:(0:Int)≤(mostTo l n:Nat):=by omega
 have i3:((mostTo l n:Nat):Int) < n:=by omega
 have i4:(0:Int)≤(leastTo l n:Nat):=by omega
 have i5:((leastTo l n:Nat):Int) < n:=by omega
 obtain⟨dd,hdd⟩:∃dd,loadAt l (mostTo l n) - loadAt l (leastTo l n)=dd:=⟨_,rfl⟩
 rw [hdd] at HEX HLG hbl
 clear h hc hqm hql hq hr hT1 hT2 hlen hmo hle hn hdd
 generalize mostTo l n=mo at HEX HV HGO hbl i2 i3
 generalize leastTo l n=le at HEX HV HGO hbl i4 i5
 have HBL:=xhd hbl
 clear hbl
 go_enter Try.func11,Try.ntmps11
 go_wp2_with fail
 with_reducible refine HL.out.mono ?_
 rintro e w1 ⟨rfl,rfl⟩
 go_wp2_with fail
 with_reducible refine HLD.out.mono ?_
 rintro e w2 ⟨v,rfl,hv⟩
 obtain⟨g1,cap1,rfl,hex⟩:=HEX.out _ _ hv
 have T2:=xhd hv.t
 have HX:=xhd hex
 clear hv hex
 go_wp2_with fail
 with_reducible refine HX.out.mono ?_
 rintro e w3 ⟨rfl,t3⟩
 have T3:=xhd (T2.out.join t3)
 clear t3
 obtain⟨g,cap,m1,m2,c0,cp1,cp2⟩:=HV.out _ T3.out
 have HM:=xhd (And.intro m1 m2)
 clear m1 m2
 go_wp2_with fail
 with_reducible refine (HLG.out _ T3.out).mono ?_
 rintro e w4 ⟨rfl,t4⟩
 have T4:=xhd (T3.out.join t4)
 have C4:=xhd (And.intro (t4.cell0 c0) (And.intro (t4.cell0 cp1) (t4.cell0 cp2)))
 clear t4 c0 cp1 cp2
 rcases HBL.out with⟨hl,hb⟩ |⟨id,hl,hb⟩
 ·rw [hl]
  have HN:=xhd (HNO.out hb)
  clear hl hb
  obtain⟨c0,cp1,cp2⟩:=C4.out
  go_wp2_with fail
  go_quiet (fail)
  have HE:=xhd (HN.out _ (T4.out.drewN nq))
  clear c0 cp1 cp2
  go_wp2
  (try simp only [Exit.inBlock,Exit.then])
  refine bodyPost_ret (results_tmp4 rfl _ _ _) rfl ?_
  rw [HE.out.1,HE.out.2.1]
  exact⟨rfl,HE.out.2.2⟩
 ·rw [hl]
  obtain⟨h0,e1,e2,hca⟩:=HGO.out id hb
  have HB1:=xhd e1
  have HB2:=xhd e2
  have HCA:=xhd (hca w4.drew T4.out.drew)
  have hne:(id != -1)=true:=by simp;omega
  have HSM:Hid (∀V,SameAt X0 w4.drew V→V.cell? ⟨b,0,none⟩=some (.slice (some ⟨g,0,none⟩) n cap)∧V.cell? ⟨g,mo,none⟩=some (.pointer (some ⟨d1,0,none⟩))∧V.cell? ⟨g,le,none⟩=some (.pointer (some ⟨d2,0,none⟩))):=xhd fun V s=>by
   obtain⟨c0,cp1,cp2⟩:=C4.out
   exact⟨cell_same (A:=w4.drew) s HM.out.1 c0,cell_same (A:=w4.drew) s HM.out.2 cp1,cell_same (A:=w4.drew) s HM.out.2 cp2⟩
  clear e1 e2 hca hl hb h0
  obtain⟨f0,f1,f2⟩:=HSM.out _ (SameAt.refl _ _)
  go_wp2_with fail
  go_region_held3 (fun V=>V.cell? ⟨b,0,none⟩=some (.slice (some ⟨g,0,none⟩) n cap)∧V.cell? ⟨g,mo,none⟩=some (.pointer (some ⟨d1,0,none⟩))∧V.cell? ⟨g,le,none⟩=some (.pointer (some ⟨d2,0,none⟩)))
   (first|exact⟨j0,j1,j2⟩ |exact⟨f0,f1,f2⟩)
   (first
     |(go_at_call 24
       with_reducible refine HCA.out.mono ?_
       rintro e V ⟨rfl,hs,hh⟩
       have HH:=xhd hh
       obtain⟨j0,j1,j2⟩:=HSM.out _ hs
       clear hs hh)
     |fail)
  all_goals
   have HH2:=xhd HH.out
   clear j0 j1 j2 f0 f1 f2
   go_wp2
   (try simp only [Exit.inBlock,Exit.then])
   refine bodyPost_ret (results_tmp4 rfl _ _ _) rfl ?_
   rw [HB1.out,HB2.out]
   exact⟨rfl,HH2.out⟩
end
end Go.Proofs.Ytfmciiffcmfagaa
namespace Go.Proofs.Ytfmciiffcmfagaa
open Go.RowKit
def coSaid:CoSaid rpSaid where
 Own:=CpOwn
 keep:=fun h t hd _=>LAt.keep h t hd
 same:=by
  intro w b X0 T T' l l' h _ hm
  have h0:LAt tCp tPp 1 encP (fun v=> #[v]) w b X0 (T.map (·.1)):=h
  show LAt tCp tPp 1 encP (fun v=> #[v]) w b X0 (T'.map (·.1))
  rw [hm]
  exact h0
 own:=fun h=>cpown_types h
 new:=fun n g w _ _=>cpnew n g w
 add:=fun core id v wt h hc _ _ _ _ hv=>(cpadd h hc core id v wt hv).mono fun _ _ ⟨e,T',h1,h2,h3⟩=>⟨e,_,T',h1,h2,h3⟩
 remove:=fun id h hc _ _=>(cpremove h hc id).mono fun _ _ ⟨e,T',h1,h2,h3⟩=>⟨e,_,T',h1,h2,h3⟩
 move:=fun id core h hc _ _ _=>(cpmove h hc id core).mono fun _ _ ⟨e,T',h1,h2,h3⟩=>⟨e,_,T',h1,h2,h3⟩
 bal:=fun h hc _=>(cpbalance h hc).mono fun _ _ ⟨e,T',h1,h2,h3⟩=>⟨e,_,T',h1,h2,h3⟩
 weigh:=fun id wt h hc _ _ _=>(cpweigh h hc id wt).mono fun _ _ ⟨e,T',h1,h2,h3⟩=>⟨e,_,T',h1,h2,h3⟩
 settle:=fun h hc _=>(cpsettle h hc).mono fun _ _ ⟨e,T',h1,h2,h3⟩=>⟨e,_,T',h1,h2,h3⟩
 of:=fun id h _ _ _=>cpof h id
 len:=fun h _ _=>(cplen h).mono fun _ _ ⟨e,hw⟩=>⟨e,hw ▸ Turned.refl _ _⟩
 loads:=fun h hc _=>(cploads h hc).mono fun _ _ ⟨v,e,hv⟩=>by
  obtain⟨g,cap,rfl,h1,h2,h3,h4⟩:=hv.view hc.len.1
  exact⟨g,cap,e,hv.t,h1,h2,h3,h4⟩
 queue:=fun core h _ _ _=>(cpqueue h core).mono fun _ _ ⟨e,hw⟩=>⟨e,hw ▸ Turned.refl _ _⟩
end Go.Proofs.Ytfmciiffcmfagaa
