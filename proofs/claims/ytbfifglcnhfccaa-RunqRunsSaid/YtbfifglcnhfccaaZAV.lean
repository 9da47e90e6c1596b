/-
  same: a queue is held against the document's. (Made by gen_rqsame.py.)
-/
import Derived.Test.YtbfifglcnhfccaaZAG
import Derived.Test.YtbfifglcnhfccaaZAB
import Derived.TacticsIn
import Derived.OwnWalkIn
import Derived.Sort.BigQuietIn
import Derived.Test.YtbfifglcnhfccaaZAl
set_option maxRecDepth 100000
set_option maxHeartbeats 25600000
namespace Go.Proofs.Ytbfifglcnhfccaa
open Go.RowKit Go.Maps Go.Shelf
attribute [local go_sem] Oper.semAt_some
structure SmK (S:RqSaid) (w:World) (b:Nat) (X:List Nat) (d:Nat) (Y:List Nat) (q:Rq) (a:Option Addr) (cap:Nat) (V:World):Prop where
 at_:S.At V b X q
 ref:R16 V d Y q
 blk:V.heap[d]?=some (.cells #[.int .i64 q.g, .int .u64 q.f, .slice a q.l.length cap, .int .i64 q.cur, .int .i64 q.ran] tQ16 (0,0))
 t:Turned [] w V
section
variable {S:RqSaid} {w V V':World} {b d:Nat} {X Y:List Nat} {q:Rq} {a:Option Addr} {cap:Nat}
theorem SmK.keep (h:SmK S w b X d Y q a cap V) (t:Turned [] V V'):SmK S w b X d Y q a cap V':=
 ⟨S.keep0 h.at_ t,LAt.keep h.ref t (by simp),t.same h.blk (by simp),h.t.trans t (Newer.refl _ _)⟩
theorem SmK.start {X Y:List Nat} (h:S.At w b X q) (hr:R16 w d Y q):∃a cap,SmK S w b X d Y q a cap w:=by
 obtain⟨v,h1,h2,h3⟩:=id hr
 obtain⟨a,cap,rfl,_,_⟩:=ownsRow_shape h2
 exact⟨a,cap,h,hr,h1,Turned.refl _ _⟩
theorem SmK.view (h:SmK S w b X d Y q a cap V):V.cell? ⟨d,1,none⟩=some (.int .u64 q.f)∧V.cell? ⟨d,2,none⟩=some (.slice a q.l.length cap)∧V.cell? ⟨d,3,none⟩=some (.int .i64 q.cur)∧V.cell? ⟨d,4,none⟩=some (.int .i64 q.ran)∧SmK S w b X d Y q a cap V:=by
 obtain⟨_,c1,c2,c3,c4,_⟩:=cells5q h.blk
 exact⟨c1,c2,c3,c4,h⟩
end
structure SmB (w W1 W:World) (N M:Nat) (v:Value) (L:List Tk) (k:Nat) (Y Z:List Nat):Prop where
 l:W.heap[N]?=some (.cells #[v] 70 (0,0))
 n:W.heap[N+1]?=some (.cells #[.int .i64 (k:Nat)] 3 (0,0))
 i:W.heap[N+2]?=some (.cells #[.bool true] 4 (0,0))
 row:W.ownsRow w.heap.size tT16 3 v L.length (cellsOf encTk L)
 low:∀g ∈ v.ownBlock.toList,g < N
 ym:SameAt Y W1 W
 zm:∀k ∈ Z,M≤k∧k < W.heap.size∧k ∉ Y
 t:Turned [] w W
 s:W1.heap.size≤W.heap.size
theorem SmB.mild {w W1 W W':World} {N M:Nat} {v:Value} {L:List Tk} {k:Nat} {Y Z Z':List Nat} (h:SmB w W1 W N M v L k Y Z) (m:Mild Z W1.heap.size W W') (hN:N+3≤M) (hw:w.heap.size≤N) (hM:M≤W1.heap.size) (hY:∀k ∈ Y,k < W1.heap.size) (hn:Newer Z W.heap.size Z') (hb:∀k ∈ Z',k < W'.heap.size):SmB w W1 W' N M v L k Y Z':=by
 have off:∀k,k < M→k ∉ Z:=fun k hk hz=>by have:=(h.zm k hz).1;omega
 refine⟨m.cells h.l (off _ (by omega)),m.cells h.n (off _ (by omega)),m.cells h.i (off _ (by omega)),ownsRow_same h.row fun g hg _=>?_,h.low,fun k hk=>?_,fun k hk=>⟨?_,hb k hk,?_⟩,h.t.mild m (by omega) (fun k hk=>by have:=(h.zm k hk).1;omega),Nat.le_trans h.s m.size⟩
 ·obtain⟨cur,hc⟩:=ownsRow_type h.row g hg
  rw [m.cells hc (off _ (by have:=h.low g hg;omega)),hc]
 ·have hk1:=hY k hk
  have e:=h.ym k hk
  rw [←e]
  cases ho:W.heap[k]? with
  |none=>
   rw [ho,Array.getElem?_eq_getElem hk1] at e
   cases e
  |some o=>exact m.same k o ho (fun hz=>(h.zm k hz).2.2 hk) (.inl hk1)
 ·have:=h.s
  rcases hn k hk with h1|h1
  ·exact (h.zm k h1).1
  ·omega
 ·intro hy
  rcases hn k hk with h1|h1
  ·exact (h.zm k h1).2.2 hy
  ·have:=hY k hy
   have:=h.s
   omega
theorem SmB.set {w W1 W:World} {N M:Nat} {v:Value} {L:List Tk} {k:Nat} {Y Z:List Nat} (h:SmB w W1 W N M v L k Y Z) (hw:w.heap.size≤N) (h1:N+1 ∉ Y) (h2:N+2 ∉ Y) (k':Nat):
  SmB w W1 ((W.setCell ⟨N+2,0,none⟩ (.bool true)).setCell ⟨N+1,0,none⟩ (.int .i64 (k':Nat))) N M v L k' Y Z:=by
 have n1:N+1≠N+2:=by omega
 have n2:N≠N+2:=by omega
 have n3:N≠N+1:=by omega
 refine⟨(Below.heap_setCell _ _ _ _ n3).trans ((Below.heap_setCell _ _ _ _ n2).trans h.l),?_,?_,ownsRow_same h.row fun g hg _=>?_,h.low,fun k hk=>?_,fun k hk=>⟨(h.zm k hk).1,by simp [World.setCell];exact (h.zm k hk).2.1,(h.zm k hk).2.2⟩,(h.t.setCell (.inr (by show w.heap.size≤N+2;omega)) _).setCell (.inr (by show w.heap.size≤N+1;omega)) _,by simp [World.setCell];exact h.s⟩
 ·rw [heap_setCell_same _ _ _ _ _ _ ((Below.heap_setCell _ _ _ _ n1).trans h.n)]
  rfl
 ·refine (Below.heap_setCell _ _ _ _ n1.symm).trans ?_
  rw [heap_setCell_same _ _ _ _ _ _ h.i]
  rfl
 ·have:=h.low g hg
  exact (Below.heap_setCell _ _ _ _ (by show g≠N+1;omega)).trans (Below.heap_setCell _ _ _ _ (by show g≠N+2;omega))
 ·exact ((Below.heap_setCell _ _ _ _ (by rintro rfl;exact h1 hk)).trans (Below.heap_setCell _ _ _ _ (by rintro rfl;exact h2 hk))).trans (h.ym k hk)
theorem rdy_next {q:Rq} {pre:List (Int×Int)} {x:Int×Int} (h:(pre++[x]) <+:rdyL q):∃hk:pre.length < (sortQ q.ready).length,((sortQ q.ready)[pre.length]).1=x.1∧((sortQ q.ready)[pre.length]).2.1=x.2:=by
 obtain⟨r,hr⟩:=h
 have hl:pre.length < (sortQ q.ready).length:=by
  have:=congrArg List.length hr
  simp [rdyL] at this
  omega
 refine⟨hl,?_⟩
 have h1:=congrArg (fun z=>z[pre.length]?) hr
 simp [rdyL,List.getElem?_eq_getElem hl] at h1
 rw [h1]
 exact⟨rfl,rfl⟩
theorem same16_any (S:RqSaid) {w:World} {b d:Nat} {X Y:List Nat} {q:Rq} {c:Int} (h:S.At w b X q) (hr:R16 w d Y q) (hq:QOk q c) (hc:c≤5000) (id:Int) (hid:isI id):
  Calls Try.prog 27 #[.pointer (some ⟨b,0,none⟩), .pointer (some ⟨d,0,none⟩), .int .i64 id] w fun e w'=>e= .returned (.bool true)∧Turned [] w w':=by
 obtain⟨a,cap,k0⟩:=SmK.start h hr
 have K0:=xhd k0
 have hc1:c≤10000:=by omega
 have hlen:q.l.length≤1000:=Nat.le_trans hq.len (by decide)
 have PCU:=xhd (fun V (hk:SmK S w b X d Y q a cap V)=>(S.current hk.at_ hq hc1).mono fun e w' hh=>(⟨hh.1,hk.keep hh.2⟩:_∧SmK S w b X d Y q a cap w'))
 have PFL:=xhd (fun V (hk:SmK S w b X d Y q a cap V)=>(S.floor hk.at_ hq hc1).mono fun e w' hh=>(⟨hh.1,hk.keep hh.2⟩:_∧SmK S w b X d Y q a cap w'))
 have PLN:=xhd (fun V (hk:SmK S w b X d Y q a cap V)=>(S.len hk.at_ hq hc1).mono fun e w' hh=>(⟨hh.1,hk.keep hh.2⟩:_∧SmK S w b X d Y q a cap w'))
 have PLD:=xhd (fun V (hk:SmK S w b X d Y q a cap V)=>(S.load hk.at_ hq hc1).mono fun e w' hh=>(⟨hh.1,hk.keep hh.2⟩:_∧SmK S w b X d Y q a cap w'))
 have PDU:=xhd (fun V (hk:SmK S w b X d Y q a cap V)=>(S.due hk.at_ hq hc1).mono fun e w' hh=>(⟨hh.1,hk.keep hh.2⟩:_∧SmK S w b X d Y q a cap w'))
 have PVV:=xhd (fun V (hk:SmK S w b X d Y q a cap V)=>(S.vv id hk.at_ hq hc1 hid).mono fun e w' hh=>(⟨hh.1,hk.keep hh.2⟩:_∧SmK S w b X d Y q a cap w'))
 have RLD:=xhd (fun V (hk:SmK S w b X d Y q a cap V)=>(rload_any hk.ref hlen hq.wt).mono fun e w' hh=>(⟨hh.1,hh.2 ▸ hk⟩:_∧SmK S w b X d Y q a cap w'))
 have RDU:=xhd (fun V (hk:SmK S w b X d Y q a cap V)=>(rdue_any hk.ref hq.uniq hq.cur hlen).mono fun e w' hh=>(⟨hh.1,hk.keep (turned_below hh.2)⟩:_∧SmK S w b X d Y q a cap w'))
 have RAT:=xhd (fun V (hk:SmK S w b X d Y q a cap V)=>(rat_any hk.ref id).mono fun e w' hh=>(⟨hh.1,hh.2 ▸ hk⟩:_∧SmK S w b X d Y q a cap w'))
 have RRD:=xhd (fun V (hk:SmK S w b X d Y q a cap V)=>rready_any hk.ref hlen)
 have PRD:=xhd (fun V (hv:S.At V b X q)=>S.ready hv hq hc1)
 have HXL:=xhd (S.lt h)
 have HUN:=xhd hq.uniq
 have HLN:=xhd hlen
 clear h hr k0 hq hc hc1 hlen
 refine callsIn_wide.1 (?_:CallsIn Fence.wide 20 _ _ _ _ _)
 refine callsIn_of_wp_marks Try.func27 rfl trivial ?_ rfl
 simp only [Try.ntmps27,List.size_toArray,List.length_cons,List.length_nil,Nat.reduceAdd,Nat.reduceSub,Array.replicate_succ,Array.replicate_zero,List.push_toArray,List.append_toArray,List.nil_append,List.cons_append]
 refine wpIn_wide.2 ?_
 go_wp2_with fail
 with_reducible refine (PCU.out _ K0.out).mono ?_
 rintro e w1 ⟨rfl,k1⟩
 have HK1:=xhd k1
 clear k1
 go_wp2_with fail
 obtain⟨c1,c2,c3,c4,ck⟩:=(HK1.out.keep ((Turned.refl [] w1).drew)).view
 go_region_held3 (fun V=>V.cell? ⟨d,1,none⟩=some (.int .u64 q.f)∧V.cell? ⟨d,2,none⟩=some (.slice a q.l.length cap)∧V.cell? ⟨d,3,none⟩=some (.int .i64 q.cur)∧V.cell? ⟨d,4,none⟩=some (.int .i64 q.ran)∧SmK S w b X d Y q a cap V)
  (first|exact⟨c1,c2,c3,c4,ck⟩ |exact (ck.keep ((Turned.refl [] _).drew)).view)
  (first
    |(go_at_call 29;with_reducible refine (PFL.out _ ck).mono ?_;rintro e w' ⟨rfl,kk⟩;obtain⟨c1,c2,c3,c4,ck⟩:=kk.view)
    |(go_at_call 36;with_reducible refine (PLN.out _ ck).mono ?_;rintro e w' ⟨rfl,kk⟩;obtain⟨c1,c2,c3,c4,ck⟩:=kk.view)
    |(go_at_call 37;with_reducible refine (PLD.out _ ck).mono ?_;rintro e w' ⟨rfl,kk⟩;obtain⟨c1,c2,c3,c4,ck⟩:=kk.view)
    |(go_at_call 57;with_reducible refine (RLD.out _ ck).mono ?_;rintro e w' ⟨rfl,kk⟩;obtain⟨c1,c2,c3,c4,ck⟩:=kk.view)
    |(go_at_call 35;with_reducible refine (PDU.out _ ck).mono ?_;rintro e w' ⟨rfl,kk⟩;obtain⟨c1,c2,c3,c4,ck⟩:=kk.view)
    |(go_at_call 56;with_reducible refine (RDU.out _ ck).mono ?_;rintro e w' ⟨rfl,kk⟩;obtain⟨c1,c2,c3,c4,ck⟩:=kk.view)
    |fail)
 clear K0 PCU PFL PLN PLD PDU RLD RDU HK1 c1 c2 c3 c4
 have HCK:=xhd ck
 clear ck
 go_wp2_with fail
 with_reducible refine (PVV.out _ HCK.out).mono ?_
 rintro e w2 ⟨rfl,k2⟩
 have HK2:=xhd k2
 clear k2 HCK
 go_wp2_with fail
 with_reducible refine (RAT.out _ HK2.out).mono ?_
 rintro e w3 ⟨rfl,k3⟩
 have HK3:=xhd k3
 clear k3 HK2 PVV RAT
 have HRV:Hid (Word 0):=xhd ⟨by omega,by omega⟩
 rcases atQ_cases q.l id with⟨hat,hno⟩ |⟨k,hk,hat,hidk⟩
 ·have hn:findQ q.l id=none:=by
    cases he:findQ q.l id with
    |none=>rfl
    |some x=>exact absurd rfl (hno _ (findQ_mem he))
  have hrv:remV q id=0:=by unfold remV;rw [hn];rfl
  rw [hat,hn,hrv,Option.isSome_none]
  clear hat hno hn hrv
  go_wp2_with fail
  with_reducible refine (RRD.out _ HK3.out).mono ?_
  rintro e w4 ⟨v,rfl,hrow,hb⟩
  have HK4:=xhd (HK3.out.keep (turned_below hb))
  have HT34:=xhd hb
  obtain⟨av,cv,rfl,_,_⟩:=ownsRow_shape hrow
  have HROW:=xhd hrow
  clear hrow hb
  go_wp2_with fail
  obtain⟨V,hV⟩:∃V,((w4.alloc (.cells #[.slice av (sortQ q.ready).length cv] 70)).alloc (.cells #[.int .i64 0] 3)).alloc (.cells #[.bool true] 4)=V:=⟨_,rfl⟩
  rw [hV]
  have tV:Turned [] w4 V:=hV ▸ (((Turned.refl [] w4).alloc _).alloc _).alloc _
  have hVs:V.heap.size=w4.heap.size+3:=by rw [←hV];simp
  have b0:V.heap[w4.heap.size]?=some (.cells #[.slice av (sortQ q.ready).length cv] 70 (0,0)):=by
   rw [←hV]
   exact (Below.heap_alloc _ _ _ (by simp;omega)).trans ((Below.heap_alloc _ _ _ (by simp)).trans (heap_alloc_new w4 _))
  have b1:V.heap[w4.heap.size+1]?=some (.cells #[.int .i64 0] 3 (0,0)):=by
   have h2:=heap_alloc_new (w4.alloc (.cells #[.slice av (sortQ q.ready).length cv] 70)) (.cells #[.int .i64 0] 3)
   rw [World.size_alloc] at h2
   rw [←hV]
   exact (Below.heap_alloc _ _ _ (by simp)).trans h2
  have b2:V.heap[w4.heap.size+2]?=some (.cells #[.bool true] 4 (0,0)):=by
   have h3:=heap_alloc_new ((w4.alloc (.cells #[.slice av (sortQ q.ready).length cv] 70)).alloc (.cells #[.int .i64 0] 3)) (.cells #[.bool true] 4)
   simp only [World.size_alloc] at h3
   rw [←hV]
   exact h3
  have HKV:=xhd (HK4.out.keep tV)
  have HTV:=xhd tV
  have HB0:=xhd b0
  have HB1:=xhd b1
  have HB2:=xhd b2
  have HVS:=xhd hVs
  clear hV tV b0 b1 b2 hVs
  refine (PRD.out _ HKV.out.at_).mono ?_
  rintro e w5 ⟨f,lb,rfl,t5,hent,YY,ZZ,hY,hZ,hseq⟩
  have hw34:=HT34.out.size
  have hwN:w.heap.size≤w4.heap.size:=Nat.le_trans HK3.out.t.size hw34
  have hV5:=t5.size
  have hN3:w4.heap.size+3≤V.heap.size:=by rw [HVS.out];exact Nat.le_refl _
  have hrow5:w5.ownsRow w.heap.size tT16 3 (.slice av (sortQ q.ready).length cv) (sortQ q.ready).length (cellsOf encTk (sortQ q.ready)):=
   ownsRow_same (ownsRow_same (ownsRow_base HROW.out HK3.out.t.size) fun k _ hl=>HTV.out.block k hl (by simp)) fun k _ hl=>t5.block k hl (by simp)
  have hlow:∀g ∈ (Value.slice av (sortQ q.ready).length cv).ownBlock.toList,g < w4.heap.size:=ownsRow_lt HROW.out
  have B0:SmB w w5 w5 w4.heap.size V.heap.size (.slice av (sortQ q.ready).length cv) (sortQ q.ready) 0 YY ZZ:=
   ⟨t5.same HB0.out (by simp),t5.same HB1.out (by simp),t5.same HB2.out (by simp),hrow5,hlow,SameAt.refl _ _,fun k hk=>⟨(hZ k hk).2.1,(hZ k hk).1,(hZ k hk).2.2⟩,HKV.out.t.trans t5 (Newer.refl _ _),Nat.le_refl _⟩
  have HNY:Hid (w4.heap.size+1 ∉ YY∧w4.heap.size+2 ∉ YY):=xhd (by
   constructor
   ·intro hy
    rcases (hY _ hy).2 with h1|h1|⟨cs,t,fz,h1,h2⟩
    ·have:=HXL.out _ h1;omega
    ·omega
    ·rw [t5.same HB1.out (by simp)] at h1
     simp only [Option.some.injEq,Obj.cells.injEq] at h1
     rw [←h1.2.1,S.offI] at h2
     cases h2
   ·intro hy
    rcases (hY _ hy).2 with h1|h1|⟨cs,t,fz,h1,h2⟩
    ·have:=HXL.out _ h1;omega
    ·omega
    ·rw [t5.same HB2.out (by simp)] at h1
     simp only [Option.some.injEq,Obj.cells.injEq] at h1
     rw [←h1.2.1,S.offB] at h2
     cases h2)
  have HBB:=xhd B0
  have HENT:=xhd hent
  have HSEQ:=xhd (hseq 19 (by omega))
  have HYL:=xhd (fun k hk=>(hY k hk).1)
  have HZL:=xhd (fun k hk=>(hZ k hk).1)
  generalize w4.heap.size=N at*
  generalize V.heap.size=M at*
  clear t5 hent hseq B0 hY hZ hrow5 hlow HROW HTV HB0 HB1 HB2 HVS PRD RRD HKV HT34 hw34
  go_wp2_with fail
  refine (wpIn_wide (n:=20)).1 ?_
  refine range_turnsY_plain rfl (by omega) (gf:=f) (lb:=lb) rfl trivial HENT.out
   (Y:=YY) (X:=ZZ) HZL.out HYL.out HSEQ.out (fun _=>rfl) (fun _ _ _ _ h _=>h) (fun _ _ _ _ h _=>h)
   (fun pre Z' W=>SmB w w5 W N M (.slice av (sortQ q.ready).length cv) (sortQ q.ready) pre.length YY Z') (fun _ _ _ _=>False) (fun xs Z1 Z2 A B h mm hn hb=>h.mild mm hN3 hwN hV5 HYL.out hn hb) (fun _ _ _ _ _ _ h _ _ _=>h.elim) HBB.out
   (fun _ _ _ h=>h.ym) (fun _ _ _ _ h=>h.elim) ?a1 ?assign ?body ?done ?stop
  case stop=>
   rintro D c xs Z1 W _ _ _ h _
   exact h.elim
  case assign=>
   intro l x W K hK
   gi_wp2
   exact hK
  case body=>
   rintro l pre x Z1 W hI hsp
   obtain⟨hk,e1,e2⟩:=rdy_next hsp
   have hkl:pre.length < (sortQ q.ready).length:=hk
   obtain⟨g,cap2,hv,_,_⟩:=ownsRow_pos hI.row (by omega)
   simp only [Value.slice.injEq] at hv
   obtain⟨rfl,_,rfl⟩:=hv
   have rc:=row_cells encTk_len (L:=sortQ q.ready) (ownsRow_base hI.row (Nat.zero_le _)) hkl
   have r0:=(rc 0 (by omega)).1
   have r1:=(rc 1 (by omega)).1
   simp only [encTk,List.getElem?_cons_zero,List.getElem?_cons_succ,Nat.add_zero] at r0 r1
   rw [e1] at r0
   rw [e2] at r1
   obtain⟨x1,x2⟩:=x
   simp only at r0 r1
   have HPL:Hid ((pre++[(x1,x2)]).length=pre.length+1):=xhd (by simp)
   obtain⟨k,hkd⟩:∃k,pre.length=k:=⟨_,rfl⟩
   obtain⟨nL,hnL⟩:∃nL,(sortQ q.ready).length=nL:=⟨_,rfl⟩
   have HI:=xhd hI
   have b0:=cell1 hI.l
   have b1:=cell1 hI.n
   have b2:=cell1 hI.i
   have bf1:=frozen_of_row W (N+1) 0 _ _ hI.n
   have bf2:=frozen_of_row W (N+2) 0 _ _ hI.i
   rw [hkd] at r0 r1 b1 HPL hkl
   rw [hnL] at b0 hkl
   have i0:(0:Int)≤k:=by omega
   have i1:(k:Int) < nL:=by omega
   have d1:decide ((k:Int) < (nL:Int))=true:=by simpa using i1
   have HKD:=xhd hkd
   have hwr:IntKind.i64.wrap ((k:Int)+1)=(k:Int)+1:=by
    have:=HLN.out
    have h2:(sortQ q.ready).length≤q.l.length:=by
     rw [len_sort]
     exact List.length_filter_le _ _
    rw [IntKind.wrap_i64]
    omega
   clear hI rc e1 e2 hsp hk hkd
   rw [hnL]
   have HNL:=xhd hnL
   clear hnL
   gi_wp2
   have hh:=HI.out.set hwN HNY.out.1 HNY.out.2 (k+1)
   rw [show (((k+1:Nat):Int))=(k:Int)+1 by omega] at hh
   have hk2:KeepsFrom w5.heap.size W ((W.setCell ⟨N+2,0,none⟩ (.bool true)).setCell ⟨N+1,0,none⟩ (.int .i64 ((k:Int)+1))):=((KeepsOthers.setCell _ _ _).trans (KeepsOthers.setCell _ _ _)).from _
   refine⟨⟨hk2.size,hk2.same⟩,fun j hj=>?_,?_⟩
   ·have:=(HI.out.zm j hj).1
    exact (Below.heap_setCell _ _ _ _ (by simp;omega)).trans (Below.heap_setCell _ _ _ _ (by simp;omega))
   ·show SmB w w5 ((W.setCell ⟨N+2,0,none⟩ (.bool true)).setCell ⟨N+1,0,none⟩ (.int .i64 ((k:Int)+1))) N M (.slice (some ⟨g,0,none⟩) nL cv) (sortQ q.ready) (pre++[(x1,x2)]).length YY Z1
    rw [HPL.out, ←HNL.out]
    exact hh
  case done=>
   rintro D xs Z1 W hD hzd rfl hI hK
   have HI:=xhd hI
   have HKD:=xhd hK
   have b0:=cell1 hI.l
   have b1:=cell1 hI.n
   have b2:=cell1 hI.i
   have hll:(rdyL q).length=(sortQ q.ready).length:=by simp [rdyL]
   rw [hll] at b1
   generalize (sortQ q.ready).length=nL at b0 b1
   clear hI hK hll
   go_wp2
   refine⟨by simp, .inl ⟨_,_,rfl,run_takeDeferred (show W.heap[D]?=_ from HKD.out),?_⟩⟩
   exact⟨_,results_tmp rfl _ _ _,rfl,HI.out.t.put (by omega) _⟩
 ·have hn:findQ q.l id=some q.l[k].2:=find_at HUN.out hk hidk
  have hrv:remV q id=q.l[k].2.1:=by unfold remV;rw [hn];rfl
  obtain⟨g,cap',d2,t0,t1,t2,_,_⟩:=HK3.out.ref.task hk
  have k0:(0:Int)≤k:=by omega
  have k1:(k:Int) < q.l.length:=by omega
  have hvv:∃v,q.l[k].2.1=v:=⟨_,rfl⟩
  obtain⟨v1,hv1⟩:=hvv
  replace t1:w3.cell? ⟨g,k*3+1,none⟩=some (.int .u64 v1):=t1.trans (congrArg (fun x=>some (Value.int .u64 x)) hv1)
  rw [hat,hn,hrv,Option.isSome_some,hv1]
  generalize hnn:q.l.length=n at d2 k1
  clear hat hn hrv t0 t2 hidk hv1 hnn
  go_wp2_with fail
  with_reducible refine (RRD.out _ HK3.out).mono ?_
  rintro e w4 ⟨v,rfl,hrow,hb⟩
  have HK4:=xhd (HK3.out.keep (turned_below hb))
  have HT34:=xhd hb
  obtain⟨av,cv,rfl,_,_⟩:=ownsRow_shape hrow
  have HROW:=xhd hrow
  clear hrow hb d2 t1 k0 k1
  go_wp2_with fail
  obtain⟨V,hV⟩:∃V,((w4.alloc (.cells #[.slice av (sortQ q.ready).length cv] 70)).alloc (.cells #[.int .i64 0] 3)).alloc (.cells #[.bool true] 4)=V:=⟨_,rfl⟩
  rw [hV]
  have tV:Turned [] w4 V:=hV ▸ (((Turned.refl [] w4).alloc _).alloc _).alloc _
  have hVs:V.heap.size=w4.heap.size+3:=by rw [←hV];simp
  have b0:V.heap[w4.heap.size]?=some (.cells #[.slice av (sortQ q.ready).length cv] 70 (0,0)):=by
   rw [←hV]
   exact (Below.heap_alloc _ _ _ (by simp;omega)).trans ((Below.heap_alloc _ _ _ (by simp)).trans (heap_alloc_new w4 _))
  have b1:V.heap[w4.heap.size+1]?=some (.cells #[.int .i64 0] 3 (0,0)):=by
   have h2:=heap_alloc_new (w4.alloc (.cells #[.slice av (sortQ q.ready).length cv] 70)) (.cells #[.int .i64 0] 3)
   rw [World.size_alloc] at h2
   rw [←hV]
   exact (Below.heap_alloc _ _ _ (by simp)).trans h2
  have b2:V.heap[w4.heap.size+2]?=some (.cells #[.bool true] 4 (0,0)):=by
   have h3:=heap_alloc_new ((w4.alloc (.cells #[.slice av (sortQ q.ready).length cv] 70)).alloc (.cells #[.int .i64 0] 3)) (.cells #[.bool true] 4)
   simp only [World.size_alloc] at h3
   rw [←hV]
   exact h3
  have HKV:=xhd (HK4.out.keep tV)
  have HTV:=xhd tV
  have HB0:=xhd b0
  have HB1:=xhd b1
  have HB2:=xhd b2
  have HVS:=xhd hVs
  clear hV tV b0 b1 b2 hVs
  refine (PRD.out _ HKV.out.at_).mono ?_
  rintro e w5 ⟨f,lb,rfl,t5,hent,YY,ZZ,hY,hZ,hseq⟩
  have hw34:=HT34.out.size
  have hwN:w.heap.size≤w4.heap.size:=Nat.le_trans HK3.out.t.size hw34
  have hV5:=t5.size
  have hN3:w4.heap.size+3≤V.heap.size:=by rw [HVS.out];exact Nat.le_refl _
  have hrow5:w5.ownsRow w.heap.size tT16 3 (.slice av (sortQ q.ready).length cv) (sortQ q.ready).length (cellsOf encTk (sortQ q.ready)):=
   ownsRow_same (ownsRow_same (ownsRow_base HROW.out HK3.out.t.size) fun k _ hl=>HTV.out.block k hl (by simp)) fun k _ hl=>t5.block k hl (by simp)
  have hlow:∀g ∈ (Value.slice av (sortQ q.ready).length cv).ownBlock.toList,g < w4.heap.size:=ownsRow_lt HROW.out
  have B0:SmB w w5 w5 w4.heap.size V.heap.size (.slice av (sortQ q.ready).length cv) (sortQ q.ready) 0 YY ZZ:=
   ⟨t5.same HB0.out (by simp),t5.same HB1.out (by simp),t5.same HB2.out (by simp),hrow5,hlow,SameAt.refl _ _,fun k hk=>⟨(hZ k hk).2.1,(hZ k hk).1,(hZ k hk).2.2⟩,HKV.out.t.trans t5 (Newer.refl _ _),Nat.le_refl _⟩
  have HNY:Hid (w4.heap.size+1 ∉ YY∧w4.heap.size+2 ∉ YY):=xhd (by
   constructor
   ·intro hy
    rcases (hY _ hy).2 with h1|h1|⟨cs,t,fz,h1,h2⟩
    ·have:=HXL.out _ h1;omega
    ·omega
    ·rw [t5.same HB1.out (by simp)] at h1
     simp only [Option.some.injEq,Obj.cells.injEq] at h1
     rw [←h1.2.1,S.offI] at h2
     cases h2
   ·intro hy
    rcases (hY _ hy).2 with h1|h1|⟨cs,t,fz,h1,h2⟩
    ·have:=HXL.out _ h1;omega
    ·omega
    ·rw [t5.same HB2.out (by simp)] at h1
     simp only [Option.some.injEq,Obj.cells.injEq] at h1
     rw [←h1.2.1,S.offB] at h2
     cases h2)
  have HBB:=xhd B0
  have HENT:=xhd hent
  have HSEQ:=xhd (hseq 19 (by omega))
  have HYL:=xhd (fun k hk=>(hY k hk).1)
  have HZL:=xhd (fun k hk=>(hZ k hk).1)
  generalize w4.heap.size=N at*
  generalize V.heap.size=M at*
  clear t5 hent hseq B0 hY hZ hrow5 hlow HROW HTV HB0 HB1 HB2 HVS PRD RRD HKV HT34 hw34
  go_wp2_with fail
  refine (wpIn_wide (n:=20)).1 ?_
  refine range_turnsY_plain rfl (by omega) (gf:=f) (lb:=lb) rfl trivial HENT.out
   (Y:=YY) (X:=ZZ) HZL.out HYL.out HSEQ.out (fun _=>rfl) (fun _ _ _ _ h _=>h) (fun _ _ _ _ h _=>h)
   (fun pre Z' W=>SmB w w5 W N M (.slice av (sortQ q.ready).length cv) (sortQ q.ready) pre.length YY Z') (fun _ _ _ _=>False) (fun xs Z1 Z2 A B h mm hn hb=>h.mild mm hN3 hwN hV5 HYL.out hn hb) (fun _ _ _ _ _ _ h _ _ _=>h.elim) HBB.out
   (fun _ _ _ h=>h.ym) (fun _ _ _ _ h=>h.elim) ?a1b ?assign ?body ?done ?stop
  case stop=>
   rintro D c xs Z1 W _ _ _ h _
   exact h.elim
  case assign=>
   intro l x W K hK
   gi_wp2
   exact hK
  case body=>
   rintro l pre x Z1 W hI hsp
   obtain⟨hk,e1,e2⟩:=rdy_next hsp
   have hkl:pre.length < (sortQ q.ready).length:=hk
   obtain⟨g,cap2,hv,_,_⟩:=ownsRow_pos hI.row (by omega)
   simp only [Value.slice.injEq] at hv
   obtain⟨rfl,_,rfl⟩:=hv
   have rc:=row_cells encTk_len (L:=sortQ q.ready) (ownsRow_base hI.row (Nat.zero_le _)) hkl
   have r0:=(rc 0 (by omega)).1
   have r1:=(rc 1 (by omega)).1
   simp only [encTk,List.getElem?_cons_zero,List.getElem?_cons_succ,Nat.add_zero] at r0 r1
   rw [e1] at r0
   rw [e2] at r1
   obtain⟨x1,x2⟩:=x
   simp only at r0 r1
   have HPL:Hid ((pre++[(x1,x2)]).length=pre.length+1):=xhd (by simp)
   obtain⟨k,hkd⟩:∃k,pre.length=k:=⟨_,rfl⟩
   obtain⟨nL,hnL⟩:∃nL,(sortQ q.ready).length=nL:=⟨_,rfl⟩
   have HI:=xhd hI
   have b0:=cell1 hI.l
   have b1:=cell1 hI.n
   have b2:=cell1 hI.i
   have bf1:=frozen_of_row W (N+1) 0 _ _ hI.n
   have bf2:=frozen_of_row W (N+2) 0 _ _ hI.i
   rw [hkd] at r0 r1 b1 HPL hkl
   rw [hnL] at b0 hkl
   have i0:(0:Int)≤k:=by omega
   have i1:(k:Int) < nL:=by omega
   have d1:decide ((k:Int) < (nL:Int))=true:=by simpa using i1
   have HKD:=xhd hkd
   have hwr:IntKind.i64.wrap ((k:Int)+1)=(k:Int)+1:=by
    have:=HLN.out
    have h2:(sortQ q.ready).length≤q.l.length:=by
     rw [len_sort]
     exact List.length_filter_le _ _
    rw [IntKind.wrap_i64]
    omega
   clear hI rc e1 e2 hsp hk hkd
   rw [hnL]
   have HNL:=xhd hnL
   clear hnL
   gi_wp2
   have hh:=HI.out.set hwN HNY.out.1 HNY.out.2 (k+1)
   rw [show (((k+1:Nat):Int))=(k:Int)+1 by omega] at hh
   have hk2:KeepsFrom w5.heap.size W ((W.setCell ⟨N+2,0,none⟩ (.bool true)).setCell ⟨N+1,0,none⟩ (.int .i64 ((k:Int)+1))):=((KeepsOthers.setCell _ _ _).trans (KeepsOthers.setCell _ _ _)).from _
   refine⟨⟨hk2.size,hk2.same⟩,fun j hj=>?_,?_⟩
   ·have:=(HI.out.zm j hj).1
    exact (Below.heap_setCell _ _ _ _ (by simp;omega)).trans (Below.heap_setCell _ _ _ _ (by simp;omega))
   ·show SmB w w5 ((W.setCell ⟨N+2,0,none⟩ (.bool true)).setCell ⟨N+1,0,none⟩ (.int .i64 ((k:Int)+1))) N M (.slice (some ⟨g,0,none⟩) nL cv) (sortQ q.ready) (pre++[(x1,x2)]).length YY Z1
    rw [HPL.out, ←HNL.out]
    exact hh
  case done=>
   rintro D xs Z1 W hD hzd rfl hI hK
   have HI:=xhd hI
   have HKD:=xhd hK
   have b0:=cell1 hI.l
   have b1:=cell1 hI.n
   have b2:=cell1 hI.i
   have hll:(rdyL q).length=(sortQ q.ready).length:=by simp [rdyL]
   rw [hll] at b1
   generalize (sortQ q.ready).length=nL at b0 b1
   clear hI hK hll
   go_wp2
   refine⟨by simp, .inl ⟨_,_,rfl,run_takeDeferred (show W.heap[D]?=_ from HKD.out),?_⟩⟩
   exact⟨_,results_tmp rfl _ _ _,rfl,HI.out.t.put (by omega) _⟩
end Go.Proofs.Ytbfifglcnhfccaa
