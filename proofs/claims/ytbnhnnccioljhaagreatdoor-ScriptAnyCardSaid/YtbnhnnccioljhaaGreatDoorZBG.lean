/-
  The program reads a part by another's Parse: a program.
  The program reads a program, and keeps where it begins.
  The program reads several programs. (Made by gen_spprogs.py.)
-/
import Derived.Test.YtbnhnnccioljhaaGreatDoorZBF
import Derived.Test.YtbnhnnccioljhaaGreatDoorZAH
import Derived.Test.YtbnhnnccioljhaaGreatDoorZAl
set_option maxRecDepth 100000
set_option maxHeartbeats 25600000
namespace Go.Proofs.YtbnhnnccioljhaaGreatDoor
open Go.RowKit
def progQ (L:List Wd) (s:Rd):Prg×Rd:=if s.2=0 then ((parseR L s.1).1,((parseR L s.1).2.1.toNat,(parseR L s.1).2.2)) else ((false,[]),s)
structure PtI (w V:World) (b:Nat) (ao:Option Addr) (bw off cap:Nat) (L:List Wd) (s:Rd) (x y:Value):Prop where
 rd:RwI V b ao bw off cap L s
 res:V.heap[w.heap.size]?=some zeroP
 prt:V.heap[w.heap.size+1]?=some (.cells #[x,y] 49 (0,0))
 t:Turned [b] w V
 l1:b < w.heap.size
section
variable {w V V':World} {b:Nat} {ao:Option Addr} {bw off cap:Nat} {L:List Wd} {s s':Rd} {x y:Value}
theorem PtI.below (h:PtI w V b ao bw off cap L s x y) (hb:Below V.heap.size V V'):PtI w V' b ao bw off cap L s x y:=
 ⟨RdI.below h.rd hb,(hb.block _ (lt_of_block h.res)).trans h.res,(hb.block _ (lt_of_block h.prt)).trans h.prt,h.t.trans (turned_below hb [b]) (Newer.refl _ _),h.l1⟩
theorem PtI.start (h:RwI w b ao bw off cap L s):PtI w ((w.alloc zeroP).alloc zeroP) b ao bw off cap L s (.bool false) (.slice none 0 0):=by
 have hb:Below w.heap.size w ((w.alloc zeroP).alloc zeroP):=((Below.refl _ w).alloc (Nat.le_refl _) zeroP).alloc (by simp) zeroP
 have h2:=heap_alloc_new (w.alloc zeroP) zeroP
 rw [World.size_alloc] at h2
 exact⟨RdI.below h hb,(Below.heap_alloc _ _ _ (by simp)).trans (heap_alloc_new w _),h2,turned_below hb _,lt_of_block h.rd⟩
theorem PtI.set (h:PtI w V b ao bw off cap L s x y) (hbw:0 < L.length→bw < w.heap.size) (x' y':Value):PtI w ((V.setCell ⟨w.heap.size+1,0,none⟩ x').setCell ⟨w.heap.size+1,1,none⟩ y') b ao bw off cap L s x' y':=by
 have h1:=h.l1
 refine⟨(RwI.store h.rd _ _ (by omega) (fun h0=>by have:=hbw h0;omega)).store _ _ (by omega) (fun h0=>by have:=hbw h0;omega),?_,two_stored h.prt,(h.t.setCell (.inr (by show w.heap.size≤w.heap.size+1;omega)) _).setCell (.inr (by show w.heap.size≤w.heap.size+1;omega)) _,h1⟩
 rw [Below.heap_setCell _ _ _ _ (by show w.heap.size≠w.heap.size+1;omega),Below.heap_setCell _ _ _ _ (by show w.heap.size≠w.heap.size+1;omega)]
 exact h.res
theorem PtI.move (h:PtI w V b ao bw off cap L s x y) (hs:s'.1≤L.length):PtI w ((V.setCell ⟨b,1,none⟩ (.int .i64 (s'.1:Nat))).setCell ⟨b,2,none⟩ (.int .i64 s'.2)) b ao bw off cap L s' x y:=by
 have h1:=h.l1
 have hr:=rd_set2 (e':=s'.2) (rd_set1 (c':=s'.1) h.rd.rd)
 refine⟨⟨hr,h.rd.ws.same (fun h0=>?_),h.rd.ne,hs,h.rd.len⟩,?_,?_,(h.t.setCell (.inl (by simp)) _).setCell (.inl (by simp)) _,h1⟩
 ·exact (Below.heap_setCell _ _ _ _ (h.rd.ne h0)).trans (Below.heap_setCell _ _ _ _ (h.rd.ne h0))
 ·exact ((Below.heap_setCell _ _ _ _ (by show w.heap.size≠b;omega)).trans (Below.heap_setCell _ _ _ _ (by show w.heap.size≠b;omega))).trans h.res
 ·exact ((Below.heap_setCell _ _ _ _ (by show w.heap.size+1≠b;omega)).trans (Below.heap_setCell _ _ _ _ (by show w.heap.size+1≠b;omega))).trans h.prt
end
def PartO (L:List Wd) (s:Rd) (w:World) (b:Nat) (ao:Option Addr) (bw off cap:Nat) (r:Ending) (w':World):Prop:=
 ∃v,r= .returned (.agg #[.bool (progQ L s).1.1,v])∧ORow w.heap.size w' v (progQ L s).1.2∧RwP b ao bw off cap L (progQ L s).2 w w'
theorem part_end {w V W:World} {b:Nat} {ao:Option Addr} {bw off cap:Nat} {L:List Wd} {s:Rd} {x y:Value} {ops:List Opn} (h:PtI w W b ao bw off cap L s x y) (hbw:0 < L.length→bw < w.heap.size) {base:Nat} (hrow:ORow base V y ops) (hs:∀k,base≤k→k < V.heap.size→W.heap[k]?=V.heap[k]?) (hbase:w.heap.size < base):
  ((W.setCell ⟨w.heap.size,0,none⟩ x).setCell ⟨w.heap.size,1,none⟩ y).heap[w.heap.size]?=some (.cells #[x,y] 49 (0,0))∧
  ORow w.heap.size ((W.setCell ⟨w.heap.size,0,none⟩ x).setCell ⟨w.heap.size,1,none⟩ y) y ops∧RwP b ao bw off cap L s w ((W.setCell ⟨w.heap.size,0,none⟩ x).setCell ⟨w.heap.size,1,none⟩ y):=by
 have h1:=h.l1
 refine⟨two_stored h.res,?_,(RwI.store h.rd _ _ (by omega) (fun h0=>by have:=hbw h0;omega)).store _ _ (by omega) (fun h0=>by have:=hbw h0;omega),(h.t.setCell (.inr (Nat.le_refl _)) _).setCell (.inr (Nat.le_refl _)) _⟩
 refine row_base (row_same hrow fun k hk hl=>?_) (by omega)
 exact (Below.heap_setCell _ _ _ _ (by show k≠w.heap.size;omega)).trans ((Below.heap_setCell _ _ _ _ (by show k≠w.heap.size;omega)).trans (hs k hk hl))
theorem part_live {w:World} {b:Nat} {ao:Option Addr} {bw off cap:Nat} {L:List Wd} {c:Nat} (h:RdI w b ao bw off cap L c 0) (hL:Clean L):
  Calls Tryz.prog 133 #[.pointer (some ⟨b,0,none⟩), .func (.func 134) #[] #[]] w (PartO L (c,0) w b ao bw off cap):=by
 have HP:=xhd (fun V (hV:WArg V ao bw off L)=>pparse_any ao bw off cap L c V hV h.len hL)
 obtain⟨k,hk,hkl⟩:=parse_place (L:=L) (a:=c) h.le
 have hpo:PartO L (c,0) w b ao bw off cap=fun r w'=>∃v,r= .returned (.agg #[.bool (parseR L c).1.1,v])∧ORow w.heap.size w' v (parseR L c).1.2∧RwP b ao bw off cap L (k,(parseR L c).2.2) w w':=by
  funext r w'
  unfold PartO progQ
  rw [if_pos rfl]
  simp only [hk,Int.toNat_natCast]
 rw [hpo]
 have HBW:=xhd (fun h0=>(h.ws.at_ h0).2)
 have HKL:=xhd hkl
 obtain⟨n,hn⟩:∃n,L.length=n:=⟨_,rfl⟩
 have HN:=xhd hn
 have HI:=xhd (PtI.start (s:=(c,0)) h)
 have hw0:∃W0,(w.alloc zeroP).alloc zeroP=W0:=⟨_,rfl⟩
 have HW0:=xhd hw0
 clear hw0 hpo
 obtain⟨⟨⟨f,ops⟩,pl,er⟩,hR⟩:∃R,parseR L c=R:=⟨_,rfl⟩
 simp only [hn,hR] at HP hk ⊢
 subst hk
 obtain⟨m,hm⟩:∃m,ops.length=m:=⟨_,rfl⟩
 clear h hL hn hR hkl
 go_enter Tryz.func133,Tryz.ntmps133
 go_wp2_with fail
 obtain⟨W0,hW0⟩:=HW0.out
 rw [hW0] at HI
 simp only [hW0]
 clear hW0 HW0
 with_reducible refine (goes_live HI.out.rd.rd).mono ?_
 rintro r w1 ⟨rfl,rfl⟩
 obtain⟨d0,d1,d2⟩:=three_cells HI.out.rd.rd
 simp only [HN.out] at d0 d1
 go_wp2_with fail
 go_region_with ((go_at_call 134
                  refine (HP.out _ (HI.out.below (Below.refl _ _).drew).rd.ws).mono ?_
                  rintro r w3 ⟨v,rfl,hrow,hb⟩
                  have HI3:=xhd (HI.out.below ((Below.refl _ _).drew.trans hb))
                  obtain⟨av,cv,hv,_⟩:=ownsRow_shape hrow
                  simp only at hv
                  rw [hm] at hv
                  subst hv
                  have HROW:=xhd hrow
                  obtain⟨e0,e1,e2⟩:=three_cells HI3.out.rd.rd
                  have fe1:=not_frozen HI3.out.rd.rd 1
                  have fe2:=not_frozen HI3.out.rd.rd 2
                  obtain⟨q0,q1⟩:=two_cells HI3.out.prt
                  have fq0:=not_frozen HI3.out.prt 0
                  have fq1:=not_frozen HI3.out.prt 1
                  have ne1:w.heap.size+1≠b:=by have:=HI.out.l1;omega
                  have ne2:b≠w.heap.size+1:=by have:=HI.out.l1;omega
                  clear hrow hb))
 all_goals
  have HI4:=xhd ((HI3.out.set HBW.out (.bool f) (.slice av m cv)).move (s':=(k,er)) HKL.out)
  have HS4:=xhd (fun j (hj:w.heap.size+2≤j)=>(by
   have h1:=HI.out.l1
   exact (Below.heap_setCell _ _ _ _ (by show j≠b;omega)).trans ((Below.heap_setCell _ _ _ _ (by show j≠b;omega)).trans ((Below.heap_setCell _ _ _ _ (by show j≠w.heap.size+1;omega)).trans (Below.heap_setCell _ _ _ _ (by show j≠w.heap.size+1;omega)))):
   ((((w3.setCell ⟨w.heap.size+1,0,none⟩ (.bool f)).setCell ⟨w.heap.size+1,1,none⟩ (.slice av m cv)).setCell ⟨b,1,none⟩ (.int .i64 k)).setCell ⟨b,2,none⟩ (.int .i64 er)).heap[j]?=w3.heap[j]?))
  simp only at HI4
  obtain⟨W4,hW4⟩:∃W4,((((w3.setCell ⟨w.heap.size+1,0,none⟩ (.bool f)).setCell ⟨w.heap.size+1,1,none⟩ (.slice av m cv)).setCell ⟨b,1,none⟩ (.int .i64 k)).setCell ⟨b,2,none⟩ (.int .i64 er))=W4:=⟨_,rfl⟩
  rw [hW4] at HI4 HS4 ⊢
  clear hW4 d0 d1 d2 e0 e1 e2 fe1 fe2 q0 q1 fq0 fq1 ne1 ne2
  obtain⟨q0,q1⟩:=two_cells HI4.out.prt
  obtain⟨z0,z1⟩:=two_cells HI4.out.res
  have fz0:=not_frozen HI4.out.res 0
  have fz1:=not_frozen HI4.out.res 1
  have ne1:w.heap.size≠w.heap.size+1:=by omega
  have HFIN:=xhd (part_end HI4.out HBW.out HROW.out (fun j hj _=>HS4.out j (by have:=lt_of_block HI.out.prt;simp at hj;omega)) (by have:=lt_of_block HI.out.prt;simp;omega))
  go_wp2
  refine bodyPost_ret (prog_res rfl rfl HFIN.out.1) rfl ?_
  exact⟨_,rfl,HFIN.out.2⟩
theorem part_dead {w:World} {b:Nat} {ao:Option Addr} {bw off cap:Nat} {L:List Wd} {s:Rd} (h:RwI w b ao bw off cap L s) (h0:s.2≠0):
  Calls Tryz.prog 133 #[.pointer (some ⟨b,0,none⟩), .func (.func 134) #[] #[]] w (PartO L s w b ao bw off cap):=by
 have hpo:PartO L s w b ao bw off cap=fun r w'=>∃v,r= .returned (.agg #[.bool false,v])∧ORow w.heap.size w' v []∧RwP b ao bw off cap L s w w':=by
  funext r w'
  unfold PartO progQ
  rw [if_neg h0]
 rw [hpo]
 have HBW:=xhd (fun h0=>(h.ws.at_ h0).2)
 have HI:=xhd (PtI.start (s:=s) h)
 have HGD:=xhd (fun V (hV:RwI V b ao bw off cap L s)=>goes_dead h0 hV.rd)
 have hw0:∃W0,(w.alloc zeroP).alloc zeroP=W0:=⟨_,rfl⟩
 have HW0:=xhd hw0
 clear hw0 hpo h h0
 go_enter Tryz.func133,Tryz.ntmps133
 go_wp2_with fail
 obtain⟨W0,hW0⟩:=HW0.out
 rw [hW0] at HI
 simp only [hW0]
 clear hW0 HW0
 with_reducible refine (HGD.out _ HI.out.rd).mono ?_
 rintro r w1 ⟨rfl,rfl⟩
 obtain⟨q0,q1⟩:=two_cells HI.out.prt
 obtain⟨z0,z1⟩:=two_cells HI.out.res
 have fz0:=not_frozen HI.out.res 0
 have fz1:=not_frozen HI.out.res 1
 have ne1:w.heap.size≠w.heap.size+1:=by omega
 have HFIN:=xhd (part_end HI.out HBW.out (base:=w.heap.size+1) (V:=w1) (ops:=[]) (World.ownsRow_nil _ _ _ _) (fun j _ _=>rfl) (by omega))
 go_wp2
 refine bodyPost_ret (prog_res rfl rfl HFIN.out.1) rfl ?_
 exact⟨_,rfl,HFIN.out.2⟩
theorem part_any {w:World} {b:Nat} {ao:Option Addr} {bw off cap:Nat} {L:List Wd} {s:Rd} (h:RwI w b ao bw off cap L s) (hL:Clean L):
  Calls Tryz.prog 133 #[.pointer (some ⟨b,0,none⟩), .func (.func 134) #[] #[]] w (PartO L s w b ao bw off cap):=by
 by_cases h0:s.2=0
 ·obtain⟨c,e⟩:=s
  simp only at h0
  subst h0
  exact part_live h hL
 ·exact part_dead h h0
end Go.Proofs.YtbnhnnccioljhaaGreatDoor
namespace Go.Proofs.YtbnhnnccioljhaaGreatDoor
open Go.RowKit
theorem RwI.keep {w w':World} {b:Nat} {ao:Option Addr} {bw off cap:Nat} {L:List Wd} {s:Rd} (h:RwI w b ao bw off cap L s) (e1:w'.heap[b]?=w.heap[b]?) (e2:0 < L.length→w'.heap[bw]?=w.heap[bw]?):RwI w' b ao bw off cap L s:=
 ⟨e1.trans h.rd,h.ws.same e2,h.ne,h.le,h.len⟩
theorem Turned.more {w w':World} {X Y:List Nat} (t:Turned X w w') (h:∀k ∈ X,k ∈ Y):Turned Y w w':=⟨t.os,t.tape,t.output,t.size,fun k hk hx=>t.block k hk (fun hy=>hx (h k hy))⟩
structure ClI (w V:World) (b:Nat) (ao:Option Addr) (bw off cap:Nat) (L:List Wd) (s:Rd) (S base:Nat) (qv0 qv:Value) (qs:List Int):Prop where
 rd:RwI V b ao bw off cap L s
 res:V.heap[w.heap.size]?=some zeroP
 sb:V.heap[S]?=some (.cells #[qv] 22 (0,0))
 qr:GRow base V qv qs
 t:Turned (b::S::qv0.ownBlock.toList) w V
 new:∀g ∈ qv.ownBlock.toList,g ∈ qv0.ownBlock.toList∨w.heap.size≤g
section
variable {w V V':World} {b:Nat} {ao:Option Addr} {bw off cap:Nat} {L:List Wd} {s s':Rd} {S base:Nat} {qv0 qv:Value} {qs:List Int}
theorem ClI.below (h:ClI w V b ao bw off cap L s S base qv0 qv qs) (hb:Below V.heap.size V V'):ClI w V' b ao bw off cap L s S base qv0 qv qs:=
 ⟨RdI.below h.rd hb,(hb.block _ (lt_of_block h.res)).trans h.res,(hb.block _ (lt_of_block h.sb)).trans h.sb,row_below h.qr hb,h.t.trans (turned_below hb _) (Newer.refl _ _),h.new⟩
theorem ClI.moved (h:ClI w V b ao bw off cap L s S base qv0 qv qs) (hb:b < base) (hbw:b < w.heap.size) (hS:b≠S) (m:RwP b ao bw off cap L s' V V'):ClI w V' b ao bw off cap L s' S base qv0 qv qs:=by
 obtain⟨m1,m2⟩:=m
 exact⟨m1,m2.same h.res (by simp;omega),m2.same h.sb (by simpa using fun e=>hS e.symm),row_turned h.qr m2 hb,h.t.trans (m2.more (by simp)) (Newer.refl _ _),h.new⟩
theorem ClI.push (h:ClI w V b ao bw off cap L s S base qv0 qv qs) {w4:World} {v':Value} {x:Int} (hb:b < base) (hS0:b≠S) (hSw:S < w.heap.size) (hbw:0 < L.length→bw < base∧bw≠S) (hr:w.heap.size < V.heap.size)
  (hown:w4.ownsRow base 3 1 v' (qs.length+1) (cellsOf gC qs++gC x)) (hg:V.grownBy w4 qv.ownBlock) (hnew:∀g ∈ v'.ownBlock.toList,g ∈ qv.ownBlock.toList∨V.heap.size≤g):
  w4.heap[S]?=some (.cells #[qv] 22 (0,0))∧ClI w (w4.setCell ⟨S,0,none⟩ v') b ao bw off cap L s S base qv0 v' (qs++[x]):=by
 have hq:∀k,qv.ownBlock=some k→base≤k:=fun k hk=>row_own h.qr k hk
 have hSb:=block_off h.sb h.qr (by decide)
 have hs4:=(hg.block _ (lt_of_block h.sb) hSb).trans h.sb
 have hbl:=lt_of_block h.rd.rd
 refine⟨hs4,⟨RwI.keep h.rd ?_ ?_,?_,?_,?_,?_,?_⟩⟩
 ·exact (Below.heap_setCell _ _ _ _ (by show b≠S;exact hS0)).trans (hg.block _ hbl (fun e=>by have:=hq _ e.symm;omega))
 ·intro h0
  have h1:=hbw h0
  exact (Below.heap_setCell _ _ _ _ (by show bw≠S;exact h1.2)).trans (hg.block _ (h.rd.ws.at_ h0).2 (fun e=>by have:=hq _ e.symm;omega))
 ·exact (Below.heap_setCell _ _ _ _ (by show w.heap.size≠S;omega)).trans ((hg.block _ (lt_of_block h.res) (block_off h.res h.qr (by decide))).trans h.res)
 ·rw [heap_setCell_same _ _ _ _ _ _ hs4]
  rfl
 ·have hrow:GRow base w4 v' (qs++[x]):=by
    show w4.ownsRow base 3 1 v' (qs++[x]).length (cellsOf gC (qs++[x]))
    rw [cellsOf_snoc,List.length_append,List.length_singleton]
    exact hown
  have hoff:=block_off hs4 hrow (by decide)
  refine ownsRow_same hrow fun k hk _=>Below.heap_setCell _ _ _ _ ?_
  show k≠S
  rintro rfl
  exact hoff (by simpa using hk:v'.ownBlock=some k).symm
 ·exact (h.t.grown hg (fun k hk=>by
   rcases h.new k (by simp [hk]) with h1|h1
   ·exact .inl (by simp only [List.mem_cons];exact .inr (.inr h1))
   ·exact .inr h1)).setCell (.inl (by simp)) _
 ·intro g hg2
  rcases hnew g hg2 with h1|h1
  ·exact h.new g h1
  ·exact .inr (by omega)
theorem ClI.start (h:RwI w b ao bw off cap L s) (hs:w.heap[S]?=some (.cells #[qv] 22 (0,0))) (hq:GRow base w qv qs):ClI w (w.alloc zeroP) b ao bw off cap L s S base qv qv qs:=by
 have hb:Below w.heap.size w (w.alloc zeroP):=(Below.refl _ w).alloc (Nat.le_refl _) zeroP
 exact⟨RdI.below h hb,heap_alloc_new w _,(hb.block _ (lt_of_block hs)).trans hs,row_below hq hb,turned_below hb _,fun g hg=> .inl hg⟩
theorem ClI.fin (h:ClI w V b ao bw off cap L s S base qv0 qv qs) (hbw:b < w.heap.size) (hSw:S < w.heap.size) (hb:0 < L.length→bw < w.heap.size) {pv:Value} {ops:List Opn} {B0:Nat} (hrow:ORow B0 V pv ops) (hB0:w.heap.size < B0) (f:Bool):
  ((V.setCell ⟨w.heap.size,0,none⟩ (.bool f)).setCell ⟨w.heap.size,1,none⟩ pv).heap[w.heap.size]?=some (.cells #[.bool f,pv] 49 (0,0))∧
  ORow w.heap.size ((V.setCell ⟨w.heap.size,0,none⟩ (.bool f)).setCell ⟨w.heap.size,1,none⟩ pv) pv ops∧
  RwI ((V.setCell ⟨w.heap.size,0,none⟩ (.bool f)).setCell ⟨w.heap.size,1,none⟩ pv) b ao bw off cap L s∧
  ((V.setCell ⟨w.heap.size,0,none⟩ (.bool f)).setCell ⟨w.heap.size,1,none⟩ pv).heap[S]?=some (.cells #[qv] 22 (0,0))∧
  GRow base ((V.setCell ⟨w.heap.size,0,none⟩ (.bool f)).setCell ⟨w.heap.size,1,none⟩ pv) qv qs∧
  Turned (b::S::qv0.ownBlock.toList) w ((V.setCell ⟨w.heap.size,0,none⟩ (.bool f)).setCell ⟨w.heap.size,1,none⟩ pv)∧(∀g ∈ qv.ownBlock.toList,g ∈ qv0.ownBlock.toList∨w.heap.size≤g):=by
 have e:∀k,k≠w.heap.size→((V.setCell ⟨w.heap.size,0,none⟩ (.bool f)).setCell ⟨w.heap.size,1,none⟩ pv).heap[k]?=V.heap[k]?:=fun k hk=>(Below.heap_setCell _ _ _ _ hk).trans (Below.heap_setCell _ _ _ _ hk)
 refine⟨two_stored h.res,row_base (row_same hrow fun k hk _=>e k (by omega)) (by omega),RwI.keep h.rd (e _ (by omega)) (fun h0=>e _ (by have:=hb h0;omega)),(e _ (by omega)).trans h.sb,?_,(h.t.setCell (.inr (Nat.le_refl _)) _).setCell (.inr (Nat.le_refl _)) _,h.new⟩
 refine ownsRow_same h.qr fun k hk _=>e k ?_
 rintro rfl
 exact block_off h.res h.qr (by decide) (by simpa using hk:qv.ownBlock=some _).symm
end
def ClP (L:List Wd) (s:Rd) (w:World) (b:Nat) (ao:Option Addr) (bw off cap:Nat) (S base:Nat) (qv:Value) (qs:List Int) (r:Ending) (w':World):Prop:=
 ∃v qv',r= .returned (.agg #[.bool (progQ L s).1.1,v])∧ORow w.heap.size w' v (progQ L s).1.2∧RwI w' b ao bw off cap L (progQ L s).2∧w'.heap[S]?=some (.cells #[qv'] 22 (0,0))∧GRow base w' qv' (qs++[(s.1:Int)])∧
  Turned (b::S::qv.ownBlock.toList) w w'∧(∀g ∈ qv'.ownBlock.toList,g ∈ qv.ownBlock.toList∨w.heap.size≤g)
theorem start_any {w:World} {b:Nat} {ao:Option Addr} {bw off cap:Nat} {L:List Wd} {s:Rd} (S base:Nat) (qv:Value) (qs:List Int) (h:RwI w b ao bw off cap L s) (hL:Clean L) (hs:w.heap[S]?=some (.cells #[qv] 22 (0,0))) (hq:GRow base w qv qs) (hlen:qs.length≤100)
  (hb:b < base) (hbS:b≠S) (hbw:0 < L.length→bw < base∧bw≠S) (hbase:base≤w.heap.size):
  Calls Tryz.prog 132 #[.pointer (some ⟨b,0,none⟩), .pointer (some ⟨S,0,none⟩)] w (ClP L s w b ao bw off cap S base qv qs):=by
 obtain⟨i0,hi0,hz0,hz1,hz2⟩:=info_parts int_info
 have HI:=xhd (ClI.start h hs hq)
 have HBW:=xhd (fun h0=>(h.ws.at_ h0).2)
 have HL1:=xhd (lt_of_block h.rd)
 have HL2:=xhd (lt_of_block hs)
 have HB:=xhd hbw
 have hpt:=fun V (hV:RwI V b ao bw off cap L s)=>part_any hV hL
 obtain⟨⟨⟨f,ops⟩,s'⟩,hP⟩:∃P,progQ L s=P:=⟨_,rfl⟩
 unfold PartO at hpt
 unfold ClP
 simp only [hP] at hpt ⊢
 have HPT:=xhd hpt
 clear hpt hP
 obtain⟨aov,capv,hv,_⟩:=ownsRow_shape hq
 obtain⟨m,hm⟩:∃m,qs.length=m:=⟨_,rfl⟩
 have HM:=xhd hm
 rw [hm] at hv hlen
 subst hv
 have HBS:=xhd hbS
 have HBB:=xhd hb
 have HBA:=xhd hbase
 have hw0:∃W0,w.alloc zeroP=W0:=⟨_,rfl⟩
 have HW0:=xhd hw0
 clear hw0 h hL hs hq hm hbw hb hbS hbase
 go_enter Tryz.func132,Tryz.ntmps132
 go_wp2_with fail
 obtain⟨W0,hW0⟩:=HW0.out
 rw [hW0] at HI
 simp only [hW0]
 clear hW0 HW0
 with_reducible refine (met_any HI.out.rd.rd).mono ?_
 rintro r w1 ⟨rfl,q,rfl⟩
 have HI1:=xhd (HI.out.below (below_drewN (Below.refl _ _) q))
 obtain⟨W1,hW1⟩:∃W1,W0.drewN q=W1:=⟨_,rfl⟩
 rw [hW1] at HI1 ⊢
 clear hW1
 have s0:=cell1 HI1.out.sb
 have HI2:=xhd (HI1.out.below ((Below.refl _ _).alloc (Nat.le_refl _) (.cells #[.int .i64 (s.1:Nat)] 3)))
 have hSlt:=lt_of_block HI1.out.sb
 go_wp2_with (at_builtin;go_loud (
              refine wpList_append_any _ rfl _ _ 22 rfl 3 i0 (.int .i64 0) 1 8 Tryz.underlying22 hi0 hz0 hz1 hz2 rfl (by decide) _ m (cellsOf gC qs) rfl (row_base (by have h:=HI2.out.qr;unfold GRow at h;rw [HM.out] at h;exact h) (Nat.zero_le base)) (some ⟨W1.heap.size,0,none⟩) 1 1 (gC (s.1:Nat)) rfl rfl (by intro h;cases h) (by intro ad had;cases had;exact sevint_new _ _) (gC_one' _) (by unfold maxLen;omega) (by omega) ?_
              intro a' cap' w4 hown hgrow hnew
              have hqr:=HI2.out.qr
              unfold GRow at hqr
              rw [HM.out] at hqr
              have hpp:=HI2.out.push HBB.out HBS.out HL2.out HB.out (by have:=lt_of_block HI2.out.res;exact this) (by rw [HM.out];exact new_rise hqr (Nat.le_trans HBA.out HI2.out.t.size) hown hnew) hgrow hnew
              have s4:=cell1 hpp.1
              have fs4:=not_frozen hpp.1 0
              have HI4:=xhd hpp.2
              clear hown hgrow hnew hpp s0 hqr
              have HW5:Hid (∃W5,w4.setCell ⟨S,0,none⟩ (.slice a' (m+1) cap')=W5):=⟨_,rfl⟩))
 obtain⟨W5,hW5⟩:=HW5.out
 rw [hW5] at HI4 ⊢
 clear hW5 HW5 s4 fs4
 refine (HPT.out _ HI4.out.rd).mono ?_
 rintro r w6 ⟨v,rfl,hrow,hm6⟩
 have HI6:=xhd (HI4.out.moved HBB.out HL1.out HBS.out hm6)
 have HF:=xhd (HI6.out.fin HL1.out HL2.out HBW.out hrow (lt_of_block HI4.out.res) f)
 obtain⟨av,cv,hv,_⟩:=ownsRow_shape hrow
 subst hv
 obtain⟨z0,z1⟩:=two_cells HI6.out.res
 have fz0:=not_frozen HI6.out.res 0
 have fz1:=not_frozen HI6.out.res 1
 obtain⟨mo,hmo⟩:∃m,ops.length=m:=⟨_,rfl⟩
 rw [hmo] at HF ⊢
 clear hrow hm6 hmo
 go_wp2
 refine bodyPost_ret (prog_res rfl rfl HF.out.1) rfl ?_
 exact⟨_,_,rfl,HF.out.2⟩
end Go.Proofs.YtbnhnnccioljhaaGreatDoor
namespace Go.Proofs.YtbnhnnccioljhaaGreatDoor
open Go.RowKit
structure PvI (w wr:World) (b:Nat) (ao:Option Addr) (bw off cap:Nat) (L:List Wd) (s:Rd) (pb pc S:Nat) (v qv:Value) (n:Nat) (xs:List (Prg×Value)) (qs:List Int):Prop where
 rd:RwI wr b ao bw off cap L s
 box:wr.heap[w.heap.size]?=some (.cells #[.int .i64 1, .int .i64 8, .slice (some ⟨pb,0,none⟩) 1 pc] 172 (0,0))
 ta:TArg wr pb 0 [⟨#[112,114,111,103]⟩]
 row:wr.ownsRow w.heap.size 49 2 v n (cellsOf pgC xs)
 po:∀x ∈ xs,ORow w.heap.size wr x.2 x.1.2
 sb:wr.heap[S]?=some (.cells #[qv] 22 (0,0))
 qr:GRow w.heap.size wr qv qs
 t:Turned [b,S] w wr
 l1:b < w.heap.size
 l2:pb < w.heap.size
 l3:S < w.heap.size
 n1:pb≠b
 n2:pb≠S
 n3:b≠S
 bwl:0 < L.length→bw < w.heap.size∧bw≠S
section
variable {w wr wr':World} {b:Nat} {ao:Option Addr} {bw off cap:Nat} {L:List Wd} {s s':Rd} {pb pc S:Nat} {v qv:Value} {n:Nat} {xs:List (Prg×Value)} {qs:List Int}
theorem PvI.moved (h:PvI w wr b ao bw off cap L s pb pc S v qv n xs qs) (m:RwP b ao bw off cap L s' wr wr'):PvI w wr' b ao bw off cap L s' pb pc S v qv n xs qs:=by
 obtain⟨m1,m2⟩:=m
 have:=h.l1
 have:=h.l2
 have:=h.l3
 have hz:=h.t.size
 refine⟨m1,m2.same h.box (by simp;omega),h.ta.same (m2.block _ (by omega) (by simpa using h.n1)),row_turned h.row m2 h.l1,fun x hx=>row_turned (h.po x hx) m2 h.l1,m2.same h.sb (by simpa using fun e=>h.n3 e.symm),row_turned h.qr m2 h.l1,h.t.trans (m2.more (by simp)) (Newer.refl _ _),h.l1,h.l2,h.l3,h.n1,h.n2,h.n3,h.bwl⟩
theorem PvI.below (h:PvI w wr b ao bw off cap L s pb pc S v qv n xs qs) (hb:Below wr.heap.size wr wr'):PvI w wr' b ao bw off cap L s pb pc S v qv n xs qs:=
 h.moved ⟨RdI.below h.rd hb,turned_below hb [b]⟩
theorem PvI.started (h:PvI w wr b ao bw off cap L s pb pc S v qv n xs qs) {qv':Value} {qs':List Int} (hr:RwI wr' b ao bw off cap L s') (hs:wr'.heap[S]?=some (.cells #[qv'] 22 (0,0))) (hq:GRow w.heap.size wr' qv' qs') (ht:Turned (b::S::qv.ownBlock.toList) wr wr'):
  PvI w wr' b ao bw off cap L s' pb pc S v qv' n xs qs':=by
 have h1:=h.l1
 have h2:=h.l2
 have h3:=h.l3
 have hz:=h.t.size
 have hqb:∀k,qv.ownBlock=some k→w.heap.size≤k:=fun k hk=>row_own h.qr k hk
 have hk:∀k,k < wr.heap.size→k≠b→k≠S→qv.ownBlock≠some k→wr'.heap[k]?=wr.heap[k]?:=fun k hk a1 a2 a3=>ht.block k hk (by
  simp only [List.mem_cons,Option.mem_toList,not_or]
  exact⟨a1,a2,a3⟩)
 have hrow:∀(e:TypeId) (size n:Nat) (u:Value) (ys:List Value),wr.ownsRow w.heap.size e size u n ys→e≠3→wr'.ownsRow w.heap.size e size u n ys:=fun e size n u ys hu he=>ownsRow_same hu fun k hk1 hl=>hk k hl (by have:=row_own hu k (by simpa using hk1);omega) (by have:=row_own hu k (by simpa using hk1);omega) (by
  have hk2:u.ownBlock=some k:=by simpa using hk1
  intro e1
  rcases rows_off hu h.qr he with h0|h0
  ·rw [h0] at hk2
   cases hk2
  ·exact h0 (hk2.trans e1.symm))
 refine⟨hr,(hk _ (lt_of_block h.box) (by omega) (by omega) (block_off h.box h.qr (by decide)).symm).trans h.box,h.ta.same (hk _ (by omega) h.n1 h.n2 (fun e=>by have:=hqb _ e;omega)),hrow _ _ _ _ _ h.row (by decide),fun x hx=>hrow _ _ _ _ _ (h.po x hx) (by decide),hs,hq,?_,h.l1,h.l2,h.l3,h.n1,h.n2,h.n3,h.bwl⟩
 refine⟨ht.os.trans h.t.os,ht.tape.trans h.t.tape,ht.output.trans h.t.output,Nat.le_trans h.t.size ht.size,fun k hk1 hx=>?_⟩
 simp only [List.mem_cons,List.not_mem_nil,or_false,not_or] at hx
 exact (hk k (by omega) hx.1 hx.2 (fun e=>by have:=hqb _ e;omega)).trans (h.t.block k hk1 (by simp [hx.1,hx.2]))
theorem PvI.push (h:PvI w wr b ao bw off cap L s pb pc S v qv n xs qs) {w4:World} {v':Value} {x:Prg×Value} (hx:ORow w.heap.size wr x.2 x.1.2) (hown:w4.ownsRow w.heap.size 49 2 v' (n+1) (cellsOf pgC xs++pgC x)) (hg:wr.grownBy w4 v.ownBlock):PvI w w4 b ao bw off cap L s pb pc S v' qv (n+1) (xs++[x]) qs:=by
 have hb:Below w.heap.size wr w4:=app_below (Below.refl _ _) h.t.size (Nat.le_refl _) h.row hg
 have h1:=h.l1
 have h2:=h.l2
 refine⟨RwI.keep h.rd (hb.block _ h1) (fun h0=>hb.block _ (h.bwl h0).1),(hg.block _ (lt_of_block h.box) (block_off h.box h.row (by decide))).trans h.box,h.ta.same (hb.block _ h2),?_,fun y hy=>?_,(hb.block _ h.l3).trans h.sb,row_kept h.qr h.row hg (by decide),⟨hb.os.trans h.t.os,hb.tape.trans h.t.tape,hb.output.trans h.t.output,Nat.le_trans h.t.size hb.size,fun k hk hx=>(hb.block k hk).trans (h.t.block k hk hx)⟩,h1,h2,h.l3,h.n1,h.n2,h.n3,h.bwl⟩
 ·rw [cellsOf_snoc]
  exact hown
 ·rcases List.mem_append.1 hy with hy|hy
  ·exact row_kept (h.po y hy) h.row hg (by decide)
  ·simp only [List.mem_singleton] at hy
   subst hy
   exact row_kept hx h.row hg (by decide)
end
def PI (L:List Wd) (G:List (Prg×Nat)×Rd) (s:Rd) (gs:List (Prg×Nat)):Prop:=(s.2=0∧gs.length≤8∧∃n,10=n+gs.length∧progsS L n s gs=G)∨(s.2≠0∧gs.length≤9∧s=G.2)
theorem progsS_dead {L:List Wd} {n:Nat} {s:Rd} {gs:List (Prg×Nat)} (h:s.2≠0):progsS L n s gs=(gs,s):=by
 cases n with
 |zero=>rfl
 |succ n=>
  unfold progsS
  rw [if_neg]
  rintro (h1|h1)
  ·rw [isS_dead h] at h1
   cases h1
  ·exact h h1.2
theorem PI.step {L:List Wd} {G:List (Prg×Nat)×Rd} {s:Rd} {gs:List (Prg×Nat)} (h:PI L G s gs) (h0:s.2=0) (hc:isS L s 1 progB=true∨gs.length=0) (h4:gs.length≠8):PI L G (progQ L s).2 (gs++[((progQ L s).1,s.1)]):=by
 rcases h with⟨_,hl,n,hn,hG⟩ |⟨h1,_⟩
 ·obtain⟨m,rfl⟩:∃m,n=m+1:=⟨n - 1,by omega⟩
  unfold progsS at hG
  have hq:progQ L s=((parseR L s.1).1,((parseR L s.1).2.1.toNat,(parseR L s.1).2.2)):=by unfold progQ;rw [if_pos h0]
  rw [if_pos (by rcases hc with h|h;exact .inl h;exact .inr ⟨h,h0⟩),if_neg (by omega)] at hG
  rw [hq]
  simp only
  by_cases hd:(parseR L s.1).2.2=0
  ·exact .inl ⟨hd,by simp;omega,m,by simp;omega,hG⟩
  ·rw [progsS_dead hd] at hG
   exact .inr ⟨hd,by simp;omega,by rw [←hG]⟩
 ·exact absurd h0 h1
theorem PI.full {L:List Wd} {G:List (Prg×Nat)×Rd} {s:Rd} {gs:List (Prg×Nat)} (h:PI L G s gs) (h0:s.2=0) (hc:isS L s 1 progB=true) (h4:gs.length=8) (x:Prg×Nat):PI L G (s.1,6) (gs++[x]):=by
 rcases h with⟨_,hl,n,hn,hG⟩ |⟨h1,_⟩
 ·obtain⟨m,rfl⟩:∃m,n=m+1:=⟨n - 1,by omega⟩
  unfold progsS at hG
  rw [if_pos (.inl hc),if_pos (by omega)] at hG
  exact .inr ⟨by show (6:Int)≠0;decide,by simp;omega,by rw [←hG]⟩
 ·exact absurd h0 h1
theorem PI.stop {L:List Wd} {G:List (Prg×Nat)×Rd} {s:Rd} {gs:List (Prg×Nat)} (h:PI L G s gs) (h0:s.2=0) (hc:¬isS L s 1 progB=true) (h4:gs.length≠0):G=(gs,s):=by
 rcases h with⟨_,hl,n,hn,hG⟩ |⟨h1,_⟩
 ·obtain⟨m,rfl⟩:∃m,n=m+1:=⟨n - 1,by omega⟩
  unfold progsS at hG
  rw [if_neg (by rintro (h|h);exact hc h;exact h4 h.1)] at hG
  exact hG.symm
 ·exact absurd h0 h1
theorem PI.len {L:List Wd} {G:List (Prg×Nat)×Rd} {s:Rd} {gs:List (Prg×Nat)} (h:PI L G s gs):gs.length≤9∧(s.2=0→gs.length≤8):=by
 rcases h with⟨_,h,_⟩ |⟨h0,h,_⟩
 ·exact⟨by omega,fun _=>h⟩
 ·exact⟨h,fun e=>absurd e h0⟩
theorem PI.dead {L:List Wd} {G:List (Prg×Nat)×Rd} {s:Rd} {gs:List (Prg×Nat)} (h:PI L G s gs) (h0:s.2≠0):s=G.2:=by
 rcases h with⟨h1,_⟩ |⟨_,_,h⟩
 ·exact absurd h1 h0
 ·exact h
theorem prog_first {L:List Wd} (hL:Clean L) {s:Rd} (h:s.2=0) {q:Bool} (hq:([⟨#[112,114,111,103]⟩]:List ByteArray).any (firstOf (nextR L s.1))=q):(isS L s 1 progB=true↔q=true):=by
 simp only [List.any_cons,List.any_nil,Bool.or_false,first_is hL h] at hq
 rw [←hq]
theorem pgC_one {x:Prg×Value} (hx:x.2.oneCell'=true):∀u ∈ pgC x,u.oneCell'=true:=by
 intro u hu
 simp only [pgC,List.mem_cons,List.not_mem_nil,or_false] at hu
 rcases hu with rfl|rfl
 ·rfl
 ·exact hx
theorem sevprog_new (W:World) (f:Bool) (v:Value):∀(j:Nat) (u:Value),([.bool f,v]:List Value)[j]?=some u→(W.alloc (.cells #[.bool f,v] 49)).cell? ((⟨W.heap.size,0,none⟩:Addr).add j)=some u:=by
 intro j u hu
 have h:=heap_alloc_new W (.cells #[.bool f,v] 49)
 have e:((⟨W.heap.size,0,none⟩:Addr).add j)=⟨W.heap.size,j,none⟩:=by
  cases j<;>simp [Addr.add]
 rw [e]
 have hj:j < 2:=by
  obtain⟨hj, -⟩:=List.getElem?_eq_some_iff.1 hu
  simpa using hj
 rw [cell_at h (by simpa using hj)]
 have:=(List.getElem?_eq_some_iff.1 hu).2
 simpa using this
def SevProgs (L:List Wd) (G:List (Prg×Nat)×Rd) (w:World) (b S:Nat) (ao:Option Addr) (bw off cap:Nat) (r:Ending) (w':World):Prop:=
 ∃(v qv:Value) (xs:List (Prg×Value)) (gs:List (Prg×Nat)) (s:Rd),r= .returned v∧w'.ownsRow w.heap.size 49 2 v xs.length (cellsOf pgC xs)∧(∀x ∈ xs,ORow w.heap.size w' x.2 x.1.2)∧w'.heap[S]?=some (.cells #[qv] 22 (0,0))∧GRow w.heap.size w' qv (gs.map fun x=>(x.2:Int))∧RwI w' b ao bw off cap L s∧Turned [b,S] w w'∧
  xs.map (·.1)=gs.map (·.1)∧s=G.2∧(s.2=0→gs=G.1)∧gs.length≤9
theorem sevprogs_any {w:World} {b:Nat} {ao:Option Addr} {bw off cap:Nat} {L:List Wd} {s0:Rd} (pb pc S:Nat) (h:RwI w b ao bw off cap L s0) (hL:Clean L) (hp:TArg w pb 0 [⟨#[112,114,111,103]⟩]) (hs:w.heap[S]?=some (.cells #[.slice none 0 0] 22 (0,0))) (n1:pb≠b) (n2:pb≠S) (n3:b≠S) (hbw:0 < L.length→bw≠S):
  Calls Tryz.prog 131 #[.pointer (some ⟨b,0,none⟩), .agg #[.int .i64 1, .int .i64 8, .slice (some ⟨pb,0,none⟩) 1 pc], .func (.func 132) #[] #[.pointer (some ⟨S,0,none⟩)]] w (SevProgs L (progsS L 10 s0 []) w b S ao bw off cap):=by
 obtain⟨i0,hi0,hz0,hz1,hz2⟩:=info_parts prog_info
 have HST:Hid (PvI w (w.alloc (.cells #[.int .i64 1, .int .i64 8, .slice (some ⟨pb,0,none⟩) 1 pc] 172)) b ao bw off cap L s0 pb pc S (.slice none 0 0) (.slice none 0 0) ([]:List (Prg×Value)).length [] []):=xhd (by
  have hb:Below w.heap.size w (w.alloc (.cells #[.int .i64 1, .int .i64 8, .slice (some ⟨pb,0,none⟩) 1 pc] 172)):=(Below.refl _ w).alloc (Nat.le_refl _) _
  exact⟨RdI.below h hb,heap_alloc_new _ _,hp.below hb,World.ownsRow_nil _ _ _ _,(by intro x hx;cases hx),(hb.block _ (lt_of_block hs)).trans hs,World.ownsRow_nil _ _ _ _,turned_below hb _,lt_of_block h.rd,hp.lt,lt_of_block hs,n1,n2,n3,fun h0=>⟨(h.ws.at_ h0).2,hbw h0⟩⟩)
 have HNX:=xhd (fun V (s:Rd) (hV:RwI V b ao bw off cap L s)=>next_any hV)
 have HBG:=xhd (fun V (x:Wd) (hV:TArg V pb 0 [⟨#[112,114,111,103]⟩])=>(show Calls Tryz.prog 162 #[.agg #[.int .i64 1, .int .i64 8, .slice (some ⟨pb,0,none⟩) 1 pc],wdV x] V fun e w'=>e= .returned (.bool (([⟨#[112,114,111,103]⟩]:List ByteArray).any (firstOf x)))∧Below V.heap.size V w' from begins_any 1 8 pb 0 pc x [⟨#[112,114,111,103]⟩] V hV (by simp)))
 have HRD:=xhd (fun V (s:Rd) (v qv:Value) (m:Nat) (xs:List (Prg×Value)) (qs:List Int) (hV:PvI w V b ao bw off cap L s pb pc S v qv m xs qs) (hq:qs.length≤100)=>start_any S w.heap.size qv qs hV.rd hL hV.sb hV.qr hq hV.l1 hV.n3 hV.bwl hV.t.size)
 have HCL:=xhd hL
 obtain⟨G,hG⟩:∃G,progsS L 10 s0 []=G:=⟨_,rfl⟩
 have HR0:Hid (PI L G s0 []):=xhd (by
  by_cases h0:s0.2=0
  ·exact .inl ⟨h0,by simp,10,by simp,hG⟩
  ·rw [progsS_dead h0] at hG
   exact .inr ⟨h0,by simp,by rw [←hG]⟩)
 rw [hG]
 clear h hL hp hs n1 n2 n3 hbw hG
 go_enter Tryz.func131,Tryz.ntmps131
 go_wp2_with fail
 go_loopw [7] (fun l' wr=>∃(s:Rd) (qv:Value) (xs:List (Prg×Value)) (gs:List (Prg×Nat)),Hid (PvI w wr b ao bw off cap L s pb pc S l' qv xs.length xs (gs.map fun x=>(x.2:Int)))∧Hid (PI L G s gs)∧Hid (xs.map (·.1)=gs.map (·.1))) (fun l' _=>10 - lenOf l')
 case atStart=>exact⟨s0,_,[],[],HST,HR0,xhd rfl⟩
 case round=>
  obtain⟨s,qv,xs,gs,HI,HR,HE⟩:=hrel
  obtain⟨aov,capv,hv,_⟩:=ownsRow_shape HI.out.row
  subst hv
  obtain⟨hlm,hl4⟩:=HR.out.len
  obtain⟨m,hm⟩:∃m,gs.length=m:=⟨_,rfl⟩
  have HM:=xhd hm
  have hxm:xs.length=m:=by
   have:=congrArg List.length HE.out
   simpa [hm] using this
  have HXM:=xhd hxm
  rw [hxm] at HI
  rw [hm] at hlm hl4
  rw [hxm]
  obtain⟨p0,p1,p2⟩:=three_cells HI.out.box
  clear hm hxm
  by_cases h0:s.2=0
  ·have HGL:=xhd (fun V (hV:Below wr.heap.size wr V)=>(by
     have k:=(HI.out.below hV).rd.rd
     rw [h0] at k
     exact goes_live k:Calls Tryz.prog 66 #[.pointer (some ⟨b,0,none⟩)] V _))
   have hl4:=hl4 h0
   by_cases hm0:m=0
   ·have hg1:(m:Int) < 1:=by omega
    have hg2:decide ((m:Int) < 1)=true:=by simp;omega
    have hmb:((m:Int) == 8)=false:=by simp;omega
    have HM0:=xhd hm0
    clear hm0
    go_wp2_with fail
    go_quiet ((go_at_call 66;exact Calls.quiet_of_same (HGL.out _ (below_drewN (Below.refl _ _) _))))
    have HI7:=xhd (HI.out.below (below_drewN (Below.refl _ _) nq))
    obtain⟨⟨⟨f,ops⟩,s1⟩,hx⟩:∃P,progQ L s=P:=⟨_,rfl⟩
    have hst:=HR.out.step h0 (.inr (by rw [HM.out];exact HM0.out)) (by rw [HM.out];omega)
    rw [hx] at hst
    have HRN:=xhd hst
    have hrd:=HRD.out _ s _ _ _ _ _ HI7.out (by rw [List.length_map,HM.out];omega)
    unfold ClP at hrd
    rw [hx] at hrd
    have HRX:=xhd hrd
    have HZ7:=xhd HI7.out.t.size
    clear hst hrd hx p0 p1 p2
    obtain⟨p0,p1,p2⟩:=three_cells HI7.out.box
    go_wp2_with fail
    refine HRX.out.mono ?_
    rintro r w8 ⟨v8,qv8,rfl,hrow8,hr8,hs8,hq8,ht8, -⟩
    clear p0 p1 p2
    have HI8:=xhd (HI7.out.started hr8 hs8 hq8 ht8)
    clear hr8 hs8 hq8 ht8
    obtain⟨av,cv,hav,_⟩:=ownsRow_shape hrow8
    obtain⟨no,hno⟩:∃no,ops.length=no:=⟨_,rfl⟩
    have HNO:=xhd hno
    rw [hno] at hav
    subst hav
    have hnz:w.heap.size≤w8.heap.size:=HI8.out.t.size
    have HROW:=xhd (row_base (base':=w.heap.size) hrow8 HZ7.out)
    clear hrow8 hno hnz
    go_wp2_with (at_builtin;refine wpList_append_own _ rfl _ _ 24 rfl w.heap.size 49 i0 (.agg #[.bool false, .slice none 0 0]) 2 32 Tryz.underlying24 hi0 hz0 hz1 hz2 rfl (by decide) _ _ _ rfl (HI8.out.below ((Below.refl _ _).alloc (Nat.le_refl _) _)).row ⟨_,0,none⟩ 1 1 [.bool f, .slice av no cv] rfl rfl ?c1 ?c2 ?c3 ?c4 ?c5 ?_)
    case c1=>exact sevprog_new _ _ _
    case c2=>exact pgC_one (x:=((f,ops), .slice av no cv)) rfl
    case c3=>(unfold maxLen;omega)
    case c4=>omega
    case c5=>exact Nat.le_trans HI8.out.t.size (by simp)
    intro v' w6 hown hgrow _
    have hin:=(HI8.out.below ((Below.refl _ _).alloc (Nat.le_refl _) (.cells #[.bool f, .slice av no cv] 49))).push (x:=((f,ops), .slice av no cv)) (row_below HROW.out ((Below.refl _ _).alloc (Nat.le_refl _) _)) hown hgrow
    rw [show m+1=(xs++[((f,ops),Value.slice av no cv)]).length by simp [HXM.out]] at hin
    rw [show List.map (fun x:Prg×Nat=>(x.2:Int)) gs++[(s.1:Int)]=(gs++[((f,ops),s.1)]).map (fun x=>(x.2:Int)) by simp] at hin
    have HIN:=xhd hin
    have HEN:Hid ((xs++[((f,ops),Value.slice av no cv)]).map (·.1)=(gs++[((f,ops),s.1)]).map (·.1)):=xhd (by rw [List.map_append,List.map_append,HE.out];rfl)
    obtain⟨ao4,cap4,hv4,_⟩:=ownsRow_shape hown
    subst hv4
    clear hown hgrow hin
    go_wp2
    go_roundw
    case rel=>exact⟨_,_,_,_,HIN,HRN,HEN⟩
    case measure=>simp [lenOf];omega
   ·have hg1:¬(m:Int) < 1:=by omega
    have hg2:decide ((m:Int) < 1)=false:=by simp;omega
    obtain⟨y,hy⟩:∃y,nextR L s.1=y:=⟨_,rfl⟩
    obtain⟨q,hq⟩:∃q,([⟨#[112,114,111,103]⟩]:List ByteArray).any (firstOf y)=q:=⟨_,rfl⟩
    have HQI:=xhd (prog_first HCL.out h0 (q:=q) (by rw [hy];exact hq))
    have hnx:=fun V hV=>HNX.out V s hV
    have hbg:=fun V hV=>HBG.out V y hV
    simp only [hy] at hnx
    simp only [hq] at hbg
    unfold wdV at hnx hbg
    obtain⟨ty,hty⟩:∃t:ByteArray,⟨y.2.1.toArray⟩=t:=⟨_,rfl⟩
    simp only [hty] at hnx hbg
    obtain⟨y0,_,y2,y3⟩:=y
    simp only at hnx hbg
    have HNXX:=xhd hnx
    have HBGG:=xhd hbg
    have HID:=xhd (HI.out.below (Below.refl _ _).drew)
    have s0:=three_cells HID.out.box
    clear hnx hbg hy hq hty
    go_wp2_with fail
    go_region_held3 (fun V=>V.cell? ⟨w.heap.size,0,none⟩=some (.int .i64 1)∧V.cell? ⟨w.heap.size,1,none⟩=some (.int .i64 8)∧V.cell? ⟨w.heap.size,2,none⟩=some (.slice (some ⟨pb,0,none⟩) 1 pc))
     (first|exact s0|exact s1|exact s2)
     (first
       |(go_at_call 66
         with_reducible refine (HGL.out _ (Below.refl _ _).drew).mono ?_
         rintro r V1 ⟨rfl,rfl⟩)
       |(go_at_call 137
         with_reducible refine (HNXX.out _ HID.out.rd).mono ?_
         rintro r V1 ⟨rfl,hb⟩
         have HI5:=xhd (HID.out.below hb)
         have s1:=three_cells HI5.out.box
         clear hb)
       |(go_at_call 162
         with_reducible refine (HBGG.out _ HI5.out.ta).mono ?_
         rintro r V2 ⟨rfl,hb⟩
         have HI7:=xhd (HI5.out.below hb)
         have s2:=three_cells HI7.out.box
         clear hb))
    clear s0 s1 p0 p1 p2
    obtain⟨p0,p1,p2⟩:=s2
    cases q with
    |false=>
     have HEE:=xhd (HR.out.stop h0 (fun hh=>by have:=(HQI.out).1 hh;cases this) (by rw [HM.out];exact hm0))
     clear p0 p1 p2
     go_wp2
     go_ret
     exact⟨_,qv,xs,gs,s,rfl,by rw [HXM.out];exact HI7.out.row,HI7.out.po,HI7.out.sb,HI7.out.qr,HI7.out.rd,HI7.out.t,HE.out,by rw [HEE.out],fun _=>by rw [HEE.out],by rw [HM.out];omega⟩
    |true=>
     by_cases hmx:m=8
     ·have hmb:((m:Int) == 8)=true:=by simp;omega
      have HMX:=xhd hmx
      clear hmx
      have hrr:=HI7.out.rd.rd
      rw [h0] at hrr
      have HFX:=xhd (fail_live hrr 6)
      have hle:=HI7.out.rd.le
      clear hrr
      go_wp2_with fail
      with_reducible refine HFX.out.mono ?_
      rintro r w7 ⟨rfl,hr7,ht7⟩
      clear p0 p1 p2
      have HI7b:=xhd (HI7.out.moved (s':=(s.1,6)) ⟨HI7.out.rd.turned ht7 hr7 hle,ht7⟩)
      clear hr7 ht7 hle
      obtain⟨⟨⟨f,ops⟩,s1⟩,hx⟩:∃P,progQ L (s.1,6)=P:=⟨_,rfl⟩
      have hs1:s1=(s.1,6):=by
       unfold progQ at hx
       rw [if_neg (by show ¬(6:Int)=0;decide)] at hx
       exact (congrArg Prod.snd hx).symm
      subst hs1
      have HRN:=xhd (HR.out.full h0 (by first|exact (HQI.out).2 rfl|exact (HQI.out).2 trivial) (HM.out.trans HMX.out) ((f,ops),s.1))
      have hrd:=HRD.out _ (s.1,6) _ _ _ _ _ HI7b.out (by rw [List.length_map,HM.out];omega)
      unfold ClP at hrd
      rw [hx] at hrd
      have HRX:=xhd hrd
      have HZ7:=xhd HI7b.out.t.size
      clear hrd hx
      go_wp2_with fail
      refine HRX.out.mono ?_
      rintro r w8 ⟨v8,qv8,rfl,hrow8,hr8,hs8,hq8,ht8, -⟩
      have HI8:=xhd (HI7b.out.started hr8 hs8 hq8 ht8)
      clear hr8 hs8 hq8 ht8
      obtain⟨av,cv,hav,_⟩:=ownsRow_shape hrow8
      obtain⟨no,hno⟩:∃no,ops.length=no:=⟨_,rfl⟩
      have HNO:=xhd hno
      rw [hno] at hav
      subst hav
      have hnz:w.heap.size≤w8.heap.size:=HI8.out.t.size
      have HROW:=xhd (row_base (base':=w.heap.size) hrow8 HZ7.out)
      clear hrow8 hno hnz
      go_wp2_with (at_builtin;refine wpList_append_own _ rfl _ _ 24 rfl w.heap.size 49 i0 (.agg #[.bool false, .slice none 0 0]) 2 32 Tryz.underlying24 hi0 hz0 hz1 hz2 rfl (by decide) _ _ _ rfl (HI8.out.below ((Below.refl _ _).alloc (Nat.le_refl _) _)).row ⟨_,0,none⟩ 1 1 [.bool f, .slice av no cv] rfl rfl ?c1 ?c2 ?c3 ?c4 ?c5 ?_)
      case c1=>exact sevprog_new _ _ _
      case c2=>exact pgC_one (x:=((f,ops), .slice av no cv)) rfl
      case c3=>(unfold maxLen;omega)
      case c4=>omega
      case c5=>exact Nat.le_trans HI8.out.t.size (by simp)
      intro v' w6 hown hgrow _
      have hin:=(HI8.out.below ((Below.refl _ _).alloc (Nat.le_refl _) (.cells #[.bool f, .slice av no cv] 49))).push (x:=((f,ops), .slice av no cv)) (row_below HROW.out ((Below.refl _ _).alloc (Nat.le_refl _) _)) hown hgrow
      rw [show m+1=(xs++[((f,ops),Value.slice av no cv)]).length by simp [HXM.out]] at hin
      rw [show List.map (fun x:Prg×Nat=>(x.2:Int)) gs++[(s.1:Int)]=(gs++[((f,ops),s.1)]).map (fun x=>(x.2:Int)) by simp] at hin
      have HIN:=xhd hin
      have HEN:Hid ((xs++[((f,ops),Value.slice av no cv)]).map (·.1)=(gs++[((f,ops),s.1)]).map (·.1)):=xhd (by rw [List.map_append,List.map_append,HE.out];rfl)
      obtain⟨ao4,cap4,hv4,_⟩:=ownsRow_shape hown
      subst hv4
      clear hown hgrow hin
      go_wp2
      go_roundw
      case rel=>exact⟨_,_,_,_,HIN,HRN,HEN⟩
      case measure=>simp [lenOf];omega
     ·have hmb:((m:Int) == 8)=false:=by simp;omega
      obtain⟨⟨⟨f,ops⟩,s1⟩,hx⟩:∃P,progQ L s=P:=⟨_,rfl⟩
      have hst:=HR.out.step h0 (.inl (by first|exact (HQI.out).2 rfl|exact (HQI.out).2 trivial)) (by rw [HM.out];omega)
      rw [hx] at hst
      have HRN:=xhd hst
      have hrd:=HRD.out _ s _ _ _ _ _ HI7.out (by rw [List.length_map,HM.out];omega)
      unfold ClP at hrd
      rw [hx] at hrd
      have HRX:=xhd hrd
      have HZ7:=xhd HI7.out.t.size
      clear hst hrd hx p0 p1 p2
      obtain⟨p0,p1,p2⟩:=three_cells HI7.out.box
      go_wp2_with fail
      refine HRX.out.mono ?_
      rintro r w8 ⟨v8,qv8,rfl,hrow8,hr8,hs8,hq8,ht8, -⟩
      clear p0 p1 p2
      have HI8:=xhd (HI7.out.started hr8 hs8 hq8 ht8)
      clear hr8 hs8 hq8 ht8
      obtain⟨av,cv,hav,_⟩:=ownsRow_shape hrow8
      obtain⟨no,hno⟩:∃no,ops.length=no:=⟨_,rfl⟩
      have HNO:=xhd hno
      rw [hno] at hav
      subst hav
      have hnz:w.heap.size≤w8.heap.size:=HI8.out.t.size
      have HROW:=xhd (row_base (base':=w.heap.size) hrow8 HZ7.out)
      clear hrow8 hno hnz
      go_wp2_with (at_builtin;refine wpList_append_own _ rfl _ _ 24 rfl w.heap.size 49 i0 (.agg #[.bool false, .slice none 0 0]) 2 32 Tryz.underlying24 hi0 hz0 hz1 hz2 rfl (by decide) _ _ _ rfl (HI8.out.below ((Below.refl _ _).alloc (Nat.le_refl _) _)).row ⟨_,0,none⟩ 1 1 [.bool f, .slice av no cv] rfl rfl ?c1 ?c2 ?c3 ?c4 ?c5 ?_)
      case c1=>exact sevprog_new _ _ _
      case c2=>exact pgC_one (x:=((f,ops), .slice av no cv)) rfl
      case c3=>(unfold maxLen;omega)
      case c4=>omega
      case c5=>exact Nat.le_trans HI8.out.t.size (by simp)
      intro v' w6 hown hgrow _
      have hin:=(HI8.out.below ((Below.refl _ _).alloc (Nat.le_refl _) (.cells #[.bool f, .slice av no cv] 49))).push (x:=((f,ops), .slice av no cv)) (row_below HROW.out ((Below.refl _ _).alloc (Nat.le_refl _) _)) hown hgrow
      rw [show m+1=(xs++[((f,ops),Value.slice av no cv)]).length by simp [HXM.out]] at hin
      rw [show List.map (fun x:Prg×Nat=>(x.2:Int)) gs++[(s.1:Int)]=(gs++[((f,ops),s.1)]).map (fun x=>(x.2:Int)) by simp] at hin
      have HIN:=xhd hin
      have HEN:Hid ((xs++[((f,ops),Value.slice av no cv)]).map (·.1)=(gs++[((f,ops),s.1)]).map (·.1)):=xhd (by rw [List.map_append,List.map_append,HE.out];rfl)
      obtain⟨ao4,cap4,hv4,_⟩:=ownsRow_shape hown
      subst hv4
      clear hown hgrow hin
      go_wp2
      go_roundw
      case rel=>exact⟨_,_,_,_,HIN,HRN,HEN⟩
      case measure=>simp [lenOf];omega
  ·have hd:=HR.out.dead h0
   have HGD:=xhd (fun V (hV:Below wr.heap.size wr V)=>goes_dead h0 (HI.out.below hV).rd.rd)
   have HD:=xhd hd
   have H0:=xhd h0
   clear hd p0 p1 p2 h0
   go_wp2_with fail
   go_quiet ((go_at_call 66;exact Calls.quiet_of_same (HGD.out _ (below_drewN (Below.refl _ _) _))))
   have HI7:=xhd (HI.out.below (below_drewN (Below.refl _ _) nq))
   go_wp2
   go_ret
   exact⟨_,qv,xs,gs,s,rfl,by rw [HXM.out];exact HI7.out.row,HI7.out.po,HI7.out.sb,HI7.out.qr,HI7.out.rd,HI7.out.t,HE.out,HD.out,fun e=>absurd e H0.out,by rw [HM.out];omega⟩
end Go.Proofs.YtbnhnnccioljhaaGreatDoor
