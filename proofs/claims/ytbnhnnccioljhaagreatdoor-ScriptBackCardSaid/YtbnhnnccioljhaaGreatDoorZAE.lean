/-
  The program's Parse.
  The program's reader, as setups' plain functions have it: need, a number.
  A line of the program's: its numbers in memory; read.
  The program's lines of a number each; its parts.
  What a round of a loop over a function may turn. No program.
  A loop over a function that turns memory of its own between two rounds (a heap that is popped): its contract, and the caller's law. No program.
  Inside a round of a loop over a function: a region that draws its order, walked as outside of it. No program.
  A list of like things, its cells in a row of one's own that a field of a block holds: what appends, removals and stores make of it. No program.
  What is told of cells abides the steps of a loop over a function; a region with calls in a round; a bool that is answered out of a cell. No program.
  A region that draws its order, in a round of a loop over a function: what its loads read abides till its last operation, which waits for them all, and may turn it. No program.
-/
import Derived.Test.YtbnhnnccioljhaaGreatDoorZAD
import Derived.Test.YtbnhnnccioljhaaGreatDoorZAA
import Derived.RangeFuncNested
import Derived.RangeFuncBound
import Derived.RangeFuncCalls
import Derived.RangeFuncLeaves
import Derived.RangeFuncBox
import Derived.RangeFuncWrites
import Derived.BigQuiet
import Derived.StillTailTactics
import Derived.OrdersIn
import Derived.Laws.AppendOwnNone
import Derived.Maps.AppendAt
import Derived.RegionTactic
import Derived.Test.YtbnhnnccioljhaaGreatDoorChecked
import Derived.Deep.RegionHeld3
import Derived.Shelf.Abstract
import Derived.Test.YtbnhnnccioljhaaGreatDoorZAl
set_option maxRecDepth 100000
set_option maxHeartbeats 25600000
namespace Go.Proofs.YtbnhnnccioljhaaGreatDoor
open Go.RowKit
def ProgG (Q:Bool→List Opn→Nat→Int→Prop) (L:List Wd) (w:World) (b:Nat) (ao:Option Addr) (cap:Nat) (r:Ending) (w':World):Prop:=
 ∃(f:Bool) (v:Value) (ops:List Opn) (c:Nat) (e:Int),r= .returned (.agg #[.bool f,v])∧w'.heap[b]?=some (.cells (rdC ao L.length cap c e) 116 (0,0))∧Turned [b] w w'∧ORow w.heap.size w' v ops∧c≤L.length∧Q f ops c e
theorem prog_gen {Q:Bool→List Opn→Nat→Int→Prop} {w:World} {b:Nat} {ao:Option Addr} {bw off cap:Nat} {L:List Wd} {a:Nat} {e0:Int} (h:RdI w b ao bw off cap L a e0) (hL:Clean L)
  (hQ:∀c1 e1 f c2 e2 c3 e3 ops c4 e4,needQ L a e0 (1,progB,0,0)=(c1,e1)→tkQ L c1 e1 (1,foreverB,0,0)=(f,c2,e2)→needQ L c2 e2 (3,[123],0,0)=(c3,e3)→OpsQ L c3 e3 ops c4 e4→Q f ops (needQ L c4 e4 (3,[125],0,0)).1 (needQ L c4 e4 (3,[125],0,0)).2):
  Calls Tryz.prog 163 #[.pointer (some ⟨b,0,none⟩)] w (ProgG Q L w b ao cap):=by
 have HRT:=xhd (fun V c' e' (t:Turned [b] w V) hr hc=>h.turned (c':=c') (e':=e') t hr hc)
 have HCL:=xhd hL
 have HLE:=xhd h.le
 have HNM:=xhd (fun s W=>pname_any s W)
 have HMK:=xhd (fun s W=>pmark_any s W)
 have HF0:=xhd (PF.start h.rd)
 obtain⟨c1,e1,q1⟩:∃c1 e1,needQ L a e0 (1,progB,0,0)=(c1,e1):=⟨_,_,rfl⟩
 obtain⟨f,c2,e2,q2⟩:∃f c2 e2,tkQ L c1 e1 (1,foreverB,0,0)=(f,c2,e2):=⟨_,_,_,rfl⟩
 obtain⟨c3,e3,q3⟩:∃c3 e3,needQ L c2 e2 (3,[123],0,0)=(c3,e3):=⟨_,_,rfl⟩
 have HPL:=xhd (fun ops c4 e4 (h4:OpsQ L c3 e3 ops c4 e4)=>hQ c1 e1 f c2 e2 c3 e3 ops c4 e4 q1 q2 q3 h4)
 have HLN:=xhd (fun c4 e4 (h4:c4≤L.length)=>needQ_le (L:=L) (c:=c4) (e:=e4) (x:=(3,[125],0,0)) h4 (by show (3:Int)≠0;decide))
 have l1:c1≤L.length:=by
  have:=needQ_le (e:=e0) (x:=(1,progB,0,0)) h.le (by show (1:Int)≠0;decide)
  rw [q1] at this
  exact this
 have l2:c2≤L.length:=by
  have:=tkQ_le (e:=e1) (x:=(1,foreverB,0,0)) l1 (by show (1:Int)≠0;decide)
  rw [q2] at this
  exact this
 have l3:c3≤L.length:=by
  have:=needQ_le (e:=e2) (x:=(3,[123],0,0)) l2 (by show (3:Int)≠0;decide)
  rw [q3] at this
  exact this
 have hN1:=fun V (hV:RdI V b ao bw off cap L a e0)=>need_any hV (1,progB,0,0)
 have hN2:=fun V (hV:RdI V b ao bw off cap L c1 e1)=>take_any hV (1,foreverB,0,0)
 have hN3:=fun V (hV:RdI V b ao bw off cap L c2 e2)=>need_any hV (3,[123],0,0)
 have hN4:=fun V (hV:RdI V b ao bw off cap L c3 e3)=>ops_both hV hL
 have hN5:=fun V c4 e4 (hV:RdI V b ao bw off cap L c4 e4)=>need_any hV (3,[125],0,0)
 unfold wdV at hN1 hN2 hN3 hN5
 simp only [q1,q2,q3] at hN1 hN2 hN3
 simp only at hN5
 have HN1:=xhd hN1
 have HN2:=xhd hN2
 have HN3:=xhd hN3
 have HN4:=xhd hN4
 have HN5:=xhd hN5
 have HL1:=xhd l1
 have HL2:=xhd l2
 have HL3:=xhd l3
 clear hN1 hN2 hN3 hN4 hN5 q1 q2 q3 l1 l2 l3 h hL
 go_enter Tryz.func163,Tryz.ntmps163
 have HW0:Hid (∃W0,(w.alloc zeroP).alloc zeroP=W0):=⟨_,rfl⟩
 go_wp2_with fail
 obtain⟨W0,hW0⟩:=HW0.out
 rw [hW0] at HF0
 simp only [hW0]
 clear hW0 HW0
 with_reducible refine (HNM.out _ _).mono ?_
 rintro r w1 ⟨rfl,hb⟩
 have HF1:=xhd (HF0.out.below hb)
 clear hb
 go_wp2_with fail
 with_reducible refine (HN1.out _ (HRT.out _ _ _ HF1.out.tur HF1.out.rd HLE.out)).mono ?_
 rintro r w2 ⟨rfl,hr,ht⟩
 have HF2:=xhd (HF1.out.step ht hr)
 clear hr ht
 go_wp2_with fail
 with_reducible refine (HNM.out _ _).mono ?_
 rintro r w3 ⟨rfl,hb⟩
 have HF3:=xhd (HF2.out.below hb)
 clear hb
 go_wp2_with fail
 with_reducible refine (HN2.out _ (HRT.out _ _ _ HF3.out.tur HF3.out.rd HL1.out)).mono ?_
 rintro r w4 ⟨rfl,hr,ht⟩
 have hf:=HF3.out.step ht hr
 have HF4:=xhd (hf.setF f)
 clear hr ht
 obtain⟨p0,p1⟩:=two_cells hf.prg
 have fp0:=not_frozen hf.prg 0
 have HW5:Hid (∃W5,w4.setCell ⟨w.heap.size+1,0,none⟩ (.bool f)=W5):=⟨_,rfl⟩
 clear hf
 go_wp2_with fail
 obtain⟨W5,hW5⟩:=HW5.out
 rw [hW5] at HF4 ⊢
 clear hW5 HW5 p0 p1 fp0
 with_reducible refine (HMK.out _ _).mono ?_
 rintro r w6 ⟨rfl,hb⟩
 have HF6:=xhd (HF4.out.below hb)
 clear hb
 go_wp2_with fail
 with_reducible refine (HN3.out _ (HRT.out _ _ _ HF6.out.tur HF6.out.rd HL2.out)).mono ?_
 rintro r w7 ⟨rfl,hr,ht⟩
 have HF7:=xhd (HF6.out.step ht hr)
 clear hr ht
 go_wp2_with fail
 refine (HN4.out _ (HRT.out _ _ _ HF7.out.tur HF7.out.rd HL3.out)).mono ?_
 rintro r w8 ⟨v,ops,c4,e4,rfl,hr,ht,hrow,hle4,hq4⟩
 have hf:=HF7.out.step ht hr
 have HRW:=xhd (row_base hrow HF7.out.siz)
 have HF8:=xhd (hf.setO v)
 have HPQ:=xhd (HPL.out ops c4 e4 hq4)
 have HL4:=xhd hle4
 obtain⟨aov,capv,hv,_⟩:=ownsRow_shape hrow
 obtain⟨m,hm⟩:∃m,ops.length=m:=⟨_,rfl⟩
 have HM:=xhd hm
 subst hv
 rw [hm] at HRW HF8 ⊢
 clear hr ht hrow hle4 hq4 hm
 obtain⟨p0,p1⟩:=two_cells hf.prg
 have fp1:=not_frozen hf.prg 1
 have HW9:Hid (∃W9,w8.setCell ⟨w.heap.size+1,1,none⟩ (.slice aov m capv)=W9):=⟨_,rfl⟩
 clear hf
 go_wp2_with fail
 have HRW2:=xhd (row_same (w':=w8.setCell ⟨w.heap.size+1,1,none⟩ (.slice aov m capv)) HRW.out (fun k hk hl=>Below.heap_setCell _ _ _ _ (by show k≠w.heap.size+1;omega)))
 obtain⟨W9,hW9⟩:=HW9.out
 rw [hW9] at HF8 HRW2 ⊢
 clear hW9 HW9 p0 p1 fp1
 with_reducible refine (HMK.out _ _).mono ?_
 rintro r w10 ⟨rfl,hb⟩
 have HF10:=xhd (HF8.out.below hb)
 have HRW3:=xhd (row_below HRW2.out hb)
 clear hb
 go_wp2_with fail
 with_reducible refine (HN5.out _ _ _ (HRT.out _ _ _ HF10.out.tur HF10.out.rd HL4.out)).mono ?_
 rintro r w11 ⟨rfl,hr,ht⟩
 have HF11:=xhd (HF10.out.step ht hr)
 have HRW4:=xhd (row_turned HRW3.out ht (by have:=HF10.out.bw;omega))
 clear hr ht
 obtain⟨p0,p1⟩:=two_cells HF11.out.prg
 obtain⟨r0,r1⟩:=two_cells HF11.out.res
 have f0:=not_frozen HF11.out.res 0
 have f1:=not_frozen HF11.out.res 1
 have hrw:ORow (w.heap.size+2) w11 (.slice aov m capv) ops:=by
  unfold ORow
  rw [HM.out]
  exact HRW4.out
 have HFIN:=xhd (fun x y=>HF11.out.fin hrw x y)
 clear hrw
 go_wp2
 refine bodyPost_ret (prog_res rfl rfl (HFIN.out _ _).1) rfl ?_
 exact⟨f,_,ops,_,_,rfl,(HFIN.out _ _).2.1,(HFIN.out _ _).2.2.1,(HFIN.out _ _).2.2.2,HLN.out _ _ HL4.out,HPQ.out⟩
theorem prog_any {w:World} {b:Nat} {ao:Option Addr} {bw off cap:Nat} {L:List Wd} {a:Nat} (h:RdI w b ao bw off cap L a 0) (hL:Clean L):
  Calls Tryz.prog 163 #[.pointer (some ⟨b,0,none⟩)] w (ProgG (ProgQ L a) L w b ao cap):=
 prog_gen h hL fun _ _ _ _ _ _ _ _ _ _ q1 q2 q3 h4=>prog_plain hL h.le q1 q2 q3 h4 rfl
theorem prog_stuck {w:World} {b:Nat} {ao:Option Addr} {bw off cap:Nat} {L:List Wd} {a:Nat} {e0:Int} (h:RdI w b ao bw off cap L a e0) (hL:Clean L) (he:e0≠0):
  Calls Tryz.prog 163 #[.pointer (some ⟨b,0,none⟩)] w (ProgG (fun _ _ c e=>c=a∧e=e0) L w b ao cap):=
 prog_gen h hL fun c1 e1 f c2 e2 c3 e3 ops c4 e4 q1 q2 q3 h4=>by
  rw [need_dead he] at q1
  simp only [Prod.mk.injEq] at q1
  obtain⟨rfl,rfl⟩:=q1
  unfold tkQ at q2
  rw [if_neg (fun h=>he h.1)] at q2
  simp only [Prod.mk.injEq] at q2
  obtain⟨_,rfl,rfl⟩:=q2
  rw [need_dead he] at q3
  simp only [Prod.mk.injEq] at q3
  obtain⟨rfl,rfl⟩:=q3
  rcases h4 with⟨_,_,rfl,rfl⟩ |⟨h0,_⟩
  ·rw [need_dead he]
   exact⟨rfl,rfl⟩
  ·exact absurd h0 he
theorem parse_start {w:World} {ao:Option Addr} {bw off cap:Nat} {L:List Wd} {a:Nat} {e0:Int} (h:WArg w ao bw off L) (hl:L.length≤100000) (ha:a≤L.length):
  RdI ((w.alloc zeroP).alloc (.cells (rdC ao L.length cap a e0) 116)) (w.heap.size+1) ao bw off cap L a e0∧
  ((w.alloc zeroP).alloc (.cells (rdC ao L.length cap a e0) 116)).heap[w.heap.size]?=some zeroP∧
  Below w.heap.size w ((w.alloc zeroP).alloc (.cells (rdC ao L.length cap a e0) 116))∧((w.alloc zeroP).alloc (.cells (rdC ao L.length cap a e0) 116)).heap.size=w.heap.size+2:=by
 have hb:Below w.heap.size w ((w.alloc zeroP).alloc (.cells (rdC ao L.length cap a e0) 116)):=((Below.refl _ w).alloc (Nat.le_refl _) _).alloc (by simp) _
 have hr:=heap_alloc_new (w.alloc zeroP) (.cells (rdC ao L.length cap a e0) 116)
 rw [show (w.alloc zeroP).heap.size=w.heap.size+1 by simp] at hr
 refine⟨⟨hr,h.below hb,fun h0=>?_,ha,hl⟩,(Below.heap_alloc _ _ _ (by simp)).trans (heap_alloc_new w _),hb,by simp⟩
 have:=(h.at_ h0).2
 omega
theorem parse_behind {w W1 w2:World} {rc:Array Value} {f:Bool} {v:Value} (h0:W1.heap[w.heap.size]?=some zeroP) (hb:Below w.heap.size w W1) (ht:Turned [w.heap.size+1] W1 w2) (hr:w2.heap[w.heap.size+1]?=some (.cells rc 116 (0,0))):
  ∀V,Below (w2.alloc (.cells #[.bool f,v] 49)).heap.size (w2.alloc (.cells #[.bool f,v] 49)) V→
   V.heap[w.heap.size]?=some zeroP∧V.heap[w.heap.size+1]?=some (.cells rc 116 (0,0))∧V.heap[w2.heap.size]?=some (.cells #[.bool f,v] 49 (0,0))∧Below w.heap.size w V∧Below w2.heap.size w2 V∧w.heap.size+2≤w2.heap.size:=by
 intro V hV
 obtain⟨h1,h2⟩:=box_kept hV
 have hl:=lt_of_block hr
 have ht2:Below w.heap.size w w2:=hb.trans (ht.below (by simp) hb.size)
 exact⟨(h2.block _ (by omega)).trans (ht.same h0 (by simp)),(h2.block _ hl).trans hr,h1,ht2.trans (h2.mono ht2.size),h2,hl⟩
theorem row_same2 {w w':World} {base:Nat} {e:TypeId} {size:Nat} {v:Value} {n:Nat} {xs:List Value} (h:w.ownsRow base e size v n xs) (hs:∀k,v.ownBlock=some k→w'.heap[k]?=w.heap[k]?):w'.ownsRow base e size v n xs:=
 ownsRow_same h fun k hk _=>hs k (by simpa using hk)
theorem ret_store {w V:World} {f:Bool} {v:Value} (h:V.heap[w.heap.size]?=some zeroP) (hb:Below w.heap.size w V):
  ((V.setCell ⟨w.heap.size,0,none⟩ (.bool f)).setCell ⟨w.heap.size,1,none⟩ v).heap[w.heap.size]?=some (.cells #[.bool f,v] 49 (0,0))∧Below w.heap.size w ((V.setCell ⟨w.heap.size,0,none⟩ (.bool f)).setCell ⟨w.heap.size,1,none⟩ v):=
 ⟨two_stored h,(hb.setCell (Nat.le_refl _) _).setCell (Nat.le_refl _) _⟩
theorem pread_in (ao:Option Addr) (n cap a:Nat) (w:World) (ha:a≤n):
  Calls Tryz.prog 27 #[.slice ao n cap, .int .i64 a] w fun r w'=>r= .returned (.pointer (some ⟨w.heap.size,0,none⟩))∧w'=w.alloc (.cells (rdC ao n cap a 0) 116):=by
 have hgn:¬(n:Int) < (a:Int):=by omega
 have hg0:¬(a:Int) < 0:=by omega
 go_enter Tryz.func27,Tryz.ntmps27
 go_wp2
 go_ret
 exact⟨rfl,rfl⟩
theorem pread_out (ao:Option Addr) (n cap:Nat) (a:Int) (w:World) (ha:a < 0∨(n:Int) < a):
  Calls Tryz.prog 27 #[.slice ao n cap, .int .i64 a] w fun r w'=>r= .returned (.pointer (some ⟨w.heap.size,0,none⟩))∧w'=w.alloc (.cells (rdC none 0 0 0 5) 116):=by
 by_cases hg0:a < 0
 ·clear ha
  go_enter Tryz.func27,Tryz.ntmps27
  go_wp2
  go_ret
  exact⟨rfl,rfl⟩
 ·have hgn:(n:Int) < a:=by omega
  clear ha
  go_enter Tryz.func27,Tryz.ntmps27
  go_wp2
  go_ret
  exact⟨rfl,rfl⟩
theorem met_any {w:World} {b:Nat} {ao:Option Addr} {n cap c:Nat} {e:Int} (h:w.heap[b]?=some (.cells (rdC ao n cap c e) 116 (0,0))):
  Calls Tryz.prog 32 #[.pointer (some ⟨b,0,none⟩)] w fun r w'=>r= .returned (.tuple #[.int .i64 c, .int .i64 e])∧∃q,w'=w.drewN q:=by
 obtain⟨d0,d1,d2⟩:=three_cells h
 clear h
 go_enter Tryz.func32,Tryz.ntmps32
 go_wp2_with fail
 go_quiet (fail)
 go_wp2
 go_ret2
 exact⟨rfl,_,rfl⟩
theorem pparse_gen {Q:Bool→List Opn→Nat→Int→Prop} (ao:Option Addr) (b off cap:Nat) (L:List Wd) (a:Nat) (e0:Int) (vs:Value) (iat:Value) (w:World) (h:WArg w ao b off L) (hm:L.length≤100000) (ha:a≤L.length)
  (hread:∀w,Calls Tryz.prog 27 #[vs,iat] w fun r w'=>r= .returned (.pointer (some ⟨w.heap.size,0,none⟩))∧w'=w.alloc (.cells (rdC ao L.length cap a e0) 116))
  (hp:∀W B,RdI W B ao b off cap L a e0→Calls Tryz.prog 163 #[.pointer (some ⟨B,0,none⟩)] W (ProgG Q L W B ao cap))
  (R:Prg×Int×Int) (hR:∀f ops c e,Q f ops c e→(e=0∧R=((f,ops),(c:Int),0))∨(e≠0∧R=((false,[]),(c:Int),e))):
  Calls Tryz.prog 134 #[vs,iat] w (ParseP R w):=by
 obtain⟨s1,s2,s3,s4⟩:=parse_start (cap:=cap) (e0:=e0) h hm ha
 have hp:=hp _ _ s1
 have HR:=xhd hR
 obtain⟨n,hn⟩:∃n,L.length=n:=⟨_,rfl⟩
 unfold ProgG at hp
 rw [hn] at hp s2 s3 s4 hread
 have HP:=xhd hp
 have HS2:=xhd s2
 have HS3:=xhd s3
 have HS4:=xhd s4
 have HRD:=xhd (hread (w.alloc zeroP))
 clear s1 s2 s3 s4 hp hR hn h ha hm hread
 go_enter Tryz.func134,Tryz.ntmps134
 go_wp2_with fail
 with_reducible refine HRD.out.mono ?_
 rintro r w1 ⟨rfl,rfl⟩
 go_wp2_with fail
 refine HP.out.mono ?_
 rintro r w2 ⟨f,v,ops,c,e,rfl,hr,ht,hrow, -,hq⟩
 have HX:=xhd (parse_behind (f:=f) (v:=v) HS2.out HS3.out ht hr)
 have HROW:=xhd (row_base hrow (by rw [HS4.out];omega:w.heap.size≤_))
 obtain⟨aov,capv,hv,_⟩:=ownsRow_shape hrow
 subst hv
 obtain⟨m,hm⟩:∃m,ops.length=m:=⟨_,rfl⟩
 have HM:=xhd hm
 have HQ:=xhd (HR.out _ _ _ _ hq)
 rw [hm] at HX HROW ⊢
 have hl2:w.heap.size+1 < w2.heap.size:=lt_of_block hr
 clear hr ht hrow hq hm
 have HW3:Hid (∃W3,w2.alloc (.cells #[.bool f, .slice aov m capv] 49)=W3):=⟨_,rfl⟩
 go_wp2_with fail
 obtain⟨W3,hW3⟩:=HW3.out
 rw [hW3] at HX
 simp only [hW3]
 clear hW3 HW3
 with_reducible refine (met_any (HX.out W3 (Below.refl _ _)).2.1).mono ?_
 rintro r V ⟨rfl,q,rfl⟩
 have HH:=xhd (HX.out (W3.drewN q) (below_drewN (Below.refl _ _) q))
 obtain⟨V,hV⟩:∃V,W3.drewN q=V:=⟨_,rfl⟩
 rw [hV] at HH ⊢
 clear hV
 have n1:w.heap.size+1≠w.heap.size:=by omega
 have n2:w2.heap.size≠w.heap.size:=by omega
 obtain⟨z0,z1⟩:=two_cells HH.out.1
 have f0:=not_frozen HH.out.1 0
 have f1:=not_frozen HH.out.1 1
 obtain⟨p0,p1⟩:=two_cells HH.out.2.2.1
 by_cases he:e=0
 ·subst he
  have hR:R=((f,ops),(c:Int),0):=by
   rcases HQ.out with⟨_,h⟩ |⟨h,_⟩
   ·exact h
   ·exact absurd rfl h
  have HRR:=xhd hR
  clear hR
  go_wp2
  have hst:=ret_store (f:=f) (v:= .slice aov m capv) HH.out.1 HH.out.2.2.2.1
  refine bodyPost_ret (prg_result2 rfl rfl rfl rfl hst.1) rfl ?_
  have hrow:ORow w.heap.size w2 (.slice aov m capv) ops:=by
   unfold ORow
   rw [HM.out]
   exact HROW.out
  have hrow3:ORow w.heap.size V (.slice aov m capv) ops:=row_below hrow HH.out.2.2.2.2.1
  have hoff:=block_off HH.out.1 hrow3 (by decide)
  refine parse_good HRR.out (row_same2 hrow3 fun k hk=>?_) hst.2
  have hne:k≠w.heap.size:=by
   rintro rfl
   exact hoff (by simpa using hk.symm)
  exact (Below.heap_setCell (V.setCell ⟨w.heap.size,0,none⟩ (.bool f)) ⟨w.heap.size,1,none⟩ (.slice aov m capv) k hne).trans (Below.heap_setCell V ⟨w.heap.size,0,none⟩ (.bool f) k hne)
 ·have hR:R=((false,[]),(c:Int),e):=by
    rcases HQ.out with⟨h,_⟩ |⟨_,h⟩
    ·exact absurd h he
    ·exact h
  have HRR:=xhd hR
  have he1:(e != 0)=true:=by simpa using he
  clear hR he p0 p1
  go_wp2
  have hst:=ret_store (f:=false) (v:= .slice none 0 0) HH.out.1 HH.out.2.2.2.1
  refine bodyPost_ret (prg_result2 rfl rfl rfl rfl hst.1) rfl ?_
  exact parse_bad HRR.out hst.2
theorem clean_nil:Clean []:=fun x hx=>by cases hx
theorem WArg.nil (w:World) (b off:Nat):WArg w none b off []:=⟨fun h=>absurd h (Nat.lt_irrefl 0),fun i hi=>absurd hi (Nat.not_lt_zero i)⟩
theorem pparse_out (ao:Option Addr) (cap:Nat) (L:List Wd) (at_:Int) (w:World) (h:at_ < 0∨(L.length:Int) < at_):
  Calls Tryz.prog 134 #[.slice ao L.length cap, .int .i64 at_] w (ParseP (parseR L at_) w):=by
 rw [parse_out h]
 refine pparse_gen (Q:=fun _ _ c e=>c=0∧e=5) none 0 0 0 [] 0 5 _ _ w (WArg.nil w 0 0) (by simp) (by simp) (fun W=>pread_out ao L.length cap at_ W h) (fun _ _ hB=>prog_stuck hB clean_nil (by decide)) _ ?_
 rintro f ops c e ⟨rfl,rfl⟩
 exact .inr ⟨by decide,rfl⟩
theorem pparse_in (ao:Option Addr) (b off cap:Nat) (L:List Wd) (a:Nat) (w:World) (h:WArg w ao b off L) (hm:L.length≤100000) (ha:a≤L.length) (hL:Clean L):
  Calls Tryz.prog 134 #[.slice ao L.length cap, .int .i64 a] w (ParseP (parseR L a) w):=
 pparse_gen ao b off cap L a 0 _ _ w h hm ha (fun W=>pread_in ao L.length cap a W ha) (fun _ _ hB=>prog_any hB hL) _ (fun _ _ _ _ hq=>hq)
theorem pparse_any (ao:Option Addr) (b off cap:Nat) (L:List Wd) (at_:Int) (w:World) (h:WArg w ao b off L) (hm:L.length≤100000) (hL:Clean L):
  Calls Tryz.prog 134 #[.slice ao L.length cap, .int .i64 at_] w (ParseP (parseR L at_) w):=by
 by_cases hout:at_ < 0∨(L.length:Int) < at_
 ·exact pparse_out ao cap L at_ w hout
 ·obtain⟨a,rfl⟩:∃a:Nat,at_=a:=⟨at_.toNat,by omega⟩
  exact pparse_in ao b off cap L a w h hm (by omega) hL
theorem need_S {L:List Wd} (hL:Clean L) (c:Nat) (e:Int) {k:Int} (hk:k=1∨k=3) (t:List By):needQ L c e (k,t,0,0)=needS L (c,e) k t:=by
 unfold needS isS
 by_cases he:e=0
 ·subst he
  rw [need_live]
  simp only [decide_true,Bool.true_and,if_true]
  rw [is_next hL hk]
  by_cases hn:nextR L c=(k,t,0,0)
  ·rw [if_pos hn,decide_eq_true hn,if_pos rfl]
  ·rw [if_neg hn,decide_eq_false hn,if_neg (by decide)]
 ·rw [need_dead he]
  simp only [he,decide_false,Bool.false_and,if_false,Bool.false_eq_true]
theorem num_S (L:List Wd) (c:Nat) (e most:Int):rdnR L c 1 most e=numS L (c,e) most:=by
 unfold rdnR numS argR
 simp only
 by_cases he:e=0
 ·subst he
  rw [if_neg (by simp),if_neg (by simp)]
  cases hx:L[c]? with
  |none=>rfl
  |some x=>
   simp only
   by_cases h2:x.1=2
   ·rw [if_pos h2,if_pos h2]
    by_cases hr:x.2.2.1 < 1∨most < x.2.2.1
    ·rw [if_pos hr,if_pos hr]
    ·rw [if_neg hr,if_neg hr]
   ·rw [if_neg h2,if_neg h2]
 ·rw [if_pos he,if_pos he]
abbrev RwI (w:World) (b:Nat) (ao:Option Addr) (bw off cap:Nat) (L:List Wd) (s:Rd):Prop:=RdI w b ao bw off cap L s.1 s.2
def RwP (b:Nat) (ao:Option Addr) (bw off cap:Nat) (L:List Wd) (s':Rd) (w w':World):Prop:=RwI w' b ao bw off cap L s'∧Turned [b] w w'
theorem needS_le {L:List Wd} {s:Rd} (h:s.1≤L.length) (k:Int) (t:List By):(needS L s k t).1≤L.length:=by
 unfold needS
 split
 ·next hi=>
  unfold isS isR at hi
  simp only [Bool.and_eq_true,decide_eq_true_eq] at hi
  by_cases hc:s.1 < L.length
  ·exact hc
  ·rw [List.getElem?_eq_none (by omega)] at hi
   cases hi.2
 ·split<;>exact h
theorem numS_le {L:List Wd} {s:Rd} (h:s.1≤L.length) (most:Int):(numS L s most).2.1≤L.length:=by
 unfold numS
 split
 ·exact h
 ·split
  ·exact h
  ·next e=>
   have:=(List.getElem?_eq_some_iff.1 e).1
   split
   ·split
    ·exact h
    ·exact this
   ·exact h
theorem sneed_any {w:World} {b:Nat} {ao:Option Addr} {bw off cap:Nat} {L:List Wd} {s:Rd} (h:RwI w b ao bw off cap L s) (hL:Clean L) {k:Int} (hk:k=1∨k=3) (t:ByteArray):
  Calls Tryz.prog 160 #[.pointer (some ⟨b,0,none⟩), .agg #[.int .i64 k, .string t, .int .i64 0, .int .i64 0]] w fun r w'=>r= .returned (.tuple #[])∧RwP b ao bw off cap L (needS L s k t.data.toList) w w':=by
 have hn:=need_any h (k,t.data.toList,0,0) (by show k≠0;omega)
 unfold wdV at hn
 simp only [Lib.mk_data] at hn
 refine hn.mono ?_
 rintro r w' ⟨h1,h2,h3⟩
 rw [need_S hL s.1 s.2 hk] at h2
 exact⟨h1,h.turned h3 h2 (needS_le h.le k _),h3⟩
theorem snum_any {w:World} {b:Nat} {ao:Option Addr} {bw off cap:Nat} {L:List Wd} {s:Rd} (h:RwI w b ao bw off cap L s) (hL:Clean L) (most:Int):
  Calls Tryz.prog 161 #[.pointer (some ⟨b,0,none⟩), .agg #[.int .i64 1, .int .i64 most]] w fun r w'=>r= .returned (.int .i64 (numS L s most).1)∧RwP b ao bw off cap L (numS L s most).2 w w':=by
 refine (number_any h hL 1 most).mono ?_
 rintro r w' ⟨h1,h2,h3⟩
 rw [num_S L s.1 s.2 most] at h1 h2
 exact⟨h1,h.turned h3 h2 (numS_le h.le most),h3⟩
end Go.Proofs.YtbnhnnccioljhaaGreatDoor
namespace Go.Proofs.YtbnhnnccioljhaaGreatDoor
open Go.RowKit
abbrev Nm:=ByteArray×Int×Nat
structure NArg (w:World) (nb off T:Nat) (N:List Nm):Prop where
 blk:∃X f,w.heap[nb]?=some (.cells X 151 f)
 cells:∀i (hi:i < N.length),w.cell? ⟨nb,off+i*4,none⟩=some (.string N[i].1)∧w.cell? ⟨nb,off+i*4+1,none⟩=some (.int .i64 1)∧w.cell? ⟨nb,off+i*4+2,none⟩=some (.int .i64 N[i].2.1)∧w.cell? ⟨nb,off+i*4+3,none⟩=some (.pointer (some ⟨T,N[i].2.2,none⟩))
theorem NArg.lt {w:World} {nb off T:Nat} {N:List Nm} (h:NArg w nb off T N):nb < w.heap.size:=by
 obtain⟨X,f,h⟩:=h.blk
 exact lt_of_block h
theorem NArg.same {w w':World} {nb off T:Nat} {N:List Nm} (h:NArg w nb off T N) (e:w'.heap[nb]?=w.heap[nb]?):NArg w' nb off T N:=by
 have ec:∀o,w'.cell? ⟨nb,o,none⟩=w.cell? ⟨nb,o,none⟩:=fun o=>by simp only [World.cell?,e]
 refine⟨?_,fun i hi=>?_⟩
 ·obtain⟨X,f,h⟩:=h.blk
  exact⟨X,f,e.trans h⟩
 ·obtain⟨h0,h1,h2,h3⟩:=h.cells i hi
  exact⟨(ec _).trans h0,(ec _).trans h1,(ec _).trans h2,(ec _).trans h3⟩
theorem NArg.below {w w':World} {nb off T:Nat} {N:List Nm} (h:NArg w nb off T N) (hb:Below w.heap.size w w'):NArg w' nb off T N:=h.same (hb.block _ h.lt)
def readN (L:List Wd):List Nm→Rd→Array Value→Rd×Array Value
 |[],s,X=>(s,X)
 |x::ns,s,X=>
  let s1:=if x.1=⟨#[]⟩ then s else needS L s 1 x.1.data.toList
  let r:=numS L s1 x.2.1
  readN L ns r.2 (X.setIfInBounds x.2.2 (.int .i64 r.1))
def lineR (L:List Wd) (first:ByteArray) (N:List Nm) (s:Rd) (X:Array Value):Rd×Array Value:=
 let r:=readN L N (needS L s 1 first.data.toList) X
 (needS L r.1 3 [59],r.2)
structure LnI (w wr:World) (b:Nat) (ao:Option Addr) (bw off cap:Nat) (L:List Wd) (T:Nat) (tT:TypeId) (first:ByteArray) (lv:Value) (nb no:Nat) (N:List Nm) (s:Rd) (X:Array Value):Prop where
 rd:RwI wr b ao bw off cap L s
 tb:wr.heap[T]?=some (.cells X tT (0,0))
 na:NArg wr nb no T N
 bx:wr.heap[w.heap.size]?=some (.cells #[.string first,lv] 86 (0,0))
 t:Turned [b,T] w wr
 l1:b < w.heap.size
 l2:T < w.heap.size
 l3:nb < w.heap.size
 n1:b≠T
 n2:nb≠b
 n3:nb≠T
 n4:0 < L.length→bw≠T
section
variable {w wr wr':World} {b:Nat} {ao:Option Addr} {bw off cap:Nat} {L:List Wd} {T:Nat} {tT:TypeId} {first:ByteArray} {lv:Value} {nb no:Nat} {N:List Nm} {s s':Rd} {X:Array Value}
theorem turned_two {b T:Nat} (h:Turned [b] wr wr'):Turned [b,T] wr wr':=⟨h.os,h.tape,h.output,h.size,fun k hk hx=>h.block k hk (by simp at hx ⊢;exact hx.1)⟩
theorem LnI.moved (h:LnI w wr b ao bw off cap L T tT first lv nb no N s X) (m:RwP b ao bw off cap L s' wr wr'):LnI w wr' b ao bw off cap L T tT first lv nb no N s' X:=by
 obtain⟨m1,m2⟩:=m
 have hb:=lt_of_block h.bx
 have:=h.l1
 have:=h.l2
 have:=h.l3
 refine⟨m1,m2.same h.tb (by simpa using fun e=>h.n1 e.symm),h.na.same (m2.block _ (by omega) (by simpa using h.n2)),m2.same h.bx (by simp;omega),h.t.trans (turned_two m2) (Newer.refl _ _),h.l1,h.l2,h.l3,h.n1,h.n2,h.n3,h.n4⟩
theorem LnI.below (h:LnI w wr b ao bw off cap L T tT first lv nb no N s X) (hb:Below wr.heap.size wr wr'):LnI w wr' b ao bw off cap L T tT first lv nb no N s X:=
 h.moved ⟨RdI.below h.rd hb,turned_below hb [b]⟩
theorem LnI.store (h:LnI w wr b ao bw off cap L T tT first lv nb no N s X) (o:Nat) (v:Value):LnI w (wr.setCell ⟨T,o,none⟩ v) b ao bw off cap L T tT first lv nb no N s (X.setIfInBounds o v):=by
 have h2:=h.l2
 refine⟨⟨(Below.heap_setCell _ _ _ _ h.n1).trans h.rd.rd,h.rd.ws.same (fun h0=>Below.heap_setCell _ _ _ _ (h.n4 h0)),h.rd.ne,h.rd.le,h.rd.len⟩,heap_setCell_same _ _ _ _ _ _ h.tb,h.na.same (Below.heap_setCell _ _ _ _ h.n3),(Below.heap_setCell _ _ _ _ (by show w.heap.size≠T;omega)).trans h.bx,h.t.setCell (.inl (by simp)) _,h.l1,h.l2,h.l3,h.n1,h.n2,h.n3,h.n4⟩
end
theorem cell_at {w:World} {B k:Nat} {X:Array Value} {t:TypeId} {f:Nat×Nat} (h:w.heap[B]?=some (.cells X t f)) (hk:k < X.size):w.cell? ⟨B,k,none⟩=some X[k]:=by
 simp [World.cell?,h,hk]
theorem name_some {nm:ByteArray} (h:nm≠⟨#[]⟩):nm.toList.isEmpty=false∧¬nm.toList=[]:=by
 have h1:¬nm.toList=[]:=by
  intro e
  apply h
  rw [Lib.toList_data] at e
  have:nm.data= #[]:=by simpa using e
  rw [←this]
 exact⟨by simpa using h1,h1⟩
theorem lread_any {w:World} {b:Nat} {ao:Option Addr} {bw off cap:Nat} {L:List Wd} {T:Nat} {tT:TypeId} (first:ByteArray) (nb no nc:Nat) (N:List Nm) {s:Rd} {X:Array Value} (h:RwI w b ao bw off cap L s) (hL:Clean L) (hT:w.heap[T]?=some (.cells X tT (0,0))) (hN:NArg w nb no T N)
  (n1:b≠T) (n2:nb≠b) (n3:nb≠T) (n4:0 < L.length→bw≠T) (hX:∀x ∈ N,x.2.2 < X.size) (hlen:N.length≤8):
  Calls Tryz.prog 126 #[.agg #[.string first, .slice (some ⟨nb,no,none⟩) N.length nc], .pointer (some ⟨b,0,none⟩)] w fun r w'=>r= .returned (.tuple #[])∧RwI w' b ao bw off cap L (lineR L first N s X).1∧w'.heap[T]?=some (.cells (lineR L first N s X).2 tT (0,0))∧Turned [b,T] w w':=by
 have HST:Hid (LnI w (w.alloc (.cells #[.string first, .slice (some ⟨nb,no,none⟩) N.length nc] 86)) b ao bw off cap L T tT first (.slice (some ⟨nb,no,none⟩) N.length nc) nb no N s X):=xhd (by
  have hb:Below w.heap.size w (w.alloc (.cells #[.string first, .slice (some ⟨nb,no,none⟩) N.length nc] 86)):=(Below.refl _ w).alloc (Nat.le_refl _) _
  exact⟨RdI.below h hb,(hb.block _ (lt_of_block hT)).trans hT,hN.below hb,heap_alloc_new _ _,turned_below hb _,lt_of_block h.rd,lt_of_block hT,hN.lt,n1,n2,n3,n4⟩)
 have HNM:=xhd (fun s W=>pname_any s W)
 have HMK:=xhd (fun s W=>pmark_any s W)
 have HND:=xhd (fun V (s:Rd) (hV:RwI V b ao bw off cap L s) (k:Int) (hk:k=1∨k=3) (t:ByteArray)=>sneed_any hV hL hk t)
 have HNU:=xhd (fun V (s:Rd) (hV:RwI V b ao bw off cap L s) (m:Int)=>snum_any hV hL m)
 have HX:=xhd hX
 obtain⟨s1,e1⟩:∃s1,needS L s 1 first.data.toList=s1:=⟨_,rfl⟩
 obtain⟨⟨s2,X2⟩,e2⟩:∃G,readN L N s1 X=G:=⟨_,rfl⟩
 have eg:lineR L first N s X=(needS L s2 3 [59],X2):=by
  unfold lineR
  simp only [e1,e2]
 have E1:=xhd e1
 have E2:=xhd e2
 rw [eg]
 simp only
 obtain⟨n,hn⟩:∃n,N.length=n:=⟨_,rfl⟩
 have HN:=xhd hn
 obtain⟨xs,hxs⟩:∃m,X.size=m:=⟨_,rfl⟩
 have HXS:=xhd hxs
 rw [hn] at HST hlen ⊢
 rw [hxs] at HX
 have hbx:=two_cells HST.out.bx
 obtain⟨bx0,bx1⟩:=hbx
 clear h hL hT hN n1 n2 n3 n4 hX e1 e2 eg hn hxs
 go_enter Tryz.func126,Tryz.ntmps126
 go_wp2_with fail
 with_reducible refine (HNM.out _ _).mono ?_
 rintro r w1 ⟨rfl,hb⟩
 have HI1:=xhd (HST.out.below hb)
 clear hb bx0 bx1
 go_wp2_with fail
 with_reducible refine (HND.out _ _ HI1.out.rd 1 (.inl rfl) _).mono ?_
 rintro r w2 ⟨rfl,hm⟩
 have HI2':=xhd (HI1.out.moved hm)
 rw [E1.out] at HI2'
 have HI2:=xhd HI2'.out
 clear hm HI2'
 obtain⟨bx0,bx1⟩:=two_cells HI2.out.bx
 go_wp2_with fail
 go_loopw [14] (fun i' wr=>∃(i:Nat) (s:Rd) (X:Array Value),i'= .int .i64 i∧i≤n∧Hid (LnI w wr b ao bw off cap L T tT first (.slice (some ⟨nb,no,none⟩) n nc) nb no N s X)∧Hid (readN L (N.drop i) s X=(s2,X2))∧Hid (X.size=xs)) (fun i' _=>n - (intOf i').toNat)
 case atStart=>exact⟨0,s1,X,rfl,Nat.zero_le _,HI2,E2,HXS⟩
 case round=>
  obtain⟨i,s,X,rfl,hi,HI,HG,HXS⟩:=hrel
  by_cases hlt:i < n
  ·have hiN:i < N.length:=by rw [HN.out];exact hlt
   have i0:(0:Int)≤i:=by omega
   have i1:(i:Int) < n:=by omega
   have i2:IntKind.i64.wrap ((i:Int)+1)=(i:Int)+1:=by rw [IntKind.wrap_i64];omega
   obtain⟨x0,x1,x2,x3⟩:=HI.out.na.cells i hiN
   obtain⟨⟨nm,mo,o⟩,hx⟩:∃x,N[i]=x:=⟨_,rfl⟩
   have HXO:Hid (o < X.size):=xhd (by
    have:=HX.out _ (List.getElem_mem hiN)
    rw [hx] at this
    rw [HXS.out]
    exact this)
   have hg:=HG.out
   rw [List.drop_eq_getElem_cons hiN,hx] at hg
   rw [hx] at x0 x2 x3
   unfold readN at hg
   simp only at x0 x2 x3 hg
   clear hx
   obtain⟨sa,hsa⟩:∃sa,(if nm=⟨#[]⟩ then s else needS L s 1 nm.data.toList)=sa:=⟨_,rfl⟩
   rw [hsa] at hg
   obtain⟨⟨v,sb⟩,hsb⟩:∃r,numS L sa mo=r:=⟨_,rfl⟩
   rw [hsb] at hg
   simp only at hg
   have HG2:=xhd hg
   have HSA:=xhd hsa
   have HSB:=xhd hsb
   have HBX:=xhd (heap_alloc_new wr (.cells #[.string nm, .int .i64 1, .int .i64 mo, .pointer (some ⟨T,o,none⟩)] 151))
   have HIA:=xhd (HI.out.below ((Below.refl _ wr).alloc (Nat.le_refl _) (.cells #[.string nm, .int .i64 1, .int .i64 mo, .pointer (some ⟨T,o,none⟩)] 151)))
   have HNU2:=xhd (fun V hV=>HNU.out V sa hV mo)
   simp only [hsb] at HNU2
   clear hg hsa hsb
   by_cases hnm:nm=⟨#[]⟩
   ·have hss:s=sa:=by
      have:=HSA.out
      rw [if_pos hnm] at this
      exact this
    subst hnm
    subst hss
    go_wp2_with fail
    have HBW:=HBX
    have HIW:=HIA
    have s0:=word_cells HBW.out
    have HIW2:=xhd (HIW.out.below (Below.refl _ _).drew)
    go_region_held3 (fun V=>V.cell? ⟨wr.heap.size,0,none⟩=some (.string ⟨#[]⟩)∧V.cell? ⟨wr.heap.size,1,none⟩=some (.int .i64 1)∧V.cell? ⟨wr.heap.size,2,none⟩=some (.int .i64 mo)∧V.cell? ⟨wr.heap.size,3,none⟩=some (.pointer (some ⟨T,o,none⟩)))
     (first|exact s0|exact s1|exact s2)
     (first
       |(go_at_call 161
         with_reducible refine (HNU2.out _ HIW2.out.rd).mono ?_
         rintro r V1 ⟨rfl,hm⟩
         have HI4:=xhd (HIW2.out.moved hm)
         have hbk:=hm.2.same ((Below.refl _ _).drew.block _ (lt_of_block HBW.out) |>.trans HBW.out) (by have:=HI.out.l1;have:=HI.out.t.size;simp;omega)
         have s1:=word_cells hbk
         have hTb:=HI4.out.tb
         have dT:=cell_at hTb HXO.out
         have fT:=not_frozen hTb o
         have s2:=word_cells ((Below.heap_setCell V1 ⟨T,o,none⟩ (.int .i64 v) _ (by show wr.heap.size≠T;have:=HI.out.l2;have:=HI.out.t.size;omega)).trans hbk)
         clear hm hbk hTb))
    have HI5:=xhd (HI4.out.store o (.int .i64 v))
    clear s0 s1 s2 dT fT
    go_wp2
    go_roundw
    case rel=>exact⟨i+1,sb,_,by go_num,by omega,HI5,HG2,xhd (by rw [Array.size_setIfInBounds];exact HXS.out)⟩
    case measure=>simp [intOf];omega
   ·obtain⟨hn1,hn2⟩:=name_some hnm
    have hsn:needS L s 1 nm.data.toList=sa:=by
     have:=HSA.out
     rw [if_neg hnm] at this
     exact this
    have HSN:=xhd hsn
    clear hnm hsn
    obtain⟨y0,y1,y2,y3⟩:=word_cells HBX.out
    go_wp2_with fail
    with_reducible refine (HNM.out _ _).mono ?_
    rintro r w3 ⟨rfl,hb⟩
    have HI3:=xhd (HIA.out.below hb)
    have HB3:=xhd ((hb.block _ (lt_of_block HBX.out)).trans HBX.out)
    clear hb y0 y1 y2 y3
    go_wp2_with fail
    with_reducible refine (HND.out _ _ HI3.out.rd 1 (.inl rfl) _).mono ?_
    rintro r w4 ⟨rfl,hm⟩
    have HIW':=xhd (HI3.out.moved hm)
    rw [HSN.out] at HIW'
    have HIW:=xhd HIW'.out
    have HBW:=xhd (hm.2.same HB3.out (by have:=HI.out.l1;have:=HI.out.t.size;simp;omega))
    clear hm HIW'
    go_wp2_with fail
    have s0:=word_cells HBW.out
    have HIW2:=xhd (HIW.out.below (Below.refl _ _).drew)
    go_region_held3 (fun V=>V.cell? ⟨wr.heap.size,0,none⟩=some (.string nm)∧V.cell? ⟨wr.heap.size,1,none⟩=some (.int .i64 1)∧V.cell? ⟨wr.heap.size,2,none⟩=some (.int .i64 mo)∧V.cell? ⟨wr.heap.size,3,none⟩=some (.pointer (some ⟨T,o,none⟩)))
     (first|exact s0|exact s1|exact s2)
     (first
       |(go_at_call 161
         with_reducible refine (HNU2.out _ HIW2.out.rd).mono ?_
         rintro r V1 ⟨rfl,hm⟩
         have HI4:=xhd (HIW2.out.moved hm)
         have hbk:=hm.2.same ((Below.refl _ _).drew.block _ (lt_of_block HBW.out) |>.trans HBW.out) (by have:=HI.out.l1;have:=HI.out.t.size;simp;omega)
         have s1:=word_cells hbk
         have hTb:=HI4.out.tb
         have dT:=cell_at hTb HXO.out
         have fT:=not_frozen hTb o
         have s2:=word_cells ((Below.heap_setCell V1 ⟨T,o,none⟩ (.int .i64 v) _ (by show wr.heap.size≠T;have:=HI.out.l2;have:=HI.out.t.size;omega)).trans hbk)
         clear hm hbk hTb))
    have HI5:=xhd (HI4.out.store o (.int .i64 v))
    clear s0 s1 s2 dT fT
    go_wp2
    go_roundw
    case rel=>exact⟨i+1,sb,_,by go_num,by omega,HI5,HG2,xhd (by rw [Array.size_setIfInBounds];exact HXS.out)⟩
    case measure=>simp [intOf];omega
  ·have hg:=HG.out
   rw [List.drop_of_length_le (by rw [HN.out];omega)] at hg
   unfold readN at hg
   simp only [Prod.mk.injEq] at hg
   obtain⟨rfl,rfl⟩:=hg
   go_wp2_with fail
   with_reducible refine (HMK.out _ _).mono ?_
   rintro r w3 ⟨rfl,hb⟩
   have HI3:=xhd (HI.out.below hb)
   clear hb
   go_wp2_with fail
   with_reducible refine (HND.out _ _ HI3.out.rd 3 (.inr rfl) _).mono ?_
   rintro r w4 ⟨rfl,hm⟩
   have HI4:=xhd (HI3.out.moved hm)
   clear hm
   go_wp2
   go_end0
   exact⟨rfl,HI4.out.rd,HI4.out.tb,HI4.out.t⟩
end Go.Proofs.YtbnhnnccioljhaaGreatDoor
namespace Go.Proofs.YtbnhnnccioljhaaGreatDoor
open Go.RowKit
theorem line_res {fn:Func} {p:Tmp} (hf:fn.results= #[.cell p 86]) {tmps:Array Value} {w:World} {B:Nat} {a b:Value} (hp:tmps.getD p undef= .pointer (some ⟨B,0,none⟩)) (h:w.heap[B]?=some (.cells #[a,b] 86 (0,0))):
  (results fn tmps).run Tryz.prog w= .ok (.agg #[a,b]) w:=by
 obtain⟨h0,h1⟩:=two_cells h
 rw [results_one hf,hp]
 simp [loadVar,go_sem,h0,h1]
theorem part_res {fn:Func} {p:Tmp} (hf:fn.results= #[.cell p 172]) {tmps:Array Value} {w:World} {B:Nat} {a b c:Value} (hp:tmps.getD p undef= .pointer (some ⟨B,0,none⟩)) (h:w.heap[B]?=some (.cells #[a,b,c] 172 (0,0))):
  (results fn tmps).run Tryz.prog w= .ok (.agg #[a,b,c]) w:=by
 obtain⟨h0,h1,h2⟩:=three_cells h
 rw [results_one hf,hp]
 simp [loadVar,go_sem,h0,h1,h2]
def LineP (first:ByteArray) (N:List Nm) (T:Nat) (w:World) (e:Ending) (w':World):Prop:=
 ∃nb nc,e= .returned (.agg #[.string first, .slice (some ⟨nb,0,none⟩) N.length nc])∧NArg w' nb 0 T N∧w.heap.size≤nb∧Below w.heap.size w w'
theorem NArg.one {w:World} {nb T o:Nat} {nm:ByteArray} {m:Int} {f:Nat×Nat} (h:w.heap[nb]?=some (.cells #[.string nm, .int .i64 1, .int .i64 m, .pointer (some ⟨T,o,none⟩)] 151 f)):NArg w nb 0 T [(nm,m,o)]:=by
 refine⟨⟨_,_,h⟩,fun i hi=>?_⟩
 obtain rfl:i=0:=by simp at hi;omega
 simp [World.cell?,h]
theorem line_one {w:World} {nm:ByteArray} {T o:Nat} {m:Int} {a b:Value} :
  ((w.alloc (.cells #[a,b] 86)).alloc (.cells #[.string nm, .int .i64 1, .int .i64 m, .pointer (some ⟨T,o,none⟩)] 151)).heap[w.heap.size]?=some (.cells #[a,b] 86 (0,0))∧
  NArg ((w.alloc (.cells #[a,b] 86)).alloc (.cells #[.string nm, .int .i64 1, .int .i64 m, .pointer (some ⟨T,o,none⟩)] 151)) (w.heap.size+1) 0 T [(nm,m,o)]∧Below w.heap.size w ((w.alloc (.cells #[a,b] 86)).alloc (.cells #[.string nm, .int .i64 1, .int .i64 m, .pointer (some ⟨T,o,none⟩)] 151)):=by
 have h0:=heap_alloc_new w (.cells #[a,b] 86)
 have h1:=heap_alloc_new (w.alloc (.cells #[a,b] 86)) (.cells #[.string nm, .int .i64 1, .int .i64 m, .pointer (some ⟨T,o,none⟩)] 151)
 rw [World.size_alloc] at h1
 exact⟨(Below.heap_alloc _ _ _ (by simp)).trans h0,NArg.one h1,((Below.refl _ w).alloc (Nat.le_refl _) _).alloc (by simp) _⟩
theorem coresline_any (T o:Nat) (w:World):
  Calls Tryz.prog 86 #[.pointer (some ⟨T,o,none⟩)] w (LineP ⟨#[99,111,114,101,115]⟩ [(⟨#[]⟩,4,o)] T w):=by
 go_enter Tryz.func86,Tryz.ntmps86
 go_wp2
 refine bodyPost_ret (line_res rfl rfl line_one.1) rfl ?_
 exact⟨_,_,rfl,line_one.2.1,by omega,line_one.2.2⟩
theorem grainline_any (T o:Nat) (w:World):
  Calls Tryz.prog 87 #[.pointer (some ⟨T,o,none⟩)] w (LineP ⟨#[103,114,97,105,110]⟩ [(⟨#[]⟩,8,o)] T w):=by
 go_enter Tryz.func87,Tryz.ntmps87
 go_wp2
 refine bodyPost_ret (line_res rfl rfl line_one.1) rfl ?_
 exact⟨_,_,rfl,line_one.2.1,by omega,line_one.2.2⟩
theorem groupline_any (T o:Nat) (w:World):
  Calls Tryz.prog 88 #[.pointer (some ⟨T,o,none⟩)] w (LineP ⟨#[103,114,111,117,112]⟩ [(⟨#[]⟩,16,o)] T w):=by
 go_enter Tryz.func88,Tryz.ntmps88
 go_wp2
 refine bodyPost_ret (line_res rfl rfl line_one.1) rfl ?_
 exact⟨_,_,rfl,line_one.2.1,by omega,line_one.2.2⟩
structure TArg (w:World) (pb off:Nat) (F:List ByteArray):Prop where
 lt:pb < w.heap.size
 cells:∀i (hi:i < F.length),w.cell? ⟨pb,off+i,none⟩=some (.string F[i])
theorem TArg.below {w w':World} {pb off:Nat} {F:List ByteArray} (h:TArg w pb off F) (hb:Below w.heap.size w w'):TArg w' pb off F:=
 ⟨Nat.lt_of_lt_of_le h.lt hb.size,fun i hi=>(hb.cell (p:=⟨pb,off+i,none⟩) h.lt).trans (h.cells i hi)⟩
def PartP (lo hi:Int) (F:List ByteArray) (w:World) (e:Ending) (w':World):Prop:=
 ∃pb pc,e= .returned (.agg #[.int .i64 lo, .int .i64 hi, .slice (some ⟨pb,0,none⟩) F.length pc])∧TArg w' pb 0 F∧w.heap.size≤pb∧Below w.heap.size w w'
theorem part_made {w:World} {C:Array Value} {tC:TypeId} (F:List ByteArray) {a b c:Value} (hC:C=(F.map (fun s=>Value.string s)).toArray):
  ((w.alloc (.cells #[a,b,c] 172)).alloc (.cells C tC)).heap[w.heap.size]?=some (.cells #[a,b,c] 172 (0,0))∧
  TArg ((w.alloc (.cells #[a,b,c] 172)).alloc (.cells C tC)) (w.heap.size+1) 0 F∧Below w.heap.size w ((w.alloc (.cells #[a,b,c] 172)).alloc (.cells C tC)):=by
 have h0:=heap_alloc_new w (.cells #[a,b,c] 172)
 have h1:=heap_alloc_new (w.alloc (.cells #[a,b,c] 172)) (.cells C tC)
 rw [World.size_alloc] at h1
 refine⟨(Below.heap_alloc _ _ _ (by simp)).trans h0,⟨lt_of_block h1,fun i hi=>?_⟩,((Below.refl _ w).alloc (Nat.le_refl _) _).alloc (by simp) _⟩
 have hs:i < C.size:=by rw [hC];simpa using hi
 rw [Nat.zero_add,cell_at h1 hs]
 simp [hC]
theorem grouppart_any (w:World):
  Calls Tryz.prog 111 #[] w (PartP 1 4 [⟨#[103,114,111,117,112]⟩] w):=by
 go_enter Tryz.func111,Tryz.ntmps111
 go_wp2
 have hx:=fun a b c=>part_made (w:=w) (a:=a) (b:=b) (c:=c) (tC:=9) [⟨#[103,114,111,117,112]⟩] rfl
 refine bodyPost_ret (part_res rfl rfl (hx _ _ _).1) rfl ?_
 exact⟨_,_,rfl,(hx _ _ _).2.1,by omega,(hx _ _ _).2.2⟩
theorem lockpart_any (w:World):
  Calls Tryz.prog 113 #[] w (PartP 0 8 [⟨#[108,111,99,107]⟩,⟨#[115,104,97,114,101,100]⟩] w):=by
 go_enter Tryz.func113,Tryz.ntmps113
 go_wp2
 have hx:=fun a b c=>part_made (w:=w) (a:=a) (b:=b) (c:=c) (tC:=9) [⟨#[108,111,99,107]⟩,⟨#[115,104,97,114,101,100]⟩] rfl
 refine bodyPost_ret (part_res rfl rfl (hx _ _ _).1) rfl ?_
 exact⟨_,_,rfl,(hx _ _ _).2.1,by omega,(hx _ _ _).2.2⟩
theorem progpart_any (w:World):
  Calls Tryz.prog 114 #[] w (PartP 1 8 [⟨#[112,114,111,103]⟩] w):=by
 go_enter Tryz.func114,Tryz.ntmps114
 go_wp2
 have hx:=fun a b c=>part_made (w:=w) (a:=a) (b:=b) (c:=c) (tC:=9) [⟨#[112,114,111,103]⟩] rfl
 refine bodyPost_ret (part_res rfl rfl (hx _ _ _).1) rfl ?_
 exact⟨_,_,rfl,(hx _ _ _).2.1,by omega,(hx _ _ _).2.2⟩
structure Kept (X:List Nat) (n₀:Nat) (w w':World):Prop where
 os:w'.os=w.os
 tape:w'.tape=w.tape
 output:w'.output=w.output
 size:w.heap.size≤w'.heap.size
 block:∀k,k < n₀→k ∉ X→w'.heap[k]?=w.heap[k]?
theorem Kept.refl (X:List Nat) (n₀:Nat) (w:World):Kept X n₀ w w:=⟨rfl,rfl,rfl,Nat.le_refl _,fun _ _ _=>rfl⟩
theorem Kept.trans {X:List Nat} {n₀:Nat} {a b c:World} (h:Kept X n₀ a b) (g:Kept X n₀ b c):Kept X n₀ a c:=
 ⟨g.os.trans h.os,g.tape.trans h.tape,g.output.trans h.output,Nat.le_trans h.size g.size,fun k hk hx=>(g.block k hk hx).trans (h.block k hk hx)⟩
theorem Kept.drewN {X:List Nat} {n₀:Nat} {a b:World} (h:Kept X n₀ a b) (n:Nat):Kept X n₀ a (b.drewN n):=⟨h.os,h.tape,h.output,h.size,h.block⟩
theorem Kept.alloc {X:List Nat} {n₀:Nat} {a b:World} (h:Kept X n₀ a b) (hn:n₀≤b.heap.size) (o:Obj):Kept X n₀ a (b.alloc o):=
 ⟨h.os,h.tape,h.output,Nat.le_trans h.size (by simp),fun k hk hx=>(Below.heap_alloc b o k (by omega)).trans (h.block k hk hx)⟩
theorem Kept.setCell {X:List Nat} {n₀:Nat} {a b:World} (h:Kept X n₀ a b) {p:Addr} (hp:p.block ∈ X∨n₀≤p.block) (u:Value):Kept X n₀ a (b.setCell p u):=
 ⟨h.os,h.tape,h.output,Nat.le_trans h.size (by simp [World.setCell]),fun k hk hx=>
   (Below.heap_setCell b p u k (fun e=>by subst e;rcases hp with h1|h1;exact hx h1;omega)).trans (h.block k hk hx)⟩
theorem Kept.of_turned {X:List Nat} {n₀:Nat} {a b:World} (h:Turned X a b) (hn:n₀≤a.heap.size):Kept X n₀ a b:=⟨h.os,h.tape,h.output,h.size,fun k hk hx=>h.block k (by omega) hx⟩
theorem Kept.turned {X:List Nat} {n₀:Nat} {a b:World} (h:Kept X n₀ a b) (hn:a.heap.size≤n₀):Turned X a b:=⟨h.os,h.tape,h.output,h.size,fun k hk hx=>h.block k (by omega) hx⟩
theorem Kept.row {X:List Nat} {n₀:Nat} {a b:World} (h:Kept X n₀ a b) {base:Nat} {e:TypeId} {size:Nat} {v:Value} {n:Nat} {xs:List Value} (hr:a.ownsRow base e size v n xs) (hk:∀k ∈ v.ownBlock.toList,k < n₀∧k ∉ X):b.ownsRow base e size v n xs:=
 ownsRow_same hr fun k hv _=>h.block k (hk k hv).1 (hk k hv).2
theorem Kept.at {X:List Nat} {n₀:Nat} {a b:World} (h:Kept X n₀ a b) {k:Nat} {o:Obj} (ho:a.heap[k]?=some o) (hk:k < n₀) (hx:k ∉ X):b.heap[k]?=some o:=(h.block k hk hx).trans ho
end Go.Proofs.YtbnhnnccioljhaaGreatDoor
namespace Go.Proofs.YtbnhnnccioljhaaGreatDoor
open Go.RowKit
def SameAt (X:List Nat) (W W':World):Prop:=∀k ∈ X,W'.heap[k]?=W.heap[k]?
theorem SameAt.refl (X:List Nat) (W:World):SameAt X W W:=fun _ _=>rfl
theorem SameAt.trans {X:List Nat} {A B C:World} (h:SameAt X A B) (g:SameAt X B C):SameAt X A C:=fun k hk=>(g k hk).trans (h k hk)
theorem SameAt.of_turned {X Y:List Nat} {A B:World} (h:Turned Y A B) (hx:∀k ∈ X,k < A.heap.size∧k ∉ Y):SameAt X A B:=fun k hk=>h.block k (hx k hk).1 (hx k hk).2
structure Mild (X:List Nat) (B:Nat) (W W':World):Prop where
 os:W'.os=W.os
 tape:W'.tape=W.tape
 output:W'.output=W.output
 size:W.heap.size≤W'.heap.size
 same:∀(k:Nat) (o:Obj),W.heap[k]?=some o→k ∉ X→k < B∨o.isCells=true→W'.heap[k]?=some o
theorem Mild.of_turned {X:List Nat} {B:Nat} {W W':World} (h:Turned X W W'):Mild X B W W':=
 ⟨h.os,h.tape,h.output,h.size,fun _ _ ho hx _=>h.same ho hx⟩
theorem Mild.of_put {X:List Nat} {B l:Nat} {W:World} {o:Obj} (hl:W.heap[l]?=some o) (ho:o.isCells=false) (hB:B≤l) (o':Obj):Mild X B W (W.putObj l o'):=
 ⟨rfl,rfl,rfl,by simp,fun k u hu _ hk=>by
   have hne:k≠l:=by
    rintro rfl
    rw [hl] at hu
    cases hu
    rcases hk with h|h
    ·omega
    ·rw [ho] at h
     cases h
   exact (World.putObj_heap_other hne).trans hu⟩
def leftPost {α:Type} (B:Nat) (Y:List Nat) (I:List α→World→Prop) (Ix:Code→List α→World→Prop) (xs:List α) (W:World):Exit→Act→World→Prop
 | .normal,_,W'=>KeepsFrom B W W'∧SameAt Y W W'∧I xs W'
 | .ret,_,W'=>KeepsFrom B W W'∧SameAt Y W W'∧Ix .ret xs W'
 | .exit id,_,W'=>KeepsFrom B W W'∧SameAt Y W W'∧Ix (.exit id) xs W'
 | .goto t,_,W'=>KeepsFrom B W W'∧SameAt Y W W'∧Ix (.goto t) xs W'
 | .panic _,_,_=>False
 | .outgrown,_,_=>False
def TurnSeq {α:Type} (F:Fence) (n:Nat) (P:Program) (g:Nat) (lb:Array Value) (encs:α→Array Value) (X Y:List Nat) (Sp:List α→Prop) (S Sx:List α→World→Prop) (w:World):Prop:=
 ∀(l:Nat) (J Jx:List α→World→Prop) (W:World),Turned [] w W→(∀xs A B,J xs A→Turned X A B→J xs B)→
  (∀pre x A,J pre A→Sp (pre++[x])→YieldAt F (n - 1) P l (encs x) A fun e B=>
    SameAt Y A B∧A.heap.size≤B.heap.size∧((e= .returned (.bool true)∧J (pre++[x]) B)∨(e= .returned (.bool false)∧Jx (pre++[x]) B)))→
  J [] W→
  CallsIn F n P g (#[.func (.yield l) #[] #[]]++lb) W fun e W'=>(∃v,e= .returned v)∧((∃xs,S xs W'∧J xs W')∨(∃xs,Sx xs W'∧Jx xs W'))
variable {F:Fence} {n:Nat} {P:Program}
theorem range_turns {α:Type} {g:Operand} {ps:Array Tmp} {assign body:Code} {Q:Exit→Act→World→Prop} {a:Act} {w:World}
  (hro:F.round=none) (h1:1≤n) {gf:Nat} {lb:Array Value} (hg:a.eval g= .func (.func gf) #[] lb) (hFg:F.fn gf) (eg:∀args w,(callFunc gf args).run P w= .ok (.enter gf args) w)
  {encs:α→Array Value} {X Y:List Nat} {Sp:List α→Prop} {S Sx:List α→World→Prop} (hX:∀k ∈ X,k < w.heap.size) (hY:∀k ∈ Y,k < w.heap.size)
  (hseq:TurnSeq F (n - 1) P gf lb encs X Y Sp S Sx w) (hps:∀x,(encs x).size=ps.size)
  (hS:∀xs A B,S xs A→SameAt Y A B→S xs B) (hSx:∀xs A B,Sx xs A→SameAt Y A B→Sx xs B)
  (I:List α→World→Prop) (Ix:Code→List α→World→Prop) (hI:∀xs A B,I xs A→Mild X w.heap.size A B→I xs B) (hIx:∀c xs A B,Ix c xs A→Mild [] w.heap.size A B→Ix c xs B) (h0:I [] w)
  (Ax:α→Act→World→Prop) (hAx:∀x a' A B,Ax x a' A→Mild [] w.heap.size A B→Ax x a' B)
  (hassign:∀(l:Nat) (pre:List α) (x:α) (W:World) (K:Act→World→Prop),I pre W→(∀a' W',KeepsFrom w.heap.size W W'→SameAt Y W W'→I pre W'→Ax x a' W'→K a' W')→
    assign.wpIn (F.inRound l) (n - 1 - 1) P (Exit.then K (fun _ _ _=>False)) { tmps:=(ps.zip (encs x)).foldl (fun t (p,v)=>t.setIfInBounds p v) a.tmps,defers:=[] } W)
  (hbody:∀(l:Nat) (pre:List α) (x:α) (a':Act) (W:World),I pre W→Ax x a' W→Sp (pre++[x])→body.wpIn (F.inRound l) (n - 1 - 1) P (leftPost w.heap.size Y I Ix (pre++[x]) W) a' W)
  (hdone:∀(D:Nat) (xs:List α) (W:World),w.heap.size≤D→S xs W→I xs W→W.heap[D]?=some (.deferred (some []))→Q .normal { a with defers:= { target:= .collected D,args:= #[] } ::a.defers } W)
  (hstop:∀(D:Nat) (c:Code) (xs:List α) (W:World),w.heap.size≤D→Sx xs W→Ix c xs W→W.heap[D]?=some (.deferred (some []))→c.wpIn F n P Q { a with defers:= { target:= .collected D,args:= #[] } ::a.defers } W):
  (Code.rangeFunc g ps assign body).wpIn F n P Q a w:=by
 refine wpIn_rangeFunc fun fn hfn=>?_
 rw [hro]
 obtain⟨N,hN⟩:∃N,w.heap.size=N:=⟨_,rfl⟩
 obtain⟨R,hR⟩:∃R:LoopState→Option Code→Loop,∀st pe,R st pe= { state:=st,pending:=pe,fn,tmps:=a.tmps,params:=ps,assign,body,defers:=N } :=⟨_,fun _ _=>rfl⟩
 obtain⟨W0,hW0⟩:∃W0,(w.alloc (.deferred (some []))).alloc (.loop (R .ready none))=W0:=⟨_,rfl⟩
 have two:Turned [] w W0:=hW0 ▸ ((Turned.refl [] w).alloc _).alloc _
 have recL:W0.heap[N+1]?=some (.loop (R .ready none)):=by
  have h:=World.alloc_heap_new (w.alloc (.deferred (some []))) (.loop (R .ready none))
  rw [World.size_alloc,hN] at h
  rw [←hW0]
  exact h
 have recD:W0.heap[N]?=some (.deferred (some [])):=by
  have h:=World.alloc_heap_new w (.deferred (some []))
  rw [hN] at h
  rw [←hW0]
  exact (Below.heap_alloc _ _ _ (by simp;omega)).trans h
 rw [hN] at hI hIx hAx hassign hbody hdone hstop hX hY
 have offX:∀k,N≤k→k ∉ X:=fun k hk hx=>by have:=hX k hx;omega
 have offY:∀k ∈ Y,k≠N+1:=fun k hk e=>by have:=hY k hk;omega
 have turnY:∀(W:World) (o:Obj),SameAt Y W (W.putObj (N+1) o):=fun W o k hk=>World.putObj_heap_other (offY k hk)
 have done:∀(jump:Option Code) (W:World) (st:LoopState),W.heap[N+1]?=some (.loop (R st none))→W.heap[N]?=some (.deferred (some []))→∀st',(W.putObj (N+1) (.loop (R st' jump))).heap[N+1]?=some (.loop (R st' jump))∧(W.putObj (N+1) (.loop (R st' jump))).heap[N]?=some (.deferred (some [])):=
  fun jump W st hl hd st'=>⟨World.putObj_heap_same (Array.getElem?_eq_some_iff.1 hl).1,(World.putObj_heap_other (by omega)).trans hd⟩
 refine⟨N+1,[{ target:= .collected N,args:= #[] }],W0, { target:= .fn (.func gf) lb,args:= #[.func (.yield (N+1)) #[] #[]] },W0,gf, #[.func (.yield (N+1)) #[] #[]]++lb,W0,?_,?_,?_,?_,fun _=>h1,?_⟩
 ·rw [←hW0,hR, ←hN]
  exact run_enterLoop_outer _ _ _ _ _
 ·simp only [resolve,hg]
  simp [go_sem]
 ·intro f' hf'
  simp [Target.leads] at hf'
  subst hf'
  exact hFg
 ·simp [invoke,go_sem,eg]
 refine (hseq (N+1) (fun xs W=>(I xs W∧W.heap[N+1]?=some (.loop (R .ready none)))∧W.heap[N]?=some (.deferred (some [])))
  (fun xs W=>∃c,(Ix c xs W∧W.heap[N+1]?=some (.loop (R .done (some c))))∧W.heap[N]?=some (.deferred (some []))) W0 two ?_ ?_ ⟨⟨hI _ _ _ h0 (Mild.of_turned (two.mono (fun k hk=>by simp at hk))),recL⟩,recD⟩).mono ?_
 ·
  rintro xs A B ⟨⟨hi,hl⟩,hd⟩ ht
  exact⟨⟨hI _ _ _ hi (Mild.of_turned ht),ht.same hl (offX _ (by omega))⟩,ht.same hd (offX _ (Nat.le_refl _))⟩
 ·
  rintro pre x A ⟨⟨hi,hl⟩,hd⟩ hsp
  have hy:=run_yield (P:=P) (args:=encs x) hl (by rw [hR];exact hps x)
  rw [hR] at hy
  refine⟨fn,_,assign,body,hy,roundIn_of_wpIn hfn (hassign _ pre x A _ hi ?_)⟩
  intro a' B hka hya hia hax
  have hlB:=hka.same _ _ (by omega) hl rfl
  have hdB:=hka.same _ _ (Nat.le_refl _) hd rfl
  refine⟨_,run_beginRound hlB (by rw [hR]),?_⟩
  have hbusy:({ R .ready none with state:= .busy } :Loop)=R .busy none:=by rw [hR,hR]
  rw [hbusy]
  obtain⟨hlC,hdC⟩:=done none B .ready hlB hdB .busy
  have mB:∀Z,Mild Z N B (B.putObj (N+1) (.loop (R .busy none))):=fun Z=>Mild.of_put hlB rfl (by omega) _
  refine wpIn_mono (hbody _ pre x a' _ (hI _ _ _ hia (mB X)) (hAx _ _ _ _ hax (mB [])) hsp) ?_
  have fin:∀(jump:Option Code) (C:World),KeepsFrom N (B.putObj (N+1) (.loop (R .busy none))) C→SameAt Y (B.putObj (N+1) (.loop (R .busy none))) C→
    (Instr.endRound (N+1) jump).run P C= .ok (.bool jump.isNone) (C.putObj (N+1) (.loop (R (if jump.isNone then .ready else .done) jump)))∧C.heap[N+1]?=some (.loop (R .busy none))∧C.heap[N]?=some (.deferred (some []))∧
    SameAt Y A (C.putObj (N+1) (.loop (R (if jump.isNone then .ready else .done) jump)))∧A.heap.size≤(C.putObj (N+1) (.loop (R (if jump.isNone then .ready else .done) jump))).heap.size:=by
   intro jump C hk hyc
   have hl3:=hk.same _ _ (by omega) hlC rfl
   have hr:=run_endRound (P:=P) jump hl3
   rw [hR] at hr
   refine⟨?_,hl3,hk.same _ _ (Nat.le_refl _) hdC rfl,((hya.trans (turnY B _)).trans hyc).trans (turnY C _),?_⟩
   ·rw [hR]
    exact hr
   ·have h3:=hka.size
    have h4:=hk.size
    simp at h4 ⊢
    omega
  rintro e a3 C hp
  cases e with
  |normal=>
   obtain⟨hk,hyc,hi3⟩:=hp
   obtain⟨hr,hl3,hd3,hyy,hsz⟩:=fin none C hk hyc
   obtain⟨e1,e2⟩:=done none C .busy hl3 hd3 .ready
   exact⟨_,_,hr,hyy,hsz, .inl ⟨rfl,⟨hI _ _ _ hi3 (Mild.of_put hl3 rfl (by omega) _),e1⟩,e2⟩⟩
  |ret=>
   obtain⟨hk,hyc,hi3⟩:=hp
   obtain⟨hr,hl3,hd3,hyy,hsz⟩:=fin (some .ret) C hk hyc
   obtain⟨e1,e2⟩:=done (some .ret) C .busy hl3 hd3 .done
   exact⟨_,_,hr,hyy,hsz, .inr ⟨rfl, .ret,⟨hIx _ _ _ _ hi3 (Mild.of_put hl3 rfl (by omega) _),e1⟩,e2⟩⟩
  |exit id=>
   obtain⟨hk,hyc,hi3⟩:=hp
   obtain⟨hr,hl3,hd3,hyy,hsz⟩:=fin (some (.exit id)) C hk hyc
   obtain⟨e1,e2⟩:=done (some (.exit id)) C .busy hl3 hd3 .done
   exact⟨_,_,hr,hyy,hsz, .inr ⟨rfl, .exit id,⟨hIx _ _ _ _ hi3 (Mild.of_put hl3 rfl (by omega) _),e1⟩,e2⟩⟩
  |goto t=>
   obtain⟨hk,hyc,hi3⟩:=hp
   obtain⟨hr,hl3,hd3,hyy,hsz⟩:=fin (some (.goto t)) C hk hyc
   obtain⟨e1,e2⟩:=done (some (.goto t)) C .busy hl3 hd3 .done
   exact⟨_,_,hr,hyy,hsz, .inr ⟨rfl, .goto t,⟨hIx _ _ _ _ hi3 (Mild.of_put hl3 rfl (by omega) _),e1⟩,e2⟩⟩
  |panic ch=>exact hp.elim
  |outgrown=>exact hp.elim
 ·
  rintro e W2 ⟨⟨v,rfl⟩,⟨xs,hs,⟨hi,hl⟩,hd⟩ |⟨xs,hs,c,⟨hi,hl⟩,hd⟩⟩
  ·have hr:=run_endLoop (P:=P) hl (by rw [hR];simp)
   rw [hR] at hr
   exact⟨none,_,hr,hdone _ xs _ (Nat.le_refl _) (hS _ _ _ hs (turnY W2 _)) (hI _ _ _ hi (Mild.of_put hl rfl (by omega) _)) ((World.putObj_heap_other (by omega)).trans hd)⟩
  ·have hr:=run_endLoop (P:=P) hl (by rw [hR];simp)
   rw [hR] at hr
   exact⟨some c,_,hr,hstop _ c xs _ (Nat.le_refl _) (hSx _ _ _ hs (turnY W2 _)) (hIx _ _ _ _ hi (Mild.of_put hl rfl (by omega) _)) ((World.putObj_heap_other (by omega)).trans hd)⟩
theorem range_turns_boxed {α:Type} {g:Operand} {ps:Array Tmp} {assign body:Code} {Q:Exit→Act→World→Prop} {a:Act} {w:World}
  (hro:F.round=none) (h1:1≤n) {gf:Nat} {lb:Array Value} (hg:a.eval g= .func (.func gf) #[] lb) (hFg:F.fn gf) (eg:∀args w,(callFunc gf args).run P w= .ok (.enter gf args) w)
  {encs:α→Array Value} {X Y:List Nat} {Sp:List α→Prop} {S Sx:List α→World→Prop} (hX:∀k ∈ X,k < w.heap.size) (hY:∀k ∈ Y,k < w.heap.size)
  (hseq:TurnSeq F (n - 1) P gf lb encs X Y Sp S Sx w) (hps:∀x,(encs x).size=ps.size)
  (hS:∀xs A B,S xs A→SameAt Y A B→S xs B) (hSx:∀xs A B,Sx xs A→SameAt Y A B→Sx xs B)
  (I:List α→World→Prop) (Ix:Code→List α→World→Prop) (hI:∀xs A B,I xs A→Mild X w.heap.size A B→I xs B) (hIx:∀c xs A B,Ix c xs A→Mild [] w.heap.size A B→Ix c xs B) (h0:I [] w)
  (hsz:∀xs W,I xs W→w.heap.size≤W.heap.size) (t:TypeId) (cs:α→Array Value) (a₁:α→Nat→Act)
  (hassign:∀(l:Nat) (x:α) (Bk:Nat) (W:World) (K:Act→World→Prop),W.heap.size=Bk→K (a₁ x Bk) (W.alloc (.cells (cs x) t))→
    assign.wpIn (F.inRound l) (n - 1 - 1) P (Exit.then K (fun _ _ _=>False)) { tmps:=(ps.zip (encs x)).foldl (fun t (p,v)=>t.setIfInBounds p v) a.tmps,defers:=[] } W)
  (hbody:∀(l:Nat) (pre:List α) (x:α) (Bk:Nat) (W:World),W.heap[Bk]?=some (.cells (cs x) t (0,0))→w.heap.size≤Bk→I pre W→Sp (pre++[x])→body.wpIn (F.inRound l) (n - 1 - 1) P (leftPost w.heap.size Y I Ix (pre++[x]) W) (a₁ x Bk) W)
  (hdone:∀(D:Nat) (xs:List α) (W:World),w.heap.size≤D→S xs W→I xs W→W.heap[D]?=some (.deferred (some []))→Q .normal { a with defers:= { target:= .collected D,args:= #[] } ::a.defers } W)
  (hstop:∀(D:Nat) (c:Code) (xs:List α) (W:World),w.heap.size≤D→Sx xs W→Ix c xs W→W.heap[D]?=some (.deferred (some []))→c.wpIn F n P Q { a with defers:= { target:= .collected D,args:= #[] } ::a.defers } W):
  (Code.rangeFunc g ps assign body).wpIn F n P Q a w:=by
 refine range_turns hro h1 hg hFg eg hX hY hseq hps hS hSx I Ix hI hIx h0 (fun x a' W=>∃Bk,W.heap[Bk]?=some (.cells (cs x) t (0,0))∧w.heap.size≤Bk∧a'=a₁ x Bk) ?_ ?_ ?_ hdone hstop
 ·rintro x a' A B ⟨k,hk,hb,rfl⟩ m
  exact⟨k,m.same k _ hk (by simp) (.inr rfl),hb,rfl⟩
 ·intro l pre x W K hi hK
  have hs:=hsz _ _ hi
  exact hassign l x W.heap.size W K rfl (hK _ _ ((KeepsOthers.alloc _ _).from _) (fun k hk=>Below.heap_alloc W _ k (by have:=hY k hk;omega)) (hI _ _ _ hi (Mild.of_turned (((Turned.refl [] W).alloc _).mono (fun k hk=>by simp at hk)))) ⟨W.heap.size,heap_alloc_new W _,hs,rfl⟩)
 ·rintro l pre x a' W hi ⟨k,hk,hb,rfl⟩ hsp
  exact hbody l pre x k W hk hb hi hsp
theorem range_turns_plain {α:Type} {g:Operand} {ps:Array Tmp} {assign body:Code} {Q:Exit→Act→World→Prop} {a:Act} {w:World}
  (hro:F.round=none) (h1:1≤n) {gf:Nat} {lb:Array Value} (hg:a.eval g= .func (.func gf) #[] lb) (hFg:F.fn gf) (eg:∀args w,(callFunc gf args).run P w= .ok (.enter gf args) w)
  {encs:α→Array Value} {X Y:List Nat} {Sp:List α→Prop} {S Sx:List α→World→Prop} (hX:∀k ∈ X,k < w.heap.size) (hY:∀k ∈ Y,k < w.heap.size)
  (hseq:TurnSeq F (n - 1) P gf lb encs X Y Sp S Sx w) (hps:∀x,(encs x).size=ps.size)
  (hS:∀xs A B,S xs A→SameAt Y A B→S xs B) (hSx:∀xs A B,Sx xs A→SameAt Y A B→Sx xs B)
  (I:List α→World→Prop) (Ix:Code→List α→World→Prop) (hI:∀xs A B,I xs A→Mild X w.heap.size A B→I xs B) (hIx:∀c xs A B,Ix c xs A→Mild [] w.heap.size A B→Ix c xs B) (h0:I [] w)
  (a₁:α→Act)
  (hassign:∀(l:Nat) (x:α) (W:World) (K:Act→World→Prop),K (a₁ x) W→
    assign.wpIn (F.inRound l) (n - 1 - 1) P (Exit.then K (fun _ _ _=>False)) { tmps:=(ps.zip (encs x)).foldl (fun t (p,v)=>t.setIfInBounds p v) a.tmps,defers:=[] } W)
  (hbody:∀(l:Nat) (pre:List α) (x:α) (W:World),I pre W→Sp (pre++[x])→body.wpIn (F.inRound l) (n - 1 - 1) P (leftPost w.heap.size Y I Ix (pre++[x]) W) (a₁ x) W)
  (hdone:∀(D:Nat) (xs:List α) (W:World),w.heap.size≤D→S xs W→I xs W→W.heap[D]?=some (.deferred (some []))→Q .normal { a with defers:= { target:= .collected D,args:= #[] } ::a.defers } W)
  (hstop:∀(D:Nat) (c:Code) (xs:List α) (W:World),w.heap.size≤D→Sx xs W→Ix c xs W→W.heap[D]?=some (.deferred (some []))→c.wpIn F n P Q { a with defers:= { target:= .collected D,args:= #[] } ::a.defers } W):
  (Code.rangeFunc g ps assign body).wpIn F n P Q a w:=by
 refine range_turns hro h1 hg hFg eg hX hY hseq hps hS hSx I Ix hI hIx h0 (fun x a' _=>a'=a₁ x) (fun _ _ _ _ h _=>h) ?_ ?_ hdone hstop
 ·intro l pre x W K hi hK
  exact hassign l x W K (hK _ _ (KeepsFrom.refl _ _) (SameAt.refl _ _) hi rfl)
 ·rintro l pre x a' W hi rfl hsp
  exact hbody l pre x W hi hsp
end Go.Proofs.YtbnhnnccioljhaaGreatDoor
namespace Go.Proofs.YtbnhnnccioljhaaGreatDoor
open Go
def noDefer (l:List Oper):Bool:=l.all fun o=>match o.op with| .defer _=>false|_=>true
theorem noDefer_spec {ops:Array Oper} (h:noDefer ops.toList=true) {i:Nat} {o:Oper} (hi:ops[i]?=some o):∀c,o.op≠ .defer c:=by
 intro c hc
 have h1:=List.all_eq_true.1 h o (by rw [←Array.getElem?_toList] at hi;exact List.mem_of_getElem? hi)
 rw [hc] at h1
 simp at h1
theorem Oper.wpIn_of_wp {P:Program} {o:Oper} {a:Act} {w:World} {K K':Act→World→Prop} {Q:Exit→Act→World→Prop} {l n:Nat} (hnd:∀c,o.op≠ .defer c) (hK:∀a w,K a w→K' a w)
  (h:o.wp P a w K Q):o.wpIn (Fence.wide.inRound l) n P a w K' Q:=by
 unfold Oper.wp at h
 unfold Oper.wpIn
 refine⟨fun _ _=>trivial,?_⟩
 rw [Oper.semAt_eq _ _ _ hnd]
 generalize (execOp a.eval o).run P w=r at*
 cases r with
 |ok x w'=>
  cases x<;>simp only [Oper.upon] at h<;>simp only [Oper.uponIn]
  case value v=>exact hK _ _ h
  case skip=>exact hK _ _ h
  case defer d=>exact hK _ _ h
  case enter f args=>
   refine⟨fun e=>by simp [Fence.wide] at e,CallsIn.inRound l (callsIn_wide.2 (h.mono ?_))⟩
   intro e w'' he
   cases e with
   |returned v=>exact hK _ _ he
   |panicked c=>exact he
   |outgrown=>exact he
  case row row args=>
   refine⟨fun e=>by simp [Fence.wide] at e,?_⟩
   have hr:RowsIn Fence.wide (n - 1) P row args w' (fun v w''=>K' (a.put o.dst v) w''):=fun c cs _=>let ⟨v,w'',r,s⟩:=h c cs;⟨v,w'',hK _ _ r,stepsIn_wide.2 s⟩
   exact hr
 |halt x w'=>
  cases x<;>simp only [Oper.upon] at h<;>simp only [Oper.uponIn]
  exact h
section
variable {P:Program} {ops:Array Oper} {md:Region.Mode} {Q:Exit→Act→World→Prop} {r n:Nat}
theorem wpOpIn_of_wpOp (hnd:noDefer ops.toList=true) (hQ:¬LetsOut Q) {i:Nat} {K K':Act→World→Prop} {a:Act} {w:World} (hK:∀a w,K a w→K' a w) (h:wpOp P ops Q i K a w):
  wpOpIn (Fence.wide.inRound r) n P ops Q i K' a w:=by
 unfold wpOp at h
 unfold wpOpIn
 cases ho:ops[i]? with
 |none=>simp only [ho] at h ⊢;exact hK _ _ h
 |some o=>
  simp only [ho] at h ⊢
  by_cases hw:Region.wanted o (yielded ops a.tmps)=true
  ·simp only [hw,if_true] at h ⊢
   rcases h with h|h
   ·exact Oper.wpIn_of_wp (noDefer_spec hnd ho) hK h
   ·exact absurd h.2 hQ
  ·simp only [hw] at h ⊢
   exact⟨fun _ _=>trivial,hK _ _ h⟩
theorem wpAnyIn_of_wpAny (hnd:noDefer ops.toList=true) (hQ:¬LetsOut Q):∀(fuel:Nat) (listed:Array Bool) (a:Act) (w:World),wpAny P md ops Q fuel listed a w→wpAnyIn (Fence.wide.inRound r) n P md ops Q fuel listed a w
 |0,_,_,_,h=>h
 |fuel+1,_,_,_,h=>⟨h.1,fun i hi=>wpOpIn_of_wpOp hnd hQ (fun a' w' h'=>wpAnyIn_of_wpAny hnd hQ fuel _ a' w' h') (h.2 i hi)⟩
end
end Go.Proofs.YtbnhnnccioljhaaGreatDoor
namespace Go.Proofs.YtbnhnnccioljhaaGreatDoor
open Go.RowKit
section
variable {α:Type}
def cellsOf (enc:α→List Value) (L:List α):List Value:=L.flatMap enc
section
variable {enc:α→List Value} {k:Nat}
theorem cellsOf_len (hk:∀x,(enc x).length=k) (L:List α):(cellsOf enc L).length=L.length*k:=by
 induction L with
 |nil=>simp [cellsOf]
 |cons s L ih=>
  simp only [cellsOf,List.flatMap_cons,List.length_append,List.length_cons,hk] at ih ⊢
  rw [ih,Nat.add_mul]
  omega
theorem cellsOf_snoc (L:List α) (x:α):cellsOf enc (L++[x])=cellsOf enc L++enc x:=by simp [cellsOf]
theorem cellsOf_drop (hk:∀x,(enc x).length=k):∀(L:List α) (j:Nat),cellsOf enc (L.drop j)=(cellsOf enc L).drop (j*k)
 |[],j=>by simp [cellsOf]
 |s::L,0=>by simp [cellsOf]
 |s::L,j+1=>by
  have ih:=cellsOf_drop hk L j
  have e:(j+1)*k=(enc s).length+j*k:=by rw [hk,Nat.add_mul];omega
  simp only [cellsOf,List.drop_succ_cons,List.flatMap_cons] at ih ⊢
  rw [ih,e,List.drop_length_add_append]
theorem cellsOf_get (hk:∀x,(enc x).length=k) (L:List α) (j i:Nat) (hj:j < L.length) (hi:i < k):(cellsOf enc L)[j*k+i]?=(enc L[j])[i]?:=by
 have h:=cellsOf_drop hk L j
 rw [List.drop_eq_getElem_cons hj] at h
 have h2:((cellsOf enc L).drop (j*k))[i]?=(enc L[j])[i]?:=by
  rw [←h]
  simp only [cellsOf,List.flatMap_cons]
  rw [List.getElem?_append_left (by rw [hk];exact hi)]
 rw [←h2,List.getElem?_drop]
theorem cellsOf_set (hk:∀x,(enc x).length=k):∀(L:List α) (j i:Nat) (x:α) (u:Value) (hj:j < L.length),i < k→enc x=(enc L[j]).set i u→cellsOf enc (L.set j x)=(cellsOf enc L).set (j*k+i) u
 |s::L,0,i,x,u,_,hi,he=>by
  simp only [List.getElem_cons_zero] at he
  simp only [cellsOf,List.set_cons_zero,List.flatMap_cons,Nat.zero_mul,Nat.zero_add,he]
  rw [List.set_append_left _ _ (by rw [hk];exact hi)]
 |s::L,j+1,i,x,u,hj,hi,he=>by
  have ih:=cellsOf_set hk L j i x u (by simpa using hj) hi (by simpa using he)
  have e:(j+1)*k+i=(enc s).length+(j*k+i):=by rw [hk,Nat.add_mul];omega
  simp only [cellsOf,List.set_cons_succ,List.flatMap_cons] at ih ⊢
  rw [ih,e,List.set_append_right _ _ (by omega)]
  congr 2
  omega
end
def LAt (tS tE:TypeId) (k:Nat) (enc:α→List Value) (cs:Value→Array Value) (w:World) (b:Nat) (X:List Nat) (L:List α):Prop:=
 ∃v,w.heap[b]?=some (.cells (cs v) tS (0,0))∧w.ownsRow 0 tE k v L.length (cellsOf enc L)∧X=b::v.ownBlock.toList
section
variable {tS tE:TypeId} {k:Nat} {enc:α→List Value} {cs:Value→Array Value} {w w':World} {b:Nat} {X Y:List Nat} {L:List α}
theorem LAt.keep (h:LAt tS tE k enc cs w b X L) (ht:Turned Y w w') (hd:∀k ∈ X,k ∉ Y):LAt tS tE k enc cs w' b X L:=by
 obtain⟨v,h1,h2,rfl⟩:=h
 exact⟨v,ht.same h1 (hd _ (by simp)),ownsRow_same h2 (fun k hk hl=>ht.block k hl (hd k (List.mem_cons_of_mem _ hk))),rfl⟩
theorem LAt.lt (h:LAt tS tE k enc cs w b X L):∀k ∈ X,k < w.heap.size:=by
 obtain⟨v,h1,h2,rfl⟩:=h
 intro k hk
 rcases List.mem_cons.1 hk with rfl|hk
 ·exact lt_of_block h1
 ·exact ownsRow_lt h2 k hk
theorem LAt.head (h:LAt tS tE k enc cs w b X L):b ∈ X:=by
 obtain⟨v,h1,h2,rfl⟩:=h
 simp
theorem LAt.drewN (h:LAt tS tE k enc cs w b X L) (n:Nat):LAt tS tE k enc cs (w.drewN n) b X L:=h
theorem LAt.stored {w1:World} {v v':Value} {i:Nat} {M:List α} (hne:tS≠tE) (hcs:(cs v).setIfInBounds i v'=cs v')
  (hb:w1.heap[b]?=some (.cells (cs v) tS (0,0))) (ho:w1.ownsRow 0 tE k v' M.length (cellsOf enc M)) (hX:b ∈ X) (hT:Turned X w w1) (hN:∀g ∈ v'.ownBlock.toList,g ∈ X∨w.heap.size≤g):
  LAt tS tE k enc cs (w1.setCell ⟨b,i,none⟩ v') b (b::v'.ownBlock.toList) M∧Turned X w (w1.setCell ⟨b,i,none⟩ v')∧Newer X w.heap.size (b::v'.ownBlock.toList):=by
 refine⟨⟨v',?_,ownsRow_setCell_other ho (a:=⟨b,i,none⟩) (fun e=>block_off hb ho hne e.symm) _,rfl⟩,hT.setCell (.inl hX) _,?_⟩
 ·rw [heap_setCell_same w1 b i _ _ _ hb,hcs]
 ·intro j hj
  rcases List.mem_cons.1 hj with rfl|hj
  ·exact .inl hX
  ·exact hN j hj
theorem LAt.field {cs':Value→Array Value} {i:Nat} {u:Value} (h:LAt tS tE k enc cs w b X L) (hne:tS≠tE) (hcs:∀v,(cs v).setIfInBounds i u=cs' v):
  LAt tS tE k enc cs' (w.setCell ⟨b,i,none⟩ u) b X L∧Turned X w (w.setCell ⟨b,i,none⟩ u):=by
 obtain⟨v,h1,h2,rfl⟩:=h
 refine⟨⟨v,?_,ownsRow_setCell_other h2 (a:=⟨b,i,none⟩) (fun e=>block_off h1 h2 hne e.symm) _,rfl⟩,(Turned.refl _ w).setCell (.inl (by simp)) _⟩
 rw [heap_setCell_same w b i _ _ _ h1,hcs]
end
end
section
variable {α:Type} {tE:TypeId} {k:Nat} {enc:α→List Value} {W W':World} {g n cap:Nat} {L:List α}
theorem cells_one (h1:∀x,∀u ∈ enc x,u.oneCell'=true) (L:List α):∀u ∈ cellsOf enc L,u.oneCell'=true:=by
 intro u hu
 obtain⟨x,_,hx⟩:=List.mem_flatMap.1 hu
 exact h1 x u hx
end
theorem LAt.view {α:Type} {tS tE:TypeId} {k:Nat} {enc:α→List Value} {cs:Value→Array Value} {w:World} {b:Nat} {X:List Nat} {L:List α} (h:LAt tS tE k enc cs w b X L):
  ∃a cap,w.heap[b]?=some (.cells (cs (.slice a L.length cap)) tS (0,0))∧w.ownsRow 0 tE k (.slice a L.length cap) L.length (cellsOf enc L)∧X=b::(Value.slice a L.length cap).ownBlock.toList∧L.length≤cap∧cap≤maxLen∧
   ∀j,j < L.length→∃g,a=some ⟨g,0,none⟩∧b≠g∨tS=tE:=by
 obtain⟨v,h1,h2,h3⟩:=h
 obtain⟨a,cap,rfl,hc,hm⟩:=ownsRow_shape h2
 refine⟨a,cap,h1,h2,h3,hc,hm,fun j hj=>?_⟩
 obtain⟨g,cap',hv,_,_⟩:=ownsRow_pos h2 (by omega)
 simp only [Value.slice.injEq] at hv
 by_cases e:tS=tE
 ·exact⟨g, .inr e⟩
 ·exact⟨g, .inl ⟨hv.1,fun hg=>block_off h1 h2 e (by simp [Value.ownBlock,hv.1,hg])⟩⟩
section
variable {α:Type}
end
section
variable {P:Program} (w:World)
theorem run_append_any (t ty e:TypeId) (i:TypeInfo) (z:Value) (size bytes:Nat) (ht:P.underlying t=some (.slice e)) (hi:P.info? e=some i) (hz:i.zero=some z)
  (hsize:i.size=size) (hby:i.bytes=bytes) (hzs:z.cells.size=size) (hsz:0 < size)
  (v:Value) (n:Nat) (xs:List Value) (hown:w.ownsRow 0 e size v n xs)
  (ao:Option Addr) (m c:Nat) (news:List Value) (hl:news.length=m*size) (hnone:ao=none→m=0∧c=0) (hnews:∀ad,ao=some ad→∀j u,news[j]?=some u→w.cell? (ad.add j)=some u) (h1:∀u ∈ news,u.oneCell'=true)
  (h63:n+m≤maxLen) (hbytes:(n+m)*bytes≤140737488355328):
  ∃a' cap' w',(Builtin.append_ #[t,t] ty #[v, .slice ao m c]).run P w= .ok (.slice a' (n+m) cap') w'∧w'.ownsRow 0 e size (.slice a' (n+m) cap') (n+m) (xs++news)∧w.grownBy w' v.ownBlock∧
   (∀g ∈ (Value.slice a' (n+m) cap').ownBlock.toList,g ∈ v.ownBlock.toList∨w.heap.size≤g):=by
 cases hao:ao with
 |none=>
  obtain⟨rfl,rfl⟩:=hnone hao
  have hn:news=[]:=List.eq_nil_of_length_eq_zero (by simpa using hl)
  subst hn
  have hr:=run_append_owned_none (P:=P) (w:=w) 0 t ty e i size ht hi v n xs hown
  obtain⟨a',cap',rfl,hc1,hc2⟩:=ownsRow_shape hown
  exact⟨a',cap',w,hr,by simpa using hown,⟨rfl,rfl,rfl,Nat.le_refl _,fun _ _ _=>rfl⟩,fun g hg=> .inl hg⟩
 |some ad=>
  obtain⟨v',w',hr,h2,h3,_,h5⟩:=run_append_own_at (P:=P) w 0 t ty e i z size bytes ht hi hz hsize hby hzs hsz v n xs hown ad m c news hl (hnews ad hao) h1 h63 hbytes (Nat.zero_le _)
  obtain⟨a',cap',rfl,hc1,hc2⟩:=ownsRow_shape h2
  refine⟨a',cap',w',hr,h2,h3,fun g hg=>?_⟩
  rcases h5 with h5|h5
  ·exact .inl (by rw [←h5];exact hg)
  ·rw [h5] at hg
   simp at hg
   exact .inr (by omega)
theorem wp_append_any {o:Oper} {a:Act} {K:Act→World→Prop} {Q:Exit→Act→World→Prop} (s x:Operand) (t:TypeId)
  (ho:o.op= .call { callee:= .builtin .append,args:= #[s,x],argTypes:= #[t,t] })
  (e:TypeId) (i:TypeInfo) (z:Value) (size bytes:Nat) (ht:P.underlying t=some (.slice e)) (hi:P.info? e=some i) (hz:i.zero=some z)
  (hsize:i.size=size) (hby:i.bytes=bytes) (hzs:z.cells.size=size) (hsz:0 < size)
  (v:Value) (n:Nat) (xs:List Value) (hs:a.eval s=v) (hown:w.ownsRow 0 e size v n xs)
  (ao:Option Addr) (m c:Nat) (news:List Value) (hx:a.eval x= .slice ao m c) (hl:news.length=m*size) (hnone:ao=none→m=0∧c=0) (hnews:∀ad,ao=some ad→∀j u,news[j]?=some u→w.cell? (ad.add j)=some u) (h1:∀u ∈ news,u.oneCell'=true)
  (h63:n+m≤maxLen) (hbytes:(n+m)*bytes≤140737488355328)
  (h:∀a' cap' w',w'.ownsRow 0 e size (.slice a' (n+m) cap') (n+m) (xs++news)→w.grownBy w' v.ownBlock→(∀g ∈ (Value.slice a' (n+m) cap').ownBlock.toList,g ∈ v.ownBlock.toList∨w.heap.size≤g)→
    K (a.put o.dst (.slice a' (n+m) cap')) w'):o.wp P a w K Q:=by
 obtain⟨a',cap',w',hr,h2,h3,h4⟩:=run_append_any (P:=P) w t o.type e i z size bytes ht hi hz hsize hby hzs hsz v n xs hown ao m c news hl hnone hnews h1 h63 hbytes
 unfold Oper.wp execOp
 simp only [ho,resolve,invoke,builtin,Sem.run_bind,Sem.run_pure,Result.andThen_ok,List.map_toArray,List.map_cons,List.map_nil,hs,hx,hr]
 exact h a' cap' w' h2 h3 h4
theorem wpList_append_any {ops:Array Oper} {rest:List Oper} {o:Oper} {a:Act} {Q:Exit→Act→World→Prop} (hgd:o.guard=none) (s x:Operand) (t:TypeId)
  (ho:o.op= .call { callee:= .builtin .append,args:= #[s,x],argTypes:= #[t,t] })
  (e:TypeId) (i:TypeInfo) (z:Value) (size bytes:Nat) (ht:P.underlying t=some (.slice e)) (hi:P.info? e=some i) (hz:i.zero=some z)
  (hsize:i.size=size) (hby:i.bytes=bytes) (hzs:z.cells.size=size) (hsz:0 < size)
  (v:Value) (n:Nat) (xs:List Value) (hs:a.eval s=v) (hown:w.ownsRow 0 e size v n xs)
  (ao:Option Addr) (m c:Nat) (news:List Value) (hx:a.eval x= .slice ao m c) (hl:news.length=m*size) (hnone:ao=none→m=0∧c=0) (hnews:∀ad,ao=some ad→∀j u,news[j]?=some u→w.cell? (ad.add j)=some u) (h1:∀u ∈ news,u.oneCell'=true)
  (h63:n+m≤maxLen) (hbytes:(n+m)*bytes≤140737488355328)
  (h:∀a' cap' w',w'.ownsRow 0 e size (.slice a' (n+m) cap') (n+m) (xs++news)→w.grownBy w' v.ownBlock→(∀g ∈ (Value.slice a' (n+m) cap').ownBlock.toList,g ∈ v.ownBlock.toList∨w.heap.size≤g)→
    wpList P ops Q rest (a.put o.dst (.slice a' (n+m) cap')) w'):wpList P ops Q (o::rest) a w:=
 wpList_plain hgd fun _ hK=>wp_append_any w s x t ho e i z size bytes ht hi hz hsize hby hzs hsz v n xs hs hown ao m c news hx hl hnone hnews h1 h63 hbytes fun a' cap' w' h2 h3 h4=>hK _ _ (h a' cap' w' h2 h3 h4)
theorem step_append_any {ops:Array Oper} {o:Oper} {a:Act} {K:Act→World→Prop} {Q:Exit→Act→World→Prop} {E:Prop} (hgd:o.guard=none) (s x:Operand) (t:TypeId)
  (ho:o.op= .call { callee:= .builtin .append,args:= #[s,x],argTypes:= #[t,t] })
  (e:TypeId) (i:TypeInfo) (z:Value) (size bytes:Nat) (ht:P.underlying t=some (.slice e)) (hi:P.info? e=some i) (hz:i.zero=some z)
  (hsize:i.size=size) (hby:i.bytes=bytes) (hzs:z.cells.size=size) (hsz:0 < size)
  (v:Value) (n:Nat) (xs:List Value) (hs:a.eval s=v) (hown:w.ownsRow 0 e size v n xs)
  (ao:Option Addr) (m c:Nat) (news:List Value) (hx:a.eval x= .slice ao m c) (hl:news.length=m*size) (hnone:ao=none→m=0∧c=0) (hnews:∀ad,ao=some ad→∀j u,news[j]?=some u→w.cell? (ad.add j)=some u) (h1:∀u ∈ news,u.oneCell'=true)
  (h63:n+m≤maxLen) (hbytes:(n+m)*bytes≤140737488355328)
  (h:∀a' cap' w',w'.ownsRow 0 e size (.slice a' (n+m) cap') (n+m) (xs++news)→w.grownBy w' v.ownBlock→(∀g ∈ (Value.slice a' (n+m) cap').ownBlock.toList,g ∈ v.ownBlock.toList∨w.heap.size≤g)→
    K (a.put o.dst (.slice a' (n+m) cap')) w'):if Region.wanted o (yielded ops a.tmps)=true then Oper.wp P o a w K Q else E:=by
 have hw:Region.wanted o (yielded ops a.tmps)=true:=by simp [Region.wanted,hgd]
 rw [if_pos hw]
 exact wp_append_any w s x t ho e i z size bytes ht hi hz hsize hby hzs hsz v n xs hs hown ao m c news hx hl hnone hnews h1 h63 hbytes h
end
end Go.Proofs.YtbnhnnccioljhaaGreatDoor
namespace Go.Proofs.YtbnhnnccioljhaaGreatDoor
open Go.RowKit
theorem cell1 {w:World} {b:Nat} {x:Value} {t:TypeId} (h:w.heap[b]?=some (.cells #[x] t (0,0))):w.cell? ⟨b,0,none⟩=some x:=by simp [World.cell?,h]
theorem Turned.mild {X Y:List Nat} {N:Nat} {w A B:World} (h:Turned Y w A) (m:Mild X N A B) (hN:w.heap.size≤N) (hX:∀k ∈ X,w.heap.size≤k):Turned Y w B:=
 ⟨m.os.trans h.os,m.tape.trans h.tape,m.output.trans h.output,Nat.le_trans h.size m.size,fun k hk hy=>by
   have h1:=h.block k hk hy
   have h2:A.heap[k]?=some (A.heap[k]'(by have:=h.size;omega)):=Array.getElem?_eq_getElem _
   rw [m.same k _ h2 (fun hx=>by have:=hX k hx;omega) (.inl (by omega)), ←h2,h1]⟩
theorem Mild.cells {X:List Nat} {N k:Nat} {A B:World} {cs:Array Value} {t:TypeId} {f:Nat×Nat} (m:Mild X N A B) (h:A.heap[k]?=some (.cells cs t f)) (hx:k ∉ X):B.heap[k]?=some (.cells cs t f):=m.same k _ h hx (.inr rfl)
theorem Turned.put {X:List Nat} {a b:World} (h:Turned X a b) {l:Nat} (hl:a.heap.size≤l) (o:Obj):Turned X a (b.putObj l o):=
 h.grown (grownBy_putObj' b l o) (fun k e=> .inr (by cases e;exact hl))
theorem bool_result {fn:Func} {p:Tmp} (hf:fn.results= #[.cell p 4]) {tmps:Array Value} {w:World} {B:Nat} {v:Value} (hp:tmps.getD p undef= .pointer (some ⟨B,0,none⟩)) (h:w.heap[B]?=some (.cells #[v] 4 (0,0))):
  (results fn tmps).run Tryz.prog w= .ok v w:=by
 have h0:=cell1 h
 have hp':tmps[p]?.getD undef= .pointer (some ⟨B,0,none⟩):=by simpa using hp
 simp [results,hf,hp',loadVar,go_sem,h0,asAddr,Sem.run_bind,Result.andThen]
theorem LAt.mild {α:Type} {tS tE:TypeId} {k:Nat} {enc:α→List Value} {cs:Value→Array Value} {A B:World} {b:Nat} {Z X:List Nat} {N:Nat} {L:List α} (h:LAt tS tE k enc cs A b Z L) (m:Mild X N A B) (hd:∀k ∈ Z,k ∉ X):LAt tS tE k enc cs B b Z L:=by
 obtain⟨v,h1,h2,rfl⟩:=h
 refine⟨v,m.cells h1 (hd _ (by simp)),ownsRow_same h2 (fun k hk _=>?_),rfl⟩
 obtain⟨cur,hc⟩:=ownsRow_type h2 k hk
 rw [m.cells hc (hd k (List.mem_cons_of_mem _ hk)),hc]
theorem LAt.isCells {α:Type} {tS tE:TypeId} {k:Nat} {enc:α→List Value} {cs:Value→Array Value} {A:World} {b:Nat} {Z:List Nat} {L:List α} (h:LAt tS tE k enc cs A b Z L):∀k ∈ Z,∃c t,A.heap[k]?=some (.cells c t (0,0)):=by
 obtain⟨v,h1,h2,rfl⟩:=h
 intro k hk
 rcases List.mem_cons.1 hk with rfl|hk
 ·exact⟨_,_,h1⟩
 ·obtain⟨cur,hc⟩:=ownsRow_type h2 k hk
  exact⟨cur,_,hc⟩
end Go.Proofs.YtbnhnnccioljhaaGreatDoor
namespace Go.Proofs.YtbnhnnccioljhaaGreatDoor
open Go.RowKit
def waitsFor (md:Region.Mode) (ops:Array Oper) (e i:Nat):Bool:=
 match ops[e]? with
 |some o=>o.after.any fun d=>Region.binds md d&&d.on == i
 |none=>false
def wpAnyE (P:Program) (md:Region.Mode) (ops:Array Oper) (Q:Exit→Act→World→Prop) (S:World→Prop) (e:Nat):Nat→Array Bool→Act→World→Prop
 |0,done,a,w=>Region.ready md ops done=[]∧Q .normal a w
 |fuel+1,done,a,w=>(Region.ready md ops done=[]→Q .normal a w)∧
  ∀i ∈ Region.ready md ops done,wpOp P ops Q i (fun a' w'=>(i=e∨S w')∧wpAnyE P md ops Q S e fuel (done.setIfInBounds i true) a' w') a w
section
variable {P:Program} {md:Region.Mode} {ops:Array Oper} {Q:Exit→Act→World→Prop} {S:World→Prop} {e:Nat}
theorem wpAny_of_E:∀(fuel:Nat) (done:Array Bool) (a:Act) (w:World),wpAnyE P md ops Q S e fuel done a w→wpAny P md ops Q fuel done a w
 |0,_,_,_,h=>h
 |fuel+1,_,_,_,h=>⟨h.1,fun i hi=>wpOp_mono (fun a' w' h'=>wpAny_of_E fuel _ a' w' h'.2) (h.2 i hi)⟩
theorem wpAnyE_take {i:Nat} {oi:Oper} {v:Value} {a:Act} {w:World} (hi:ops[i]?=some oi) (hs:Region.noSelect ops=true) (he:waitsFor md ops e i=true)
  (hQ:∀c a w,Q (.panic c) (a.put oi.dst v) w→Q (.panic c) a w):
  ∀ {fuel:Nat} {done:Array Bool},Region.free md ops done i=true→(Region.ready md ops done).contains i=true→YieldsIf P ops S oi v a→S w→
   wpAnyE P md ops Q S e fuel (done.setIfInBounds i true) (a.put oi.dst v) w→wpAnyE P md ops Q S e (fuel+1) done a w:=by
 have hsel:=Region.noSelect_spec hs
 intro fuel done hf hr
 have hfree:=Region.free_spec hi hf
 have hr':i ∈ Region.ready md ops done:=by simpa using hr
 clear hf hr
 suffices H:∀(fuel:Nat) (done:Array Bool) (a:Act) (w:World),(∀j oj,ops[j]?=some oj→j≠i→done.getD j true=false→(∀d ∈ oj.after,Region.binds md d=true→d.on≠i)→oi.apart ops oj=true)→
  i ∈ Region.ready md ops done→YieldsIf P ops S oi v a→S w→wpAnyE P md ops Q S e fuel (done.setIfInBounds i true) (a.put oi.dst v) w→wpAnyE P md ops Q S e (fuel+1) done a w from H fuel done a w hfree hr'
 intro fuel
 induction fuel with
 |zero=>
  intro done a w _ hr hy hS h
  refine⟨fun h0=>by simp [h0] at hr,fun j hj=>?_⟩
  by_cases hji:j=i
  ·subst hji
   exact hy.wpOp hi hS ⟨.inr hS,h⟩
  ·have:=ready_mono hj hji
   simp [h.1] at this
 |succ fuel ih=>
  intro done a w hfr hr hy hS h
  refine⟨fun h0=>by simp [h0] at hr,fun j hj=>?_⟩
  by_cases hji:j=i
  ·subst hji
   exact hy.wpOp hi hS ⟨.inr hS,h⟩
  obtain⟨hjd,oj,hoj,hall⟩:=mem_ready.1 hj
  have hno:∀d ∈ oj.after,Region.binds md d=true→d.on≠i:=by
   rintro d hd hb rfl
   have h1:=hall d hd hb
   have h0:=(mem_ready.1 hr).1
   simp only [Array.getD_eq_getD_getElem?] at h0 h1
   cases hq:done[d.on]? with
   |none=>simp [hq] at h0 h1
   |some q=>simp [hq] at h0 h1;rw [h0] at h1;cases h1
  have hje:j≠e:=by
   rintro rfl
   unfold waitsFor at he
   rw [hoj] at he
   obtain⟨k,hk,hd⟩:=Array.any_eq_true.1 he
   simp only [Bool.and_eq_true,beq_iff_eq] at hd
   exact hno _ (Array.getElem_mem hk) hd.1 hd.2
  have hstep:=wpOp_putIf hoj (hfr j oj hoj hji hjd hno) (fun cs b=>hsel i oi cs b hi) (fun cs b=>hsel j oj cs b hoj) hQ hy (h.2 j (ready_mono hj hji))
  refine wpOp_mono (fun a' w' hk=>?_) hstep
  obtain⟨hy',hS',hrest⟩:=hk
  have hS2:S w':=hS'.resolve_left hje
  refine⟨.inr hS2,ih _ a' w' (fun k ok hk hki hun hn=>hfr k ok hk hki ?_ hn) (ready_mono hr (Ne.symm hji)) hy' hS2 ?_⟩
  ·by_cases hjk:j=k
   ·subst hjk;exact hjd
   ·rwa [getD_set_ne true hjk] at hun
  ·rwa [Array.setIfInBounds_comm _ _ hji]
def ReadyE (P:Program) (md:Region.Mode) (ops:Array Oper) (Q:Exit→Act→World→Prop) (S:World→Prop) (e fuel:Nat) (done:Array Bool) (a:Act) (w:World) (rs:List Nat):Prop:=
 ∀i ∈ rs,wpOp P ops Q i (fun a' w'=>(i=e∨S w')∧wpAnyE P md ops Q S e fuel (done.setIfInBounds i true) a' w') a w
theorem ReadyE.nil {fuel:Nat} {done:Array Bool} {a:Act} {w:World} :ReadyE P md ops Q S e fuel done a w []:=fun _ h=>by cases h
theorem ReadyE.cons {fuel:Nat} {done:Array Bool} {a:Act} {w:World} {i:Nat} {o:Oper} {rs:List Nat} (ho:ops[i]?=some o)
  (h:∀K':Act→World→Prop,Shut (∀a w,(i=e∨S w)→wpAnyE P md ops Q S e fuel (done.setIfInBounds i true) a w→K' a w)→if Region.wanted o (yielded ops a.tmps)=true then Oper.wp P o a w K' Q else K' (a.put o.dst undef) w)
  (hs:ReadyE P md ops Q S e fuel done a w rs):ReadyE P md ops Q S e fuel done a w (i::rs):=fun j hj=>by
 rcases List.mem_cons.1 hj with rfl|hj
 ·exact wpOp_step ho fun K' hK=>h K' fun a w h1 h2=>hK a w ⟨h1,h2⟩
 ·exact hs j hj
theorem wpAnyE_ready {rs:List Nat} {fuel:Nat} {done:Array Bool} {a:Act} {w:World} (hr:Region.ready md ops done=rs) (hne:rs≠[]) (h:ReadyE P md ops Q S e fuel done a w rs):wpAnyE P md ops Q S e (fuel+1) done a w:=
 ⟨fun h0=>absurd (hr ▸ h0) hne,hr ▸ h⟩
theorem wpAnyE_done {done:Array Bool} {a:Act} {w:World} (hr:Region.ready md ops done=[]) (h:Q .normal a w):∀fuel,wpAnyE P md ops Q S e fuel done a w
 |0=>⟨hr,h⟩
 |_+1=>⟨fun _=>h,by rw [hr];simp⟩
end
theorem wpRound_last {P:Program} {id r n:Nat} {Q:Exit→Act→World→Prop} {a:Act} {w:World} {l:List Oper} (S:World→Prop) (e:Nat) (hnd:noDefer l=true) (hQ:¬LetsOut Q) (hm:P.follows .mixedOrders=true) (hS:S w.drew)
  (h:S w.drew→wpAnyE P .any l.toArray Q S e l.toArray.size (Array.replicate l.toArray.size false) a w.drew):(Code.region id l.toArray true).wpIn (Fence.wide.inRound r) n P Q a w:=
 wpIn_region_any hm (wpAnyIn_of_wpAny (by simpa using hnd) hQ _ _ _ _ (wpAny_of_E _ _ _ _ (h hS)))
theorem wp_region_last {P:Program} {id:Nat} {Q:Exit→Act→World→Prop} {a:Act} {w:World} {ops:Array Oper} (S:World→Prop) (e:Nat) (hm:P.follows .mixedOrders=true) (hS:S w.drew)
  (h:S w.drew→wpAnyE P .any ops Q S e ops.size (Array.replicate ops.size false) a w.drew):(Code.region id ops true).wp P Q a w:=
 wp_region_any hm (wpAny_of_E _ _ _ _ (h hS))
end Go.Proofs.YtbnhnnccioljhaaGreatDoor
