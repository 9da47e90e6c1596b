/-
  The program reads a part by another's Parse: a setup, acts. (Made by gen_scpart.py.)
  The program's Parse of scripts. (Made by gen_scparse.py.)
  The program's May of scripts.
  The program's Words of setups.
  The program's Print of setups.
  The program's Print of scripts.
  Layer 14's awake. (Made by gen_scaw14.py.)
  From the walks of layer 14 to the rows: the library's table out of the row's condition; the witness.
-/
import Derived.Test.YtbnhnnccioljhaaGreatDoorZBG
import Derived.Test.YtbnhnnccioljhaaGreatDoorZBJ
import Derived.Test.YtbnhnnccioljhaaGreatDoorZAI
import Derived.Test.YtbnhnnccioljhaaGreatDoorZBI
import Derived.Test.YtbnhnnccioljhaaGreatDoorZAK
import Derived.Test.YtbnhnnccioljhaaGreatDoorZBL
import Derived.Test.YtbnhnnccioljhaaGreatDoorZAL
import Derived.Test.YtbnhnnccioljhaaGreatDoorZAM
import Derived.Test.YtbnhnnccioljhaaGreatDoorZAS
import Derived.Test.YtbnhnnccioljhaaGreatDoorZAA
import Derived.Test.YtbnhnnccioljhaaGreatDoorTie
import Derived.Test.YtbnhnnccioljhaaGreatDoorCards
import Derived.Lib.LaidTab
import Derived.LaidMore
import Derived.Stop.Joined
import Derived.Stop.LaidErr
import Derived.SevenTiedAt
import Derived.SizedLaws
import Derived.ChangeMaps5
import Derived.Test.YtbnhnnccioljhaaGreatDoorZAl
set_option maxRecDepth 100000
set_option maxHeartbeats 25600000
namespace Go.Proofs.YtbnhnnccioljhaaGreatDoor
open Go.RowKit
abbrev zeroS:Obj:= .cells zeroSt 26
structure PsS (w V:World) (b:Nat) (ao:Option Addr) (bw off cap:Nat) (L:List Wd) (s:Rd) (x:Array Value):Prop where
 rd:RwI V b ao bw off cap L s
 res:V.heap[w.heap.size]?=some zeroS
 prt:V.heap[w.heap.size+1]?=some (.cells x 26 (0,0))
 t:Turned [b] w V
 l1:b < w.heap.size
section
variable {w V V':World} {b:Nat} {ao:Option Addr} {bw off cap:Nat} {L:List Wd} {s s':Rd} {x:Array Value} {a' b' c' d' e':Value}
theorem PsS.below (h:PsS w V b ao bw off cap L s x) (hb:Below V.heap.size V V'):PsS w V' b ao bw off cap L s x:=
 ⟨RdI.below h.rd hb,(hb.block _ (lt_of_block h.res)).trans h.res,(hb.block _ (lt_of_block h.prt)).trans h.prt,h.t.trans (turned_below hb [b]) (Newer.refl _ _),h.l1⟩
theorem PsS.start (h:RwI w b ao bw off cap L s):PsS w ((w.alloc zeroS).alloc zeroS) b ao bw off cap L s zeroSt:=by
 have hb:Below w.heap.size w ((w.alloc zeroS).alloc zeroS):=((Below.refl _ w).alloc (Nat.le_refl _) zeroS).alloc (by simp) zeroS
 have h2:=heap_alloc_new (w.alloc zeroS) zeroS
 rw [World.size_alloc] at h2
 exact⟨RdI.below h hb,(Below.heap_alloc _ _ _ (by simp)).trans (heap_alloc_new w _),h2,turned_below hb _,lt_of_block h.rd⟩
theorem turned_set5 {X:List Nat} {A B:World} {n:Nat} {a b c d e:Value} (h:Turned X A B) (hn:n ∈ X∨A.heap.size≤n):Turned X A (((((B.setCell ⟨n,0,none⟩ a).setCell ⟨n,1,none⟩ b).setCell ⟨n,2,none⟩ c).setCell ⟨n,3,none⟩ d).setCell ⟨n,4,none⟩ e):=
 ((((h.setCell hn _).setCell hn _).setCell hn _).setCell hn _).setCell hn _
theorem PsS.set {a b1 c d e:Value} (h:PsS w V b ao bw off cap L s #[a,b1,c,d,e]) (hbw:0 < L.length→bw < w.heap.size):
  PsS w (((((V.setCell ⟨w.heap.size+1,0,none⟩ a').setCell ⟨w.heap.size+1,1,none⟩ b').setCell ⟨w.heap.size+1,2,none⟩ c').setCell ⟨w.heap.size+1,3,none⟩ d').setCell ⟨w.heap.size+1,4,none⟩ e') b ao bw off cap L s #[a',b',c',d',e']:=by
 have h1:=h.l1
 refine⟨RwI.keep h.rd (st_kept (by omega)) (fun h0=>st_kept (by have:=hbw h0;omega)),(st_kept (by omega)).trans h.res,st_five h.prt,turned_set5 h.t (.inr (by omega)),h1⟩
theorem PsS.move (h:PsS w V b ao bw off cap L s x) (hs:s'.1≤L.length):PsS w ((V.setCell ⟨b,1,none⟩ (.int .i64 (s'.1:Nat))).setCell ⟨b,2,none⟩ (.int .i64 s'.2)) b ao bw off cap L s' x:=by
 have h1:=h.l1
 have hr:=rd_set2 (e':=s'.2) (rd_set1 (c':=s'.1) h.rd.rd)
 refine⟨⟨hr,h.rd.ws.same (fun h0=>?_),h.rd.ne,hs,h.rd.len⟩,?_,?_,(h.t.setCell (.inl (by simp)) _).setCell (.inl (by simp)) _,h1⟩
 ·exact (Below.heap_setCell _ _ _ _ (h.rd.ne h0)).trans (Below.heap_setCell _ _ _ _ (h.rd.ne h0))
 ·exact ((Below.heap_setCell _ _ _ _ (by show w.heap.size≠b;omega)).trans (Below.heap_setCell _ _ _ _ (by show w.heap.size≠b;omega))).trans h.res
 ·exact ((Below.heap_setCell _ _ _ _ (by show w.heap.size+1≠b;omega)).trans (Below.heap_setCell _ _ _ _ (by show w.heap.size+1≠b;omega))).trans h.prt
end
theorem st_res0 {fn:Func} {p:Tmp} (hf:fn.results= #[.cell p 26]) {tmps:Array Value} {w:World} {B:Nat} {a b c d e:Value} (hp:tmps.getD p undef= .pointer (some ⟨B,0,none⟩)) (h:w.heap[B]?=some (.cells #[a,b,c,d,e] 26 (0,0))):
  (results fn tmps).run Tryz.prog w= .ok (.agg #[a,b,c,d,e]) w:=by
 obtain⟨c0,c1,c2,c3,c4⟩:=st_cells h
 rw [results_one hf,hp]
 simp [loadVar,go_sem,c0,c1,c2,c3,c4]
theorem part_endS {w V W4:World} {b:Nat} {ao:Option Addr} {bw off cap:Nat} {L:List Wd} {s:Rd} {S:Stp} {ag:Option Addr} {ng bg og cg:Nat} {al:Option Addr} {nl bl ol cl:Nat} {ap:Option Addr} {np bp op cp:Nat} (h:PsS w W4 b ao bw off cap L s #[.int .i64 S.1, .int .i64 S.2.1, .slice ag ng cg, .slice al nl cl, .slice ap np cp]) (hbw:0 < L.length→bw < w.heap.size) {base:Nat} (hrow:SKept base V S ag bg og al bl ol ap bp op) (hs:∀k,base≤k→k < V.heap.size→W4.heap[k]?=V.heap[k]?) (hsz:V.heap.size≤W4.heap.size) (hbase:w.heap.size < base):
  (((((W4.setCell ⟨w.heap.size,0,none⟩ (.int .i64 S.1)).setCell ⟨w.heap.size,1,none⟩ (.int .i64 S.2.1)).setCell ⟨w.heap.size,2,none⟩ (.slice ag ng cg)).setCell ⟨w.heap.size,3,none⟩ (.slice al nl cl)).setCell ⟨w.heap.size,4,none⟩ (.slice ap np cp)).heap[w.heap.size]?=some (.cells #[.int .i64 S.1, .int .i64 S.2.1, .slice ag ng cg, .slice al nl cl, .slice ap np cp] 26 (0,0))∧
  SKept (w.heap.size+1) (((((W4.setCell ⟨w.heap.size,0,none⟩ (.int .i64 S.1)).setCell ⟨w.heap.size,1,none⟩ (.int .i64 S.2.1)).setCell ⟨w.heap.size,2,none⟩ (.slice ag ng cg)).setCell ⟨w.heap.size,3,none⟩ (.slice al nl cl)).setCell ⟨w.heap.size,4,none⟩ (.slice ap np cp)) S ag bg og al bl ol ap bp op∧RwP b ao bw off cap L s w (((((W4.setCell ⟨w.heap.size,0,none⟩ (.int .i64 S.1)).setCell ⟨w.heap.size,1,none⟩ (.int .i64 S.2.1)).setCell ⟨w.heap.size,2,none⟩ (.slice ag ng cg)).setCell ⟨w.heap.size,3,none⟩ (.slice al nl cl)).setCell ⟨w.heap.size,4,none⟩ (.slice ap np cp)):=by
 have h1:=h.l1
 refine⟨st_five h.res,?_,RwI.keep h.rd (st_kept (by omega)) (fun h0=>st_kept (by have:=hbw h0;omega)),turned_set5 h.t (.inr (Nat.le_refl _))⟩
 intro U hU
 refine hrow U fun k hk hl=>?_
 rw [hU k (by omega) (by simp only [World.size_setCell];omega)]
 exact (st_kept (by omega)).trans (hs k hk hl)
theorem spart_any {w:World} {b:Nat} {ao:Option Addr} {bw off cap:Nat} {L:List Wd} {c:Nat} (h:RdI w b ao bw off cap L c 0) (hL:Clean L) {S:Stp} {k:Nat} {er:Int} (hR:parseS L c=(S,(k:Int),er)) (hk:k≤L.length):
  Calls Tryz.prog 28 #[.pointer (some ⟨b,0,none⟩), .func (.func 29) #[] #[]] w (fun r w'=>∃(ag:Option Addr) (bg og cg:Nat) (al:Option Addr) (bl ol cl:Nat) (ap:Option Addr) (bp op cp:Nat),r= .returned (.agg (stC S.1 S.2.1 ag S.2.2.1.length cg al S.2.2.2.1.length cl ap S.2.2.2.2.length cp))∧SKept (w.heap.size+1) w' S ag bg og al bl ol ap bp op∧RwP b ao bw off cap L (k,er) w w'):=by
 have HP:=xhd (fun V (hV:WArg V ao bw off L)=>psparse_kept ao bw off cap L c V hV h.len hL)
 have HBW:=xhd (fun h0=>(h.ws.at_ h0).2)
 have HKL:=xhd hk
 obtain⟨n,hn⟩:∃n,L.length=n:=⟨_,rfl⟩
 have HN:=xhd hn
 have HI:=xhd (PsS.start (s:=(c,0)) h)
 have hw0:∃W0,(w.alloc zeroS).alloc zeroS=W0:=⟨_,rfl⟩
 have HW0:=xhd hw0
 unfold ParseSK at HP
 simp only [hn,hR] at HP
 obtain⟨ng,hng⟩:∃n,S.2.2.1.length=n:=⟨_,rfl⟩
 obtain⟨nl,hnl⟩:∃n,S.2.2.2.1.length=n:=⟨_,rfl⟩
 obtain⟨np,hnp⟩:∃n,S.2.2.2.2.length=n:=⟨_,rfl⟩
 simp only [hng,hnl,hnp] at HP ⊢
 clear hw0 h hL hn hR hk hng hnl hnp
 go_enter Tryz.func28,Tryz.ntmps28
 go_wp2_with fail
 obtain⟨W0,hW0⟩:=HW0.out
 rw [hW0] at HI
 simp only [hW0]
 clear hW0 HW0
 with_reducible refine (goes_live HI.out.rd.rd).mono ?_
 rintro r w1 ⟨rfl,rfl⟩
 obtain⟨d0,d1,d2⟩:=three_cells HI.out.rd.rd
 simp only [HN.out] at d0 d1
 go_wp2_with fail
 go_region_with ((go_at_call 29
                  refine (HP.out _ (HI.out.below (Below.refl _ _).drew).rd.ws).mono ?_
                  rintro r w3 ⟨ag,bg,og,cg,al,bl,ol,cl,ap,bp,op,cp,rfl,hrow,hb⟩
                  have HI3:=xhd (HI.out.below ((Below.refl _ _).drew.trans hb))
                  have HROW:=xhd hrow
                  obtain⟨e0,e1,e2⟩:=three_cells HI3.out.rd.rd
                  have fe1:=not_frozen HI3.out.rd.rd 1
                  have fe2:=not_frozen HI3.out.rd.rd 2
                  obtain⟨q0,q1,q2,q3,q4⟩:=st_cells HI3.out.prt
                  have fq0:=not_frozen HI3.out.prt 0
                  have fq1:=not_frozen HI3.out.prt 1
                  have fq2:=not_frozen HI3.out.prt 2
                  have fq3:=not_frozen HI3.out.prt 3
                  have fq4:=not_frozen HI3.out.prt 4
                  have ne1:w.heap.size+1≠b:=by have:=HI.out.l1;omega
                  have ne2:b≠w.heap.size+1:=by have:=HI.out.l1;omega
                  clear hrow hb))
 all_goals
  have HI4:=xhd ((HI3.out.set (a':= .int .i64 S.1) (b':= .int .i64 S.2.1) (c':= .slice ag ng cg) (d':= .slice al nl cl) (e':= .slice ap np cp) HBW.out).move (s':=(k,er)) HKL.out)
  have HS4:=xhd (fun j (hj:w.heap.size+2≤j)=>(by
   have h1:=HI.out.l1
   exact (Below.heap_setCell _ _ _ _ (by show j≠b;omega)).trans ((Below.heap_setCell _ _ _ _ (by show j≠b;omega)).trans (st_kept (by omega))):
   (((((((w3.setCell ⟨w.heap.size+1,0,none⟩ (.int .i64 S.1)).setCell ⟨w.heap.size+1,1,none⟩ (.int .i64 S.2.1)).setCell ⟨w.heap.size+1,2,none⟩ (.slice ag ng cg)).setCell ⟨w.heap.size+1,3,none⟩ (.slice al nl cl)).setCell ⟨w.heap.size+1,4,none⟩ (.slice ap np cp)).setCell ⟨b,1,none⟩ (.int .i64 k)).setCell ⟨b,2,none⟩ (.int .i64 er)).heap[j]?=w3.heap[j]?))
  have HZ4:Hid (w3.heap.size≤(((((((w3.setCell ⟨w.heap.size+1,0,none⟩ (.int .i64 S.1)).setCell ⟨w.heap.size+1,1,none⟩ (.int .i64 S.2.1)).setCell ⟨w.heap.size+1,2,none⟩ (.slice ag ng cg)).setCell ⟨w.heap.size+1,3,none⟩ (.slice al nl cl)).setCell ⟨w.heap.size+1,4,none⟩ (.slice ap np cp)).setCell ⟨b,1,none⟩ (.int .i64 k)).setCell ⟨b,2,none⟩ (.int .i64 er)).heap.size):=xhd (by simp only [World.size_setCell];exact Nat.le_refl _)
  simp only at HI4
  obtain⟨W4,hW4⟩:∃W4,(((((((w3.setCell ⟨w.heap.size+1,0,none⟩ (.int .i64 S.1)).setCell ⟨w.heap.size+1,1,none⟩ (.int .i64 S.2.1)).setCell ⟨w.heap.size+1,2,none⟩ (.slice ag ng cg)).setCell ⟨w.heap.size+1,3,none⟩ (.slice al nl cl)).setCell ⟨w.heap.size+1,4,none⟩ (.slice ap np cp)).setCell ⟨b,1,none⟩ (.int .i64 k)).setCell ⟨b,2,none⟩ (.int .i64 er))=W4:=⟨_,rfl⟩
  rw [hW4] at HI4 HS4 HZ4 ⊢
  clear hW4 d0 d1 d2 e0 e1 e2 fe1 fe2 q0 q1 q2 q3 q4 fq0 fq1 fq2 fq3 fq4 ne1 ne2
  obtain⟨q0,q1,q2,q3,q4⟩:=st_cells HI4.out.prt
  obtain⟨z0,z1,z2,z3,z4⟩:=st_cells HI4.out.res
  have fz0:=not_frozen HI4.out.res 0
  have fz1:=not_frozen HI4.out.res 1
  have fz2:=not_frozen HI4.out.res 2
  have fz3:=not_frozen HI4.out.res 3
  have fz4:=not_frozen HI4.out.res 4
  have ne1:w.heap.size≠w.heap.size+1:=by omega
  have HFIN:=xhd (part_endS HI4.out HBW.out HROW.out (fun j hj _=>HS4.out j (by have:=lt_of_block HI.out.prt;simp at hj;omega)) HZ4.out (by have:=lt_of_block HI.out.prt;simp;omega))
  go_wp2
  refine bodyPost_ret (st_res0 rfl rfl HFIN.out.1) rfl ?_
  exact⟨ag,bg,og,cg,al,bl,ol,cl,ap,bp,op,cp,rfl,HFIN.out.2⟩
def PartA (R:List Ac) (s':Rd) (w:World) (b:Nat) (ao:Option Addr) (bw off cap:Nat) (L:List Wd) (r:Ending) (w':World):Prop:=
 ∃v,r= .returned v∧ARow w.heap.size w' v R∧RwP b ao bw off cap L s' w w'
theorem moveR {w V:World} {b:Nat} {ao:Option Addr} {bw off cap:Nat} {L:List Wd} {s:Rd} (h:RwI V b ao bw off cap L s) {k:Nat} {er:Int} (hk:k≤L.length) (t:Turned [b] w V):RwP b ao bw off cap L (k,er) w ((V.setCell ⟨b,1,none⟩ (.int .i64 k)).setCell ⟨b,2,none⟩ (.int .i64 er)):=by
 have hr:=rd_set2 (e':=er) (rd_set1 (c':=k) h.rd)
 exact⟨⟨hr,h.ws.same (fun h0=>(Below.heap_setCell _ _ _ _ (h.ne h0)).trans (Below.heap_setCell _ _ _ _ (h.ne h0))),h.ne,hk,h.len⟩,(t.setCell (.inl (by simp)) _).setCell (.inl (by simp)) _⟩
theorem apart_live {w:World} {b:Nat} {ao:Option Addr} {bw off cap:Nat} {L:List Wd} {c:Nat} (h:RdI w b ao bw off cap L c 0) (hL:Clean L) (hN9:In9 L) {R:List Ac} {k:Nat} {er:Int} (hR:parseAc L c=(R,(k:Int),er)) (hk:k≤L.length):
  Calls Tryz.prog 30 #[.pointer (some ⟨b,0,none⟩), .func (.func 31) #[] #[]] w (PartA R (k,er) w b ao bw off cap L):=by
 have HP:=xhd (fun V (hV:WArg V ao bw off L)=>aparse_any ao bw off cap L c V hV h.len hL hN9)
 have HKL:=xhd hk
 obtain⟨n,hn⟩:∃n,L.length=n:=⟨_,rfl⟩
 have HN:=xhd hn
 have HI:Hid (RwI w b ao bw off cap L (c,0)):=xhd h
 unfold ParseAP at HP
 simp only [hn,hR] at HP
 have hbs:=lt_of_block h.rd
 clear h hL hN9 hn hR hk
 go_enter Tryz.func30,Tryz.ntmps30
 go_wp2_with fail
 with_reducible refine (goes_live HI.out.rd).mono ?_
 rintro r w1 ⟨rfl,rfl⟩
 obtain⟨d0,d1,d2⟩:=three_cells HI.out.rd
 simp only [HN.out] at d0 d1
 go_wp2_with fail
 go_region_with ((go_at_call 31
                  refine (HP.out _ (RdI.below HI.out (Below.refl _ _).drew).ws).mono ?_
                  rintro r w3 ⟨v,rfl,hrow,hb⟩
                  have hb0:Below w1.heap.size w1 w3:=(Below.refl _ w1).drew.trans hb
                  have HI3:=xhd (RdI.below HI.out hb0)
                  have HT3:=xhd (turned_below hb0 [b])
                  have HROW:=xhd hrow
                  obtain⟨av,cv,hv,_⟩:=ownsRow_shape hrow
                  obtain⟨m,hm⟩:∃m,R.length=m:=⟨_,rfl⟩
                  rw [hm] at hv
                  subst hv
                  obtain⟨e0,e1,e2⟩:=three_cells HI3.out.rd
                  have fe1:=not_frozen HI3.out.rd 1
                  have fe2:=not_frozen HI3.out.rd 2
                  clear hrow hb hb0 hm))
 all_goals
  have HM:=xhd (moveR (s:=(c,0)) (k:=k) (er:=er) HI3.out HKL.out HT3.out)
  have HR4:Hid (ARow w1.heap.size ((w3.setCell ⟨b,1,none⟩ (.int .i64 k)).setCell ⟨b,2,none⟩ (.int .i64 er)) (.slice av m cv) R):=xhd (row_base (row_set (row_set HROW.out (by simpa using hbs)) (by simpa using hbs)) (by simp))
  go_wp2
  go_ret
  exact⟨_,rfl,HR4.out,HM.out⟩
theorem apart_dead {w:World} {b:Nat} {ao:Option Addr} {bw off cap:Nat} {L:List Wd} {s:Rd} (h:RwI w b ao bw off cap L s) (h0:s.2≠0):
  Calls Tryz.prog 30 #[.pointer (some ⟨b,0,none⟩), .func (.func 31) #[] #[]] w (PartA [] s w b ao bw off cap L):=by
 have HI:=xhd h
 have HGD:=xhd (goes_dead h0 h.rd)
 clear h h0
 go_enter Tryz.func30,Tryz.ntmps30
 go_wp2_with fail
 with_reducible refine HGD.out.mono ?_
 rintro r w1 ⟨rfl,rfl⟩
 go_wp2
 go_ret
 exact⟨_,rfl,World.ownsRow_nil _ _ _ _,HI.out,Turned.refl _ _⟩
end Go.Proofs.YtbnhnnccioljhaaGreatDoor
namespace Go.Proofs.YtbnhnnccioljhaaGreatDoor
open Go.RowKit
theorem SKept.same {n:Nat} {w V:World} {s:Stp} {ag:Option Addr} {bg og:Nat} {al:Option Addr} {bl ol:Nat} {ap:Option Addr} {bp op:Nat} (h:SKept n w s ag bg og al bl ol ap bp op) (hz:w.heap.size≤V.heap.size) (hs:∀k,n≤k→k < w.heap.size→V.heap[k]?=w.heap[k]?):SKept n V s ag bg og al bl ol ap bp op:=
 fun W hW=>h W fun k hk hl=>(hW k hk (by omega)).trans (hs k hk hl)
theorem SKept.below {n:Nat} {w V:World} {s:Stp} {ag:Option Addr} {bg og:Nat} {al:Option Addr} {bl ol:Nat} {ap:Option Addr} {bp op:Nat} (h:SKept n w s ag bg og al bl ol ap bp op) (hb:Below w.heap.size w V):SKept n V s ag bg og al bl ol ap bp op:=
 h.same hb.size fun k _ hl=>hb.block k hl
structure ScI (w V:World) (b B:Nat) (ao:Option Addr) (bw off cap:Nat) (L:List Wd) (s:Rd) (x:Array Value):Prop where
 rd:RwI V b ao bw off cap L s
 res:V.heap[w.heap.size]?=some (.cells zeroSc 29 (0,0))
 box:V.heap[B]?=some (.cells x 29 (0,0))
 bel:Below w.heap.size w V
 lb:w.heap.size < b
 lB:b < B
 bwl:0 < L.length→bw < b∧w.heap.size < bw
section
variable {w V V':World} {b B:Nat} {ao:Option Addr} {bw off cap:Nat} {L:List Wd} {s s':Rd} {x:Array Value} {a1 b1 c1 d1 e1 f1 a' b' c' d' e' f':Value}
theorem ScI.below (h:ScI w V b B ao bw off cap L s x) (hb:Below V.heap.size V V'):ScI w V' b B ao bw off cap L s x:=
 ⟨RdI.below h.rd hb,(hb.block _ (lt_of_block h.res)).trans h.res,(hb.block _ (lt_of_block h.box)).trans h.box,h.bel.trans (hb.mono h.bel.size),h.lb,h.lB,h.bwl⟩
theorem ScI.read (h:ScI w V b B ao bw off cap L s x) (m:RwP b ao bw off cap L s' V V'):ScI w V' b B ao bw off cap L s' x:=by
 obtain⟨m1,m2⟩:=m
 have h1:=h.lb
 have h2:=h.lB
 exact⟨m1,m2.same h.res (by simp;omega),m2.same h.box (by simp;omega),h.bel.trans (m2.below (by simp;omega) h.bel.size),h1,h2,h.bwl⟩
theorem ScI.set5 (h:ScI w V b B ao bw off cap L s #[a1,b1,c1,d1,e1,f1]):
  ScI w (((((V.setCell ⟨B,0,none⟩ a').setCell ⟨B,1,none⟩ b').setCell ⟨B,2,none⟩ c').setCell ⟨B,3,none⟩ d').setCell ⟨B,4,none⟩ e') b B ao bw off cap L s #[a',b',c',d',e',f1]:=by
 have h1:=h.lb
 have h2:=h.lB
 exact⟨RwI.keep h.rd (st_kept (by omega)) (fun h0=>st_kept (by have:=h.bwl h0;omega)),(st_kept (by omega)).trans h.res,st_five6 h.box,((((h.bel.setCell (by show w.heap.size≤B;omega) _).setCell (by show w.heap.size≤B;omega) _).setCell (by show w.heap.size≤B;omega) _).setCell (by show w.heap.size≤B;omega) _).setCell (by show w.heap.size≤B;omega) _,h1,h2,h.bwl⟩
theorem ScI.set1 (h:ScI w V b B ao bw off cap L s #[a1,b1,c1,d1,e1,f1]):
  ScI w (V.setCell ⟨B,5,none⟩ f') b B ao bw off cap L s #[a1,b1,c1,d1,e1,f']:=by
 have h1:=h.lb
 have h2:=h.lB
 have hk:∀k,k≠B→(V.setCell ⟨B,5,none⟩ f').heap[k]?=V.heap[k]?:=fun k hk=>Below.heap_setCell _ _ _ _ hk
 refine⟨RwI.keep h.rd (hk _ (by omega)) (fun h0=>hk _ (by have:=h.bwl h0;omega)),(hk _ (by omega)).trans h.res,?_,h.bel.setCell (by show w.heap.size≤B;omega) _,h1,h2,h.bwl⟩
 rw [heap_setCell_same _ _ _ _ _ _ h.box]
 rfl
end
def partAc (L:List Wd) (s:Rd):List Ac×Rd:=if s.2=0 then ((parseAc L s.1).1,((parseAc L s.1).2.1.toNat,(parseAc L s.1).2.2)) else ([],s)
theorem apart_any {w:World} {b:Nat} {ao:Option Addr} {bw off cap:Nat} {L:List Wd} {s:Rd} (h:RwI w b ao bw off cap L s) (hL:Clean L) (hN:In9 L):
  Calls Tryz.prog 30 #[.pointer (some ⟨b,0,none⟩), .func (.func 31) #[] #[]] w (PartA (partAc L s).1 (partAc L s).2 w b ao bw off cap L):=by
 unfold partAc
 by_cases h0:s.2=0
 ·rw [if_pos h0]
  obtain⟨c,e⟩:=s
  simp only at h0
  subst h0
  obtain⟨k,hk,hl⟩:=parseAc_place (L:=L) (a:=c) h.le
  exact apart_live h hL hN (by rw [hk,Int.toNat_natCast, ←hk]) (by rw [hk,Int.toNat_natCast];exact hl)
 ·rw [if_neg h0]
  exact apart_dead h h0
theorem parsesc_ok {t:List By} {L:List Wd} {p:Int} (hs:scanA t=(L,p,0)) {S:Stp} {k:Nat} {er:Int} (h1:parseS L 0=(S,(k:Int),er)) {R:List Ac} {k2:Nat} {e2:Int} (h2:partAc L (k,er)=(R,(k2,e2))):
  (e2≠0→parseSc t=(noneSc,placeSc t L k2,e2))∧(e2=0→parseSc t=((S,R),0,0)):=by
 have h3:parseSc t=if er≠0 then (noneSc,placeSc t L k,er) else if (parseAc L k).2.2≠0 then (noneSc,placeSc t L (parseAc L k).2.1,(parseAc L k).2.2) else ((S,(parseAc L k).1),0,0):=by
  unfold parseSc
  simp only [hs,h1]
  rw [if_neg (by simp)]
  rfl
 unfold partAc at h2
 simp only at h2
 by_cases he:er=0
 ·rw [if_pos he] at h2
  rw [if_neg (by simpa using he)] at h3
  injection h2 with h4 h5
  injection h5 with h6 h7
  have hp:(parseAc L k).2.2≠0→placeSc t L (parseAc L k).2.1=placeSc t L k2:=fun _=>by
   unfold placeSc
   rw [h6,Int.toNat_natCast]
  rw [h7,h4] at h3
  rw [h7] at hp
  constructor
  ·intro h
   rw [h3,if_pos h,hp h]
  ·intro h
   rw [h3,if_neg (by simpa using h)]
 ·rw [if_neg he] at h2
  rw [if_pos he] at h3
  injection h2 with h4 h5
  injection h5 with h6 h7
  subst h6 h7
  exact⟨fun _=>h3,fun h=>absurd h he⟩
theorem parsesc_bad {t:List By} (h:(scanA t).2.2≠0):parseSc t=(noneSc,(scanA t).2.1,(scanA t).2.2):=by
 unfold parseSc
 simp only
 rw [if_pos h]
 rfl
theorem scparse_any (s:ByteArray) (w:World):Calls Tryz.prog 11 #[.string s] w (ParseScP (parseSc s.data.toList) w):=by
 have HSC:=xhd (scan_any s (w.alloc (.cells zeroSc 29)))
 unfold ScanPost at HSC
 have HZ:=xhd (heap_alloc_new w (.cells zeroSc 29))
 have HBA:=xhd ((Below.refl _ w).alloc (Nat.le_refl _) (.cells zeroSc 29))
 have hbad:=fun h=>parsesc_bad (t:=s.data.toList) h
 have hok:=fun L p h=> @parsesc_ok s.data.toList L p h
 have hcl:=scana_clean s.data.toList
 have hn9:=scana_in9 s.data.toList
 have hln:(scanA s.data.toList).2.2=0→(scanA s.data.toList).1.length≤100000:=fun h=>by
  by_cases hl:s.data.toList.length≤8000
  ·have:=scan_len _ hl
   omega
  ·unfold scanA at h
   rw [if_pos (by omega)] at h
   cases h
 have HPB:=xhd (fun ao b off cap L k W h=>byteof_any s ao b off cap L k W h)
 obtain⟨⟨L,p,e⟩,hS⟩:∃R,scanA s.data.toList=R:=⟨_,rfl⟩
 rw [hS] at HSC hbad hcl hn9 hln
 simp only at HSC hbad hcl hn9 hln
 obtain⟨R,hR⟩:∃R,parseSc s.data.toList=R:=⟨_,rfl⟩
 obtain⟨t,ht⟩:∃t,s.data.toList=t:=⟨_,rfl⟩
 rw [hR] at hbad ⊢
 rw [hR,ht] at hok
 rw [ht] at hS HPB
 clear hR ht
 go_enter Tryz.func11,Tryz.ntmps11
 go_wp2_with fail
 with_reducible refine HSC.out.mono ?_
 rintro r w1 ⟨v,rfl,hr,hb⟩
 have HZ1:=xhd ((hb.block _ (lt_of_block HZ.out)).trans HZ.out)
 have HB1:=xhd (HBA.out.trans (hb.mono HBA.out.size))
 by_cases he:e=0
 ·subst he
  have hln:=hln rfl
  obtain⟨ao,bw,cap,rfl,hwa⟩:=WArg.of_row hr
  have hbw:0 < L.length→w.heap.size < bw:=fun h0=>by
   have h1:=(hwa.at_ h0).1
   subst h1
   have h2:=(hr.lt bw (by simp [Value.ownBlock])).1
   simp at h2
   omega
  obtain⟨k,hk,hkl⟩:=parseS_place (L:=L) (a:=0) (Nat.zero_le _)
  obtain⟨⟨S,k',er⟩,hP⟩:∃P,parseS L 0=P:=⟨_,rfl⟩
  have hP0:parseS L ((0:Nat):Int)=(S,k',er):=hP
  rw [hP0] at hk
  simp only at hk
  subst hk
  obtain⟨⟨RA,k2,e2⟩,hA⟩:∃P,partAc L (k,er)=P:=⟨_,rfl⟩
  have hok2:=hok L p hS hP hA
  have HOK:=xhd hok2
  have hi0:=RdI.below (aparse_start (cap:=cap) (e0:=0) hwa hln (Nat.zero_le _)) ((Below.refl _ _).alloc (Nat.le_refl _) (.cells zeroSc 29))
  have hbx:=heap_alloc_new (w1.alloc (.cells (rdC ao L.length cap 0 0) 116)) (.cells zeroSc 29)
  have hbz:Below w1.heap.size w1 ((w1.alloc (.cells (rdC ao L.length cap 0 0) 116)).alloc (.cells zeroSc 29)):=((Below.refl _ w1).alloc (Nat.le_refl _) _).alloc (by simp) _
  have hsi:ScI w ((w1.alloc (.cells (rdC ao L.length cap 0 0) 116)).alloc (.cells zeroSc 29)) w1.heap.size (w1.alloc (.cells (rdC ao L.length cap 0 0) 116)).heap.size ao bw 0 cap L (0,0) zeroSc:=
   ⟨hi0,(hbz.block _ (lt_of_block HZ1.out)).trans HZ1.out,hbx,HB1.out.trans (hbz.mono HB1.out.size),lt_of_block HZ1.out,by rw [World.size_alloc];exact Nat.lt_succ_self _,fun h0=>⟨(hwa.at_ h0).2,hbw h0⟩⟩
  have hpr:=pread_in ao L.length cap 0 w1 (Nat.zero_le _)
  have hsp:=fun V (hV:RdI V w1.heap.size ao bw 0 cap L 0 0)=>spart_any hV hcl hP0 hkl
  have hap:=fun V s (hV:RwI V w1.heap.size ao bw 0 cap L s)=>apart_any hV hcl hn9
  have HAP:Hid (∀V,RwI V w1.heap.size ao bw 0 cap L (k,er)→Calls Tryz.prog 30 #[.pointer (some ⟨w1.heap.size,0,none⟩), .func (.func 31) #[] #[]] V (PartA RA (k2,e2) V w1.heap.size ao bw 0 cap L)):=xhd (fun V hV=>by
   have h:=hap V _ hV
   rw [hA] at h
   exact h)
  obtain⟨c,g,gs,ls,ps⟩:=S
  simp only at hsp
  obtain⟨ng,hng⟩:∃n,gs.length=n:=⟨_,rfl⟩
  obtain⟨nl,hnl⟩:∃n,ls.length=n:=⟨_,rfl⟩
  obtain⟨np,hnp⟩:∃n,ps.length=n:=⟨_,rfl⟩
  obtain⟨nw,hnw⟩:∃n,L.length=n:=⟨_,rfl⟩
  simp only [hng,hnl,hnp] at hsp
  have HNG:=xhd hng
  have HNL:=xhd hnl
  have HNP:=xhd hnp
  have HSP:=xhd hsp
  have HSI:=xhd hsi
  simp only [hnw] at hpr HSI ⊢
  rw [show ((0:Nat):Int)=0 from rfl] at hpr
  have HPR:=xhd hpr
  have HNW:=xhd hnw
  clear hr hb hwa hbw hP hP0 hok hok2 hA hi0 hbx hbz hsi hpr hsp hap hng hnl hnp hnw hcl hn9 hln hS hbad hkl
  go_wp2_with fail
  with_reducible refine HPR.out.mono ?_
  rintro r w2 ⟨rfl,hw2⟩
  rw [←hw2] at HSI
  clear hw2
  have hvl:=lt_of_block HSI.out.box
  go_wp2_with fail
  refine (HSP.out _ HSI.out.rd).mono ?_
  rintro r w4 ⟨ag,bg,og,cg,al,bl,ol,cl,ap,bp,op,cp,rfl,hsk,hm⟩
  have HSI4:=xhd (HSI.out.read hm)
  have HSK4:=xhd hsk
  obtain⟨x0,x1,x2,x3,x4,x5⟩:=six_cells HSI4.out.box
  have fx0:=not_frozen HSI4.out.box 0
  have fx1:=not_frozen HSI4.out.box 1
  have fx2:=not_frozen HSI4.out.box 2
  have fx3:=not_frozen HSI4.out.box 3
  have fx4:=not_frozen HSI4.out.box 4
  have HSI5':=xhd (HSI4.out.set5 (a':= .int .i64 c) (b':= .int .i64 g) (c':= .slice ag ng cg) (d':= .slice al nl cl) (e':= .slice ap np cp))
  have HSK5':=xhd (HSK4.out.same (V:=(((((w4.setCell ⟨w2.heap.size,0,none⟩ (.int .i64 c)).setCell ⟨w2.heap.size,1,none⟩ (.int .i64 g)).setCell ⟨w2.heap.size,2,none⟩ (.slice ag ng cg)).setCell ⟨w2.heap.size,3,none⟩ (.slice al nl cl)).setCell ⟨w2.heap.size,4,none⟩ (.slice ap np cp))) (by simp only [World.size_setCell];exact Nat.le_refl _) (fun k hk _=>st_kept (by omega)))
  have HW5:Hid (∃W5,(((((w4.setCell ⟨w2.heap.size,0,none⟩ (.int .i64 c)).setCell ⟨w2.heap.size,1,none⟩ (.int .i64 g)).setCell ⟨w2.heap.size,2,none⟩ (.slice ag ng cg)).setCell ⟨w2.heap.size,3,none⟩ (.slice al nl cl)).setCell ⟨w2.heap.size,4,none⟩ (.slice ap np cp))=W5):=⟨_,rfl⟩
  clear hm hsk
  go_wp2_with fail
  obtain⟨W5,hW5⟩:=HW5.out
  rw [hW5] at HSI5' HSK5'
  rw [hW5]
  have HSI5:=HSI5'
  have HSK5:=HSK5'
  clear hW5 HW5 x0 x1 x2 x3 x4 x5 fx0 fx1 fx2 fx3 fx4
  refine (HAP.out _ HSI5.out.rd).mono ?_
  rintro r w6 ⟨va,rfl,hra,hm⟩
  have HSI6:=xhd (HSI5.out.read hm)
  obtain⟨aa,ca,hv,_⟩:=ownsRow_shape hra
  obtain⟨na,hna⟩:∃n,RA.length=n:=⟨_,rfl⟩
  rw [hna] at hv
  subst hv
  have HNA:=xhd hna
  have hlb:=HSI.out.lB
  have hs5:=lt_of_block HSI5.out.box
  have HSK6:=xhd (HSK5.out.same (V:=w6) hm.2.size (fun k hk hl=>hm.2.block k hl (by simp;omega)))
  obtain⟨x0,x1,x2,x3,x4,x5⟩:=six_cells HSI6.out.box
  have fx5:=not_frozen HSI6.out.box 5
  have HSI7':=xhd (HSI6.out.set1 (f':= .slice aa na ca))
  have HSK7':=xhd (HSK6.out.same (V:=w6.setCell ⟨w2.heap.size,5,none⟩ (.slice aa na ca)) (by simp only [World.size_setCell];exact Nat.le_refl _) (fun k hk _=>Below.heap_setCell _ _ _ _ (by show k≠w2.heap.size;omega)))
  have HRA7':Hid (ARow (w2.heap.size+1) (w6.setCell ⟨w2.heap.size,5,none⟩ (.slice aa na ca)) (.slice aa na ca) RA):=xhd (row_set (row_base hra (by omega)) (by omega))
  have HW7:Hid (∃W7,w6.setCell ⟨w2.heap.size,5,none⟩ (.slice aa na ca)=W7):=⟨_,rfl⟩
  clear hm hra hna
  go_wp2_with fail
  obtain⟨W7,hW7⟩:=HW7.out
  rw [hW7] at HSI7' HSK7' HRA7'
  rw [hW7]
  have HSI7:=HSI7'
  have HSK7:=HSK7'
  have HRA7:=HRA7'
  clear hW7 HW7 x0 x1 x2 x3 x4 x5 fx5
  with_reducible refine (met_any HSI7.out.rd.rd).mono ?_
  rintro r w8 ⟨rfl,q,hq⟩
  have hb8:Below W7.heap.size W7 w8:=by
   rw [hq]
   exact below_drewN (Below.refl _ _) q
  have HSI8:=xhd (HSI7.out.below hb8)
  have HSK8:=xhd (HSK7.out.below hb8)
  have HRA8:=xhd (row_below HRA7.out hb8)
  clear hq hb8
  have ne1:w.heap.size≠w2.heap.size:=by have:=HSI.out.lb;omega
  have HLB:=xhd HSI.out.lb
  obtain⟨z0,z1,z2,z3,z4,z5⟩:=six_cells HSI8.out.res
  have fz0:=not_frozen HSI8.out.res 0
  have fz1:=not_frozen HSI8.out.res 1
  have fz2:=not_frozen HSI8.out.res 2
  have fz3:=not_frozen HSI8.out.res 3
  have fz4:=not_frozen HSI8.out.res 4
  have fz5:=not_frozen HSI8.out.res 5
  by_cases he2:e2=0
  ·have HRR:=xhd (HOK.out.2 he2)
   have he1:(e2 != 0)=false:=by simpa using he2
   obtain⟨x0,x1,x2,x3,x4,x5⟩:=six_cells HSI8.out.box
   have HFI:=xhd (sc_stored (a:= .int .i64 c) (b:= .int .i64 g) (c:= .slice ag ng cg) (d:= .slice al nl cl) (e:= .slice ap np cp) (f:= .slice aa na ca) HSI8.out.res HSI8.out.bel)
   clear he2
   go_wp2
   refine bodyPost_ret (sc_res rfl rfl rfl rfl HFI.out.1) rfl ?_
   rw [HRR.out]
   obtain⟨aa',ba,ca',e1,h1⟩:=AArg.of_row (ownsRow_same (w':=((((((w8.setCell ⟨w.heap.size,0,none⟩ (.int .i64 c)).setCell ⟨w.heap.size,1,none⟩ (.int .i64 g)).setCell ⟨w.heap.size,2,none⟩ (.slice ag ng cg)).setCell ⟨w.heap.size,3,none⟩ (.slice al nl cl)).setCell ⟨w.heap.size,4,none⟩ (.slice ap np cp)).setCell ⟨w.heap.size,5,none⟩ (.slice aa na ca))) HRA8.out (fun k hk _=>sc_kept (by have:=(HRA8.out.lt k (by simpa using hk)).1;have:=HLB.out;omega)))
   injection e1 with e1 _ e3
   subst e1 e3
   refine⟨⟨ag,bg,og,cg,al,bl,ol,cl,ap,bp,op,cp,aa,ba,0,ca⟩,?_,⟨HSK8.out _ (fun k hk _=>sc_kept (by have:=HLB.out;omega)),h1⟩,HFI.out.2⟩
   show Ending.returned (.tuple #[.agg #[.int .i64 c, .int .i64 g, .slice ag ng cg, .slice al nl cl, .slice ap np cp, .slice aa na ca], .int .i64 0, .int .i64 0])=_
   simp only [scP,HNG.out,HNL.out,HNP.out,HNA.out]
  ·have HRR:=xhd (HOK.out.1 he2)
   have he1:(e2 != 0)=true:=by simpa using he2
   have hbo:=HPB.out ao bw 0 cap L k2 w8 HSI8.out.rd.ws
   rw [HNW.out] at hbo
   have HBO:=xhd hbo
   have HFI:=xhd (sc_stored (a:= .int .i64 0) (b:= .int .i64 0) (c:= .slice none 0 0) (d:= .slice none 0 0) (e:= .slice none 0 0) (f:= .slice none 0 0) HSI8.out.res HSI8.out.bel)
   clear he2 hbo
   go_wp2_with fail
   with_reducible refine HBO.out.mono ?_
   rintro r w9 ⟨rfl,rfl⟩
   go_wp2
   refine bodyPost_ret (sc_res rfl rfl rfl rfl HFI.out.1) rfl ?_
   exact parse_badSc HRR.out HFI.out.2
 ·have HRR:=xhd (hbad he)
  have he1:(e != 0)=true:=by simpa using he
  obtain⟨av,cv,hv,_⟩:=ownsRow_shape hr
  subst hv
  obtain⟨z0,z1,z2,z3,z4,z5⟩:=six_cells HZ1.out
  have fz0:=not_frozen HZ1.out 0
  have fz1:=not_frozen HZ1.out 1
  have fz2:=not_frozen HZ1.out 2
  have fz3:=not_frozen HZ1.out 3
  have fz4:=not_frozen HZ1.out 4
  have fz5:=not_frozen HZ1.out 5
  have HST:=xhd (sc_stored (a:= .int .i64 0) (b:= .int .i64 0) (c:= .slice none 0 0) (d:= .slice none 0 0) (e:= .slice none 0 0) (f:= .slice none 0 0) HZ1.out HB1.out)
  clear hr hb he hbad hok hcl hn9 hln hS
  go_wp2
  refine bodyPost_ret (sc_res rfl rfl rfl rfl HST.out.1) rfl ?_
  exact parse_badSc HRR.out HST.out.2
end Go.Proofs.YtbnhnnccioljhaaGreatDoor
namespace Go.Proofs.YtbnhnnccioljhaaGreatDoor
open Go.RowKit
theorem scmay_is (x:Scr):scMay x=(mayS x.1&&actsMay x.2):=rfl
theorem scmay_any (x:Scr) (p:Pl) (w:World) (h:ScArg w x p) (hm:x.2.length≤100000):
  Calls Tryz.prog 10 #[.agg (scP x p)] w fun e w'=>e= .returned (.bool (scMay x))∧Below w.heap.size w w':=by
 have HX:=xhd (heap_alloc_new w (.cells (scP x p) 29))
 have HBX:=xhd ((Below.refl _ w).alloc (Nat.le_refl _) (.cells (scP x p) 29))
 have hs:=psmay_any x.1 p.ag p.bg p.og p.cg p.al p.bl p.ol p.cl p.ap p.bp p.op p.cp _ (h.s.below HBX.out)
 have ha:=fun W (hW:Below w.heap.size w W)=>amay_all p.aa p.ba p.oa p.ca x.2 W (h.a.below hW) hm
 rw [scmay_is]
 obtain⟨⟨c,g,gs,ls,ps⟩,acs⟩:=x
 simp only at hs ha HX HBX ⊢
 obtain⟨ng,hng⟩:∃n,gs.length=n:=⟨_,rfl⟩
 obtain⟨nl,hnl⟩:∃n,ls.length=n:=⟨_,rfl⟩
 obtain⟨np,hnp⟩:∃n,ps.length=n:=⟨_,rfl⟩
 obtain⟨na,hna⟩:∃n,acs.length=n:=⟨_,rfl⟩
 obtain⟨ms,hms⟩:∃b,mayS (c,g,gs,ls,ps)=b:=⟨_,rfl⟩
 obtain⟨ma,hma⟩:∃b,actsMay acs=b:=⟨_,rfl⟩
 obtain⟨ag,bg,og,cg,al,bl,ol,cl,ap,bp,op,cp,aa,ba,oa,ca⟩:=p
 simp only [scP,hng,hnl,hnp,hna,hms,hma] at hs ha HX HBX ⊢
 have HS:=xhd hs
 have HA:=xhd ha
 clear hs ha hng hnl hnp hna hms hma h hm
 go_enter Tryz.func10,Tryz.ntmps10
 cases ms with
 |false=>
  go_wp2_with fail
  with_reducible refine HS.out.mono ?_
  rintro e w1 ⟨rfl,hb⟩
  have HB1:=xhd (HBX.out.trans (hb.mono HBX.out.size))
  clear hb
  go_wp2
  go_ret
  exact⟨rfl,HB1.out⟩
 |true=>
  go_wp2_with fail
  with_reducible refine HS.out.mono ?_
  rintro e w1 ⟨rfl,hb⟩
  have HB1:=xhd (HBX.out.trans (hb.mono HBX.out.size))
  obtain⟨y0,y1,y2,y3,y4,y5⟩:=six_cells ((hb.block _ (lt_of_block HX.out)).trans HX.out)
  clear hb
  go_wp2_with fail
  with_reducible refine (HA.out _ HB1.out).mono ?_
  rintro e w2 ⟨rfl,hb⟩
  have HB2:=xhd (HB1.out.trans (hb.mono HB1.out.size))
  clear hb y0 y1 y2 y3 y4 y5
  go_wp2
  go_ret
  exact⟨rfl,HB2.out⟩
theorem lock_words (x:Lk):lnW (lockLn x)=lockW x:=by
 obtain⟨sh,a,b,c,d⟩:=x
 cases sh<;>rfl
theorem lines_words (s:Stp):(linesR s).flatMap lnW++s.2.2.2.2.flatMap wordsR=wordsS s:=by
 unfold linesR wordsS
 rw [List.flatMap_append,List.flatMap_append,List.flatMap_map,List.flatMap_map]
 rw [show (fun x=>lnW (lockLn x))=lockW from funext lock_words,show (fun x=>lnW (groupLn x))=groupW from rfl]
 rfl
theorem lnw_len {l:Ln} (h:l.2.length≤4):(lnW l).length≤10∧0 < (lnW l).length:=by
 have:∀M:List Vn,(M.flatMap valW).length≤2*M.length:=fun M=>by
  induction M with
  |nil=>exact Nat.le_refl _
  |cons x M ih=>
   have:=valW_len x
   simp only [List.flatMap_cons,List.length_append,List.length_cons] at ih ⊢
   omega
 have h1:=this l.2
 unfold lnW
 constructor
 ·simp only [List.length_cons,List.length_append,List.length_nil]
  omega
 ·simp
theorem lines_small {s:Stp} {l:Ln} (h:l ∈ linesR s):l.2.length≤4:=by
 simp only [linesR,List.mem_append,List.mem_cons,List.not_mem_nil,or_false,List.mem_map] at h
 rcases h with ((rfl|rfl) |⟨x,_,rfl⟩) |⟨x,_,rfl⟩
 ·simp
 ·simp
 ·simp [groupLn]
 ·obtain⟨sh,_⟩:=x
  cases sh<;>simp [lockLn,lkN]
def SWordsP (s:Stp) (w:World) (e:Ending) (w':World):Prop:=if mayS s=true then ∃v,e= .returned (.tuple #[v, .int .i64 0])∧WRow w.heap.size w' v (wordsS s)∧Below w.heap.size w w' else e= .returned (.tuple #[.slice none 0 0, .int .i64 1])∧Below w.heap.size w w'
structure SwI (w w1 V:World) (v:Value) (ws:List Wd):Prop where
 row:WRow w1.heap.size V v ws
 bel:Below w1.heap.size w1 V
theorem SwI.more {w w1 V V':World} {v:Value} {ws:List Wd} (h:SwI w w1 V v ws) (hb:Below V.heap.size V V'):SwI w w1 V' v ws:=
 ⟨row_below h.row hb,h.bel.trans (hb.mono h.bel.size)⟩
theorem SwI.push {w w1 V w4:World} {v v':Value} {ws xs:List Wd} {m:Nat} (h:SwI w w1 V v ws) (hm:xs.length=m) (hown:w4.ownsRow w1.heap.size 95 4 v' (ws.length+m) (wdsC ws++wdsC xs)) (hg:V.grownBy w4 v.ownBlock):SwI w w1 w4 v' (ws++xs):=by
 have hb:Below w1.heap.size V w4:=app_below (Below.refl _ _) h.bel.size (Nat.le_refl _) h.row hg
 refine⟨?_,h.bel.trans hb⟩
 unfold WRow
 rw [List.length_append,hm,wdsC,List.flatMap_append]
 exact hown
theorem pswords_no (s:Stp) (ag:Option Addr) (bg og cg:Nat) (al:Option Addr) (bl ol cl:Nat) (ap:Option Addr) (bp op cp:Nat) (w:World) (h:SArg w s ag bg og al bl ol ap bp op) (hq:mayS s=false):
  Calls Tryz.prog 17 #[.agg (stC s.1 s.2.1 ag s.2.2.1.length cg al s.2.2.2.1.length cl ap s.2.2.2.2.length cp)] w (SWordsP s w):=by
 unfold SWordsP
 simp only [hq,Bool.false_eq_true,if_false]
 have HB0:=xhd ((Below.refl w.heap.size w).alloc (Nat.le_refl _) (.cells (stC s.1 s.2.1 ag s.2.2.1.length cg al s.2.2.2.1.length cl ap s.2.2.2.2.length cp) 26))
 have HMY:=xhd (psmay_any s ag bg og cg al bl ol cl ap bp op cp _ (h.below HB0.out))
 rw [hq] at HMY
 obtain⟨c,g,gs,ls,ps⟩:=s
 simp only at HB0 HMY ⊢
 obtain⟨np,hnp⟩:∃n,ps.length=n:=⟨_,rfl⟩
 obtain⟨nl,hnl⟩:∃n,ls.length=n:=⟨_,rfl⟩
 obtain⟨ng,hng⟩:∃n,gs.length=n:=⟨_,rfl⟩
 rw [hnp,hnl,hng] at HB0 HMY
 rw [hnp,hnl,hng]
 clear h hq hnp hnl hng
 go_enter Tryz.func17,Tryz.ntmps17
 go_wp2_with fail
 with_reducible refine HMY.out.mono ?_
 rintro r w1 ⟨rfl,hb⟩
 have HB1:=xhd (HB0.out.trans (hb.mono HB0.out.size))
 clear hb
 go_wp2
 go_ret2
 exact⟨rfl,HB1.out⟩
theorem pswords_yes (s:Stp) (ag:Option Addr) (bg og cg:Nat) (al:Option Addr) (bl ol cl:Nat) (ap:Option Addr) (bp op cp:Nat) (w:World) (h:SArg w s ag bg og al bl ol ap bp op) (hq:mayS s=true):
  Calls Tryz.prog 17 #[.agg (stC s.1 s.2.1 ag s.2.2.1.length cg al s.2.2.2.1.length cl ap s.2.2.2.2.length cp)] w (SWordsP s w):=by
 obtain⟨i0,hi0,hz0,hz1,hz2⟩:=info_parts word_info
 unfold SWordsP
 simp only [hq,if_true]
 have HB0:=xhd ((Below.refl w.heap.size w).alloc (Nat.le_refl _) (.cells (stC s.1 s.2.1 ag s.2.2.1.length cg al s.2.2.2.1.length cl ap s.2.2.2.2.length cp) 26))
 have HX0:=xhd (heap_alloc_new w (.cells (stC s.1 s.2.1 ag s.2.2.1.length cg al s.2.2.2.1.length cl ap s.2.2.2.2.length cp) 26))
 have HMY:=xhd (psmay_any s ag bg og cg al bl ol cl ap bp op cp _ (h.below HB0.out))
 rw [hq] at HMY
 have HSW:=xhd (lines_words s)
 obtain⟨LN,hLN⟩:∃L,linesR s=L:=⟨_,rfl⟩
 have HSM:Hid (∀l ∈ LN,l.2.length≤4):=xhd (fun l hl=>lines_small (s:=s) (by rw [hLN];exact hl))
 have hm:=(may_is s).symm.trans hq
 simp only [Bool.and_eq_true,inS,decide_eq_true_eq] at hm
 obtain⟨⟨m1,m2,m3⟩, -,m4⟩:=hm
 have HPM:Hid (∀p ∈ s.2.2.2.2,mayR p=true):=xhd (fun p hp=>check_may (of_decide_eq_true (List.all_eq_true.1 ((mis_all _ _ _ _).1 m4) p hp)))
 have HLL:=xhd (fun V (hV:Below w.heap.size w V)=>lines_any s ag bg og cg al bl ol cl ap bp op cp V (h.below hV) (by omega) (by omega))
 have hlnn:LN.length≤14:=by rw [←hLN];simp [linesR];omega
 rw [hLN] at HSW HLL
 have HGA:=xhd h.ps
 obtain⟨c,g,gs,ls,ps⟩:=s
 simp only at HB0 HX0 HMY HSW HPM HLL HGA m3 ⊢
 obtain⟨W,hW⟩:∃W,wordsS (c,g,gs,ls,ps)=W:=⟨_,rfl⟩
 rw [hW] at HSW ⊢
 obtain⟨np,hnp⟩:∃n,ps.length=n:=⟨_,rfl⟩
 obtain⟨nl,hnl⟩:∃n,ls.length=n:=⟨_,rfl⟩
 obtain⟨ng,hng⟩:∃n,gs.length=n:=⟨_,rfl⟩
 have HNP:=xhd hnp
 rw [hnp,hnl,hng] at HB0 HX0 HMY HLL
 rw [hnp] at m3
 rw [hnp,hnl,hng]
 have hnp8:np≤8:=by omega
 clear h hq hnp hnl hng m1 m2 m3 m4 hLN hW
 go_enter Tryz.func17,Tryz.ntmps17
 go_wp2_with fail
 with_reducible refine HMY.out.mono ?_
 rintro r w1 ⟨rfl,hb⟩
 have HB1:=xhd (HB0.out.trans (hb.mono HB0.out.size))
 have HX1:=xhd ((hb.block _ (lt_of_block HX0.out)).trans HX0.out)
 obtain⟨x0,x1,x2,x3,x4⟩:=st_cells HX1.out
 clear hb
 go_wp2_with fail
 refine (HLL.out _ HB1.out).mono ?_
 rintro r w2 ⟨lb,n,lc,rfl,hn,hla,hb⟩
 have HLA:=xhd hla
 have HN:=xhd hn
 have HB2:=xhd (HB1.out.trans (hb.mono HB1.out.size))
 have HX2:=xhd ((hb.block _ (lt_of_block HX1.out)).trans HX1.out)
 rw [←hn] at hlnn
 have HW0:Hid (SwI w w2 w2 (.slice none 0 0) []):=⟨World.ownsRow_nil _ _ _ _,Below.refl _ _⟩
 clear hn hla hb x0 x1 x2 x3 x4
 go_wp2_with fail
 go_loopw [4,17] (fun l' i' wr=>∃(i:Nat) (v:Value) (ws:List Wd),l'=v∧i'= .int .i64 (i:Nat)∧i≤n∧ws.length≤10*i∧Hid (SwI w w2 wr v ws)∧Hid (ws=(LN.take i).flatMap lnW)) (fun _ i' _=>n - (intOf i').toNat)
 case atStart=>exact⟨0,_,_,rfl,rfl,Nat.zero_le _,by simp,HW0,xhd rfl⟩
 case round=>
  obtain⟨i,v,ws,rfl,rfl,hi,hwl,HI,HE⟩:=hrel
  obtain⟨av,cv,hv,_⟩:=ownsRow_shape HI.out.row
  subst hv
  obtain⟨k,hk⟩:∃k,ws.length=k:=⟨_,rfl⟩
  have HK:=xhd hk
  rw [hk] at HI hwl ⊢
  clear hk
  by_cases hlt:i < n
  ·have hiL:i < LN.length:=by rw [←HN.out];exact hlt
   have hA:=HLA.out.below HI.out.bel
   have hbl:=hA.lt
   obtain⟨nb,nc,y0,y1,hqa⟩:=hA.cells i hiL
   obtain⟨⟨lf,lm⟩,hx⟩:∃x,LN[i]=x:=⟨_,rfl⟩
   have hs4:=HSM.out _ (List.getElem_mem hiL)
   rw [hx] at y0 y1 hqa hs4
   simp only at y0 y1 hqa hs4
   obtain⟨hw10,hwp⟩:=lnw_len (l:=(lf,lm)) hs4
   have HBA:=xhd ((Below.refl wr.heap.size wr).alloc (Nat.le_refl _) (.cells #[.string lf, .slice (some ⟨nb,0,none⟩) lm.length nc] 86))
   have HLW:=xhd (linewords_any lf nb nc lm _ (hqa.below HBA.out) (by omega))
   obtain⟨m,hm⟩:∃m,lm.length=m:=⟨_,rfl⟩
   rw [hm] at HBA HLW y1
   have HIA:=xhd (HI.out.more HBA.out)
   have HEN:Hid ((LN.take (i+1)).flatMap lnW=ws++lnW (lf,lm)):=xhd (by
    rw [HE.out, ←List.take_append_getElem hiL,hx,List.flatMap_append,List.flatMap_singleton])
   have j0:(0:Int)≤i:=by omega
   have j1:(i:Int) < n:=by omega
   have j2:IntKind.i64.wrap ((i:Int)+1)=(i:Int)+1:=by rw [IntKind.wrap_i64];omega
   obtain⟨xs,hxs⟩:∃xs,lnW (lf,lm)=xs:=⟨_,rfl⟩
   rw [hxs] at HLW HEN hw10 hwp
   clear hx hA hqa hs4 hm hxs
   go_wp2_with fail
   refine HLW.out.mono ?_
   rintro r w3 ⟨v3,rfl,hrow3,hb⟩
   have HI3:=xhd (HIA.out.more hb)
   obtain⟨go,co,rfl,_,_⟩:=ownsRow_pos hrow3 hwp
   have HR3:=xhd hrow3
   obtain⟨m3,hm3⟩:∃m,xs.length=m:=⟨_,rfl⟩
   have HM3:=xhd hm3
   rw [hm3] at hw10 ⊢
   clear hb hrow3 hm3 y0 y1 hwp
   go_wp2_with (at_builtin;refine wpList_append_own _ rfl _ _ 50 rfl w2.heap.size 95 i0 (.agg #[.int .i64 0, .string ⟨#[]⟩, .int .i64 0, .int .i64 0]) 4 40 Tryz.underlying50 hi0 hz0 hz1 hz2 rfl (by decide) _ _ _ rfl HI3.out.row ⟨go,0,none⟩ m3 co (wdsC xs) rfl ?c0 ?c1 ?c2 ?c3 ?c4 ?c5 ?_)
   case c0=>rw [wdsC_len,HM3.out]
   case c1=>(have h:=HR3.out;exact h.cells (g:=go) rfl)
   case c2=>exact wdsC_one _
   case c3=>(have:=HK.out;unfold maxLen;omega)
   case c4=>(have:=HK.out;omega)
   case c5=>exact HI3.out.bel.size
   intro v4 w4 hown hgrow _
   have HI4:=xhd (HI3.out.push HM3.out hown hgrow)
   clear hown hgrow
   obtain⟨a4,c4,hv4,_⟩:=ownsRow_shape HI4.out.row
   subst hv4
   go_wp2
   go_roundw
   case rel=>exact⟨i+1,_,ws++xs,rfl,by go_num,by omega,by (rw [List.length_append,HK.out,HM3.out];omega),HI4,xhd HEN.out.symm⟩
   case measure=>simp [intOf];omega
  ·obtain rfl:i=n:=by omega
   have HFW:Hid (ws=LN.flatMap lnW):=xhd (by rw [HE.out,List.take_of_length_le (by rw [←HN.out];exact Nat.le_refl _)])
   obtain⟨x0,x1,x2,x3,x4⟩:=st_cells ((HI.out.bel.block _ (lt_of_block HX2.out)).trans HX2.out)
   have hxl:=lt_of_block ((HI.out.bel.block _ (lt_of_block HX2.out)).trans HX2.out)
   have HI0:=HI
   have HK0:=HK
   clear hlt HE
   go_wp2_with fail
   go_loopw [4,29] (fun l' i' wr=>∃(j:Nat) (v:Value) (ws:List Wd),l'=v∧i'= .int .i64 (j:Nat)∧j≤np∧ws.length≤10*i+60*j∧Hid (SwI w w2 wr v ws)∧Hid (ws=LN.flatMap lnW++(ps.take j).flatMap wordsR)) (fun _ i' _=>np - (intOf i').toNat)
   case atStart=>exact⟨0,_,ws,rfl,rfl,Nat.zero_le _,by rw [HK0.out];omega,HI0,xhd (by rw [HFW.out];simp)⟩
   case round=>
    clear x0 x1 x2 x3 x4 hxl
    obtain⟨j,v,ys,rfl,rfl,hj,hyl,HI,HE⟩:=hrel
    obtain⟨av,cv,hv,_⟩:=ownsRow_shape HI.out.row
    subst hv
    obtain⟨k2,hk⟩:∃k,ys.length=k:=⟨_,rfl⟩
    have HK:=xhd hk
    rw [hk] at HI hyl ⊢
    clear hk
    by_cases hlt:j < np
    ·have hjL:j < ps.length:=by rw [HNP.out];exact hlt
     have hA:=HGA.out.below (HB2.out.trans (HI.out.bel.mono HB2.out.size))
     obtain⟨rfl,hbl⟩:=hA.at_ (by omega)
     obtain⟨ai,bi,oi,ci,y0,y1,hoa⟩:=hA.cells j hjL
     obtain⟨⟨f,P⟩,hx⟩:∃x,ps[j]=x:=⟨_,rfl⟩
     have hmp:=HPM.out _ (List.getElem_mem hjL)
     rw [hx] at y0 y1 hoa hmp
     simp only at y0 y1 hoa
     have HBA:=xhd ((Below.refl wr.heap.size wr).alloc (Nat.le_refl _) (.cells #[.bool f, .slice ai P.length ci] 49))
     have hpw:=pwords_any f ai bi oi ci P _ (hoa.below HBA.out)
     unfold WordsQ at hpw
     rw [hmp] at hpw
     simp only [if_pos] at hpw
     have HPW:=xhd hpw
     have hw60:=words_len hmp
     have hwp:0 < (wordsR (f,P)).length:=by
      obtain⟨l,hl⟩:=words_pos (f,P)
      rw [hl]
      simp
     obtain⟨m,hm⟩:∃m,P.length=m:=⟨_,rfl⟩
     rw [hm] at HBA HPW y1
     have HIA:=xhd (HI.out.more HBA.out)
     have HEN:Hid (LN.flatMap lnW++(ps.take (j+1)).flatMap wordsR=ys++wordsR (f,P)):=xhd (by
      rw [HE.out, ←List.take_append_getElem hjL,hx,List.flatMap_append,List.flatMap_singleton,List.append_assoc])
     have j0:(0:Int)≤j:=by omega
     have j1:(j:Int) < np:=by omega
     have j2:IntKind.i64.wrap ((j:Int)+1)=(j:Int)+1:=by rw [IntKind.wrap_i64];omega
     obtain⟨xs,hxs⟩:∃xs,wordsR (f,P)=xs:=⟨_,rfl⟩
     rw [hxs] at HPW HEN hw60 hwp
     clear hx hA hoa hmp hm hpw hxs
     go_wp2_with fail
     refine HPW.out.mono ?_
     rintro r w3 ⟨v3,rfl,hrow3,hb⟩
     have HI3:=xhd (HIA.out.more hb)
     obtain⟨go,co,rfl,_,_⟩:=ownsRow_pos hrow3 hwp
     have HR3:=xhd hrow3
     obtain⟨m3,hm3⟩:∃m,xs.length=m:=⟨_,rfl⟩
     have HM3:=xhd hm3
     rw [hm3] at hw60 ⊢
     clear hb hrow3 hm3 y0 y1 hwp
     go_wp2_with (at_builtin;refine wpList_append_own _ rfl _ _ 50 rfl w2.heap.size 95 i0 (.agg #[.int .i64 0, .string ⟨#[]⟩, .int .i64 0, .int .i64 0]) 4 40 Tryz.underlying50 hi0 hz0 hz1 hz2 rfl (by decide) _ _ _ rfl HI3.out.row ⟨go,0,none⟩ m3 co (wdsC xs) rfl ?c0 ?c1 ?c2 ?c3 ?c4 ?c5 ?_)
     case c0=>rw [wdsC_len,HM3.out]
     case c1=>(have h:=HR3.out;exact h.cells (g:=go) rfl)
     case c2=>exact wdsC_one _
     case c3=>(have:=HK.out;unfold maxLen;omega)
     case c4=>(have:=HK.out;omega)
     case c5=>exact HI3.out.bel.size
     intro v4 w4 hown hgrow _
     have HI4:=xhd (HI3.out.push HM3.out hown hgrow)
     clear hown hgrow
     obtain⟨a4,c4,hv4,_⟩:=ownsRow_shape HI4.out.row
     subst hv4
     go_wp2
     go_roundw
     case rel=>exact⟨j+1,_,ys++xs,rfl,by go_num,by omega,by (rw [List.length_append,HK.out,HM3.out];omega),HI4,xhd HEN.out.symm⟩
     case measure=>simp [intOf];omega
    ·obtain rfl:j=np:=by omega
     have hys:ys=W:=by rw [HE.out,List.take_of_length_le (by rw [HNP.out];exact Nat.le_refl _),HSW.out]
     have HFN:Hid (WRow w.heap.size wr (.slice av k2 cv) W∧Below w.heap.size w wr):=xhd (by
      have h:=HI.out.row
      rw [hys] at h
      exact⟨row_base h HB2.out.size,HB2.out.trans (HI.out.bel.mono HB2.out.size)⟩)
     clear hlt hys
     go_wp2
     go_ret2
     exact⟨_,rfl,HFN.out⟩
theorem pswords_any (s:Stp) (ag:Option Addr) (bg og cg:Nat) (al:Option Addr) (bl ol cl:Nat) (ap:Option Addr) (bp op cp:Nat) (w:World) (h:SArg w s ag bg og al bl ol ap bp op):
  Calls Tryz.prog 17 #[.agg (stC s.1 s.2.1 ag s.2.2.1.length cg al s.2.2.2.1.length cl ap s.2.2.2.2.length cp)] w (SWordsP s w):=by
 cases hq:mayS s with
 |true=>exact pswords_yes s ag bg og cg al bl ol cl ap bp op cp w h hq
 |false=>exact pswords_no s ag bg og cg al bl ol cl ap bp op cp w h hq
theorem fieldw_short {nm:List By} {n:Int} (h:nm.length≤40):∀x ∈ fieldW nm n,x.2.1.length≤40:=by
 intro x hx
 simp only [fieldW,List.mem_cons,List.not_mem_nil,or_false] at hx
 rcases hx with rfl|rfl
 ·exact h
 ·simp
theorem swords_short (s:Stp):∀x ∈ wordsS s,x.2.1.length≤40:=by
 intro x hx
 unfold wordsS at hx
 simp only [List.mem_append,List.mem_flatMap,List.mem_singleton] at hx
 rcases hx with (((((h|rfl) |h|rfl) |⟨n,_,h⟩) |⟨k,_,h⟩) |⟨p,_,h⟩)
 ·exact fieldw_short (by decide) x h
 ·simp
 ·exact fieldw_short (by decide) x h
 ·simp
 ·simp only [groupW,List.mem_append,List.mem_singleton] at h
  rcases h with h|rfl
  ·exact fieldw_short (by decide) x h
  ·simp
 ·obtain⟨sh,a,b,c,d⟩:=k
  unfold lockW at h
  simp only [List.mem_cons,List.mem_append,List.not_mem_nil,or_false] at h
  rcases h with rfl|h|h|h|rfl
  ·cases sh<;>simp
  ·exact fieldw_short (by decide) x h
  ·exact fieldw_short (by decide) x h
  ·cases sh with
   |true=>
    simp only [if_true,List.mem_append] at h
    rcases h with h|h
    ·exact fieldw_short (by decide) x h
    ·exact fieldw_short (by decide) x h
   |false=>simp at h
  ·simp
 ·exact words_short p x h
theorem flat_le {α:Type} (f:α→List Wd) (k:Nat):∀L:List α,(∀x ∈ L,(f x).length≤k)→(L.flatMap f).length≤k*L.length
 |[],_=>by simp
 |x::L,h=>by
  have h1:=flat_le f k L (fun y hy=>h y (by simp [hy]))
  have h2:=h x (by simp)
  simp only [List.flatMap_cons,List.length_append,List.length_cons,Nat.mul_add]
  omega
theorem swords_len {s:Stp} (h:mayS s=true):(wordsS s).length≤1000:=by
 have hm:=(may_is s).symm.trans h
 simp only [Bool.and_eq_true,inS,decide_eq_true_eq] at hm
 obtain⟨⟨m1,m2,m3⟩, -,m4⟩:=hm
 have hp:=flat_le wordsR 60 s.2.2.2.2 (fun p hp=>words_len (check_may (of_decide_eq_true (List.all_eq_true.1 ((mis_all _ _ _ _).1 m4) p hp))))
 have hl:=flat_le lnW 10 (linesR s) (fun l hl=>(lnw_len (lines_small hl)).1)
 have h3:(linesR s).length≤14:=by simp [linesR];omega
 rw [←lines_words s,List.length_append]
 omega
theorem acws_short (acs:List Ac):∀x ∈ acs.flatMap acW,x.2.1.length≤40:=by
 intro x hx
 obtain⟨a,_,ha⟩:=List.mem_flatMap.1 hx
 exact acw_short a x ha
theorem scwords_short (x:Scr):∀y ∈ wordsSc x,y.2.1.length≤40:=by
 intro y hy
 rcases List.mem_append.1 hy with h|h
 ·exact swords_short x.1 y h
 ·exact acws_short x.2 y h
theorem acws_len6 (acs:List Ac):(acs.flatMap acW).length≤6*acs.length:=flat_le acW 6 acs fun a _=>acw_len a
theorem swords_pos (s:Stp):0 < (wordsS s).length:=by simp [wordsS,fieldW]
theorem row_parts {base:Nat} {w:World} {e:TypeId} {size:Nat} {v:Value} {n:Nat} {xs:List Value} (h:w.ownsRow base e size v n xs):
  ∃ao cap,v= .slice ao n cap∧(ao=none→n=0∧cap=0)∧(∀ad,ao=some ad→∀(j:Nat) u,xs[j]?=some u→w.cell? (ad.add j)=some u):=by
 rcases h.2 with⟨h1,h2⟩ |⟨g,cap,cur,h1,_⟩
 ·subst h1 h2
  exact⟨none,0,rfl,fun _=>⟨rfl,rfl⟩,fun ad h=>by cases h⟩
 ·subst h1
  refine⟨_,cap,rfl,fun h=>(by cases h),fun ad had j u hu=>?_⟩
  cases had
  rw [Addr.add_lit,Nat.zero_add,h.cellAt _ (by have:=(List.getElem?_eq_some_iff.1 hu).1;have:=h.1;omega)]
  exact hu
theorem wapp_row {n₀:Nat} {w1 w4:World} {v v':Value} {ws xs:List Wd} (h:WRow n₀ w1 v ws) (hz:n₀≤w1.heap.size) (hown:w4.ownsRow 0 95 4 v' (ws.length+xs.length) (wdsC ws++wdsC xs)) (hnew:∀g ∈ v'.ownBlock.toList,g ∈ v.ownBlock.toList∨w1.heap.size≤g):WRow n₀ w4 v' (ws++xs):=by
 unfold WRow
 rw [List.length_append,wdsC,List.flatMap_append]
 refine arow_up hown (fun g hx=>?_)
 rcases hnew g hx with h1|h1
 ·exact (h.lt g (by simpa using h1)).1
 ·omega
theorem scprint_any (x:Scr) (p:Pl) (w:World) (h:ScArg w x p) (hm:x.2.length≤100000) (hT:TabOk w):
  Calls Tryz.prog 8 #[.agg (scP x p)] w (PrintP (printSc x) w):=by
 obtain⟨i0,hi0,hz0,hz1,hz2⟩:=info_parts word_info
 have HX:=xhd (heap_alloc_new w (.cells (scP x p) 29))
 have HBX:=xhd ((Below.refl _ w).alloc (Nat.le_refl _) (.cells (scP x p) 29))
 have HT:=xhd hT
 have HY:=xhd (scmay_any x p _ (h.below HBX.out) hm)
 have hs:=fun W (hW:Below w.heap.size w W)=>pswords_any x.1 p.ag p.bg p.og p.cg p.al p.bl p.ol p.cl p.ap p.bp p.op p.cp W (h.s.below hW)
 have ha:=fun W (hW:Below w.heap.size w W)=>awords_any p.aa p.ba p.oa p.ca x.2 W (h.a.below hW) hm
 have hj:=fun ao b cap W hW hL hT=>join_long ao b 0 cap (wordsSc x) W hW hL (scwords_short x) hT
 have hws:=swords_pos x.1
 unfold SWordsP at hs
 unfold WordsAP wordsAc at ha
 unfold printSc
 rw [scmay_is] at HY ⊢
 by_cases hall:(mayS x.1&&actsMay x.2)=true
 ·obtain⟨hms,hma⟩:=Bool.and_eq_true_iff.1 hall
  have hl1:=swords_len hms
  have hl2:=acws_len6 x.2
  have hma2:=hma
  unfold actsMay at hma2
  simp only [Bool.and_eq_true,decide_eq_true_eq] at hma2
  rw [hall] at HY ⊢
  simp only [hms,if_true] at hs
  simp only [hma2.2,if_true,if_neg (show ¬4000 < x.2.length by omega)] at ha
  rw [if_pos rfl]
  have happ:wordsSc x=wordsS x.1++x.2.flatMap acW:=rfl
  have hl4:=hma2.1
  obtain⟨⟨c,g,gs,ls,ps⟩,acs⟩:=x
  obtain⟨ws,hws2⟩:∃l,wordsS (c,g,gs,ls,ps)=l:=⟨_,rfl⟩
  obtain⟨xs,hxs⟩:∃l,acs.flatMap acW=l:=⟨_,rfl⟩
  simp only [hws2,hxs] at hs ha hl1 hl2 hl4 hws happ HX HBX HY ⊢
  obtain⟨ng,hng⟩:∃n,gs.length=n:=⟨_,rfl⟩
  obtain⟨nl,hnl⟩:∃n,ls.length=n:=⟨_,rfl⟩
  obtain⟨np,hnp⟩:∃n,ps.length=n:=⟨_,rfl⟩
  obtain⟨na,hna⟩:∃n,acs.length=n:=⟨_,rfl⟩
  obtain⟨J,hJ⟩:∃J,wordsSc ((c,g,gs,ls,ps),acs)=J:=⟨_,rfl⟩
  obtain⟨ag,bg,og,cg,al,bl,ol,cl,ap,bp,op,cp,aa,ba,oa,ca⟩:=p
  rw [hJ] at hj happ ⊢
  simp only [scP,hng,hnl,hnp,hna] at hs ha HX HBX HY hl2 hl4 ⊢
  have HS:=xhd hs
  have HA:=xhd ha
  have HJ:=xhd hj
  have HAPP:=xhd happ
  have HL1:=xhd (show ws.length+xs.length≤900000 by omega)
  have HWS:=xhd hws
  clear hs ha hj happ hl1 hl2 hl4 hws hws2 hxs hng hnl hnp hna hJ h hm hT hms hma hma2 hall
  go_enter Tryz.func8,Tryz.ntmps8
  go_wp2_with fail
  with_reducible refine HY.out.mono ?_
  rintro e w1 ⟨rfl,hb⟩
  have HB1:=xhd (HBX.out.trans (hb.mono HBX.out.size))
  have HX1:=xhd ((hb.block _ (lt_of_block HX.out)).trans HX.out)
  obtain⟨y0,y1,y2,y3,y4,y5⟩:=six_cells HX1.out
  clear hb
  go_wp2_with fail
  with_reducible refine (HS.out _ HB1.out).mono ?_
  rintro e w2 ⟨v,rfl,hr,hb⟩
  have HB2:=xhd (HB1.out.trans (hb.mono HB1.out.size))
  have HX2:=xhd ((hb.block _ (lt_of_block HX1.out)).trans HX1.out)
  have HR2:=xhd (row_base hr HB1.out.size)
  obtain⟨g2,cap2,rfl,_,_⟩:=ownsRow_pos hr HWS.out
  clear hb hr y0 y1 y2 y3 y4 y5
  obtain⟨y0,y1,y2,y3,y4,y5⟩:=six_cells HX2.out
  go_wp2_with fail
  with_reducible refine (HA.out _ HB2.out).mono ?_
  rintro e w3 ⟨v,rfl,hr,hb⟩
  have HB3:=xhd (HB2.out.trans (hb.mono HB2.out.size))
  have HR3:=xhd (row_below HR2.out hb)
  obtain⟨a3,cap3,rfl,hnil,hcv⟩:=row_parts hr
  have HNIL:=xhd hnil
  have HCV:=xhd hcv
  clear hb hr hnil hcv y0 y1 y2 y3 y4 y5
  go_wp2_with (at_builtin;refine wpList_append_any _ rfl _ _ 50 rfl 95 i0 (.agg #[.int .i64 0, .string ⟨#[]⟩, .int .i64 0, .int .i64 0]) 4 40 Tryz.underlying50 hi0 hz0 hz1 hz2 rfl (by decide) _ ws.length (wdsC ws) rfl (row_base HR3.out (Nat.zero_le _)) a3 xs.length cap3 (wdsC xs) rfl (by rw [wdsC_len]) HNIL.out HCV.out (wdsC_one _) (by have:=HL1.out;unfold maxLen;omega) (by have:=HL1.out;omega) ?_;intro a4 c4 w4 hown hgrow hnew)
  have HR4:=xhd (wapp_row HR3.out HB3.out.size hown hnew)
  have HB4:=xhd (app_below HB3.out (Nat.le_refl _) (Nat.le_refl _) HR3.out hgrow)
  obtain⟨a5,b5,c5,e5,hw5⟩:=WArg.of_row HR4.out
  simp only [Value.slice.injEq] at e5
  obtain⟨rfl,hln,rfl⟩:=e5
  rw [←HAPP.out] at hw5 hln
  have hjj:=HJ.out _ _ c4 _ hw5 (by rw [←hln];have:=HL1.out;omega) (HT.out.below HB4.out)
  rw [←hln] at hjj
  have HJJ:=xhd hjj
  clear hown hgrow hnew hw5 hln hjj
  go_wp2_with fail
  with_reducible refine HJJ.out.mono ?_
  rintro e w5 ⟨rfl,hb⟩
  have HB5:=xhd (HB4.out.trans (hb.mono HB4.out.size))
  clear hb
  go_wp2
  go_ret2
  exact⟨rfl,HB5.out⟩
 ·have hall:(mayS x.1&&actsMay x.2)=false:=by simpa using hall
  rw [hall] at HY ⊢
  rw [if_neg (by simp)]
  clear hs ha hj hws h hm hT hall
  go_enter Tryz.func8,Tryz.ntmps8
  go_wp2_with fail
  with_reducible refine HY.out.mono ?_
  rintro e w1 ⟨rfl,hb⟩
  have HB1:=xhd (HBX.out.trans (hb.mono HBX.out.size))
  clear hb
  go_wp2
  go_ret2
  exact⟨rfl,HB1.out⟩
theorem sc0_cells (p:Pl):scP (cs0,ca0) p= #[.int .i64 1, .int .i64 1, .slice p.ag 1 p.cg, .slice p.al 0 p.cl, .slice p.ap 1 p.cp, .slice p.aa 2 p.ca]:=rfl
theorem scn_cells (p:Pl):scP (noneS,[]) p= #[.int .i64 0, .int .i64 0, .slice p.ag 0 p.cg, .slice p.al 0 p.cl, .slice p.ap 0 p.cp, .slice p.aa 0 p.ca]:=rfl
theorem awake14 (w:World) (hT:TabOk w):Calls Tryz.prog 6 #[] w fun e w'=>e= .returned (.bool true)∧Below w.heap.size w w':=by
 have HT:=xhd hT
 have hp0:=scparse_any ⟨#[99,111,114,101,115,32,49,59,32,103,114,97,105,110,32,49,59,32,103,114,111,117,112,32,49,59,32,112,114,111,103,32,123,32,101,120,105,116,59,32,125,32,115,112,97,119,110,32,48,32,48,32,49,32,48,59,32,116,105,99,107,32,48,59]⟩ w
 have hp1:=fun W=>scparse_any ⟨#[99,111,114,101,115,32,49,59,32,103,114,97,105,110,32,49,59,32,103,114,111,117,112,32,49,59,32,112,114,111,103,32,123,32,101,120,105,116,59,32,125,32,115,112,97,119,110,32,48,32,48,32,49,32,48,59,32,116,105,99,107,32,48,59,32,120]⟩ W
 unfold ParseScP at hp0 hp1
 rw [show (⟨#[99,111,114,101,115,32,49,59,32,103,114,97,105,110,32,49,59,32,103,114,111,117,112,32,49,59,32,112,114,111,103,32,123,32,101,120,105,116,59,32,125,32,115,112,97,119,110,32,48,32,48,32,49,32,48,59,32,116,105,99,107,32,48,59]⟩:ByteArray).data.toList=ct0 from rfl,csc_parse0] at hp0
 rw [show (⟨#[99,111,114,101,115,32,49,59,32,103,114,97,105,110,32,49,59,32,103,114,111,117,112,32,49,59,32,112,114,111,103,32,123,32,101,120,105,116,59,32,125,32,115,112,97,119,110,32,48,32,48,32,49,32,48,59,32,116,105,99,107,32,48,59,32,120]⟩:ByteArray).data.toList=ct1 from rfl,csc_parse1] at hp1
 simp only [sc0_cells] at hp0
 simp only [scn_cells] at hp1
 have HP0:=xhd hp0
 have HP1:=xhd hp1
 clear hp0 hp1 hT
 go_enter Tryz.func6,Tryz.ntmps6
 go_wp2_with fail
 refine HP0.out.mono ?_
 rintro e w1 ⟨⟨ag,bg,og,cg,al,bl,ol,cl,ap,bp,op,cp,aa,ba,oa,ca⟩,rfl,hsa,hb⟩
 simp only
 have HB1:=xhd hb
 have hbx:Below w1.heap.size w1 (w1.alloc (.cells #[.int .i64 1, .int .i64 1, .slice ag 1 cg, .slice al 0 cl, .slice ap 1 cp, .slice aa 2 ca] 29)):=(Below.refl _ w1).alloc (Nat.le_refl _) _
 have HBX:=xhd hbx
 have HX:=xhd (heap_alloc_new w1 (.cells #[.int .i64 1, .int .i64 1, .slice ag 1 cg, .slice al 0 cl, .slice ap 1 cp, .slice aa 2 ca] 29))
 have HSA:=xhd (hsa.below hbx)
 have HB2:=xhd (hb.trans (hbx.mono hb.size))
 have hpr:=scprint_any _ _ _ HSA.out (by decide) (HT.out.below HB2.out)
 unfold PrintP at hpr
 rw [csc_print,sc0_cells] at hpr
 obtain⟨sx,hsx⟩:∃sx:ByteArray,⟨ct0.toArray⟩=sx:=⟨_,rfl⟩
 have hsl:sx.toList=ct0:=by rw [Lib.toList_data, ←hsx]
 simp only [hsx] at hpr
 have hsq:(sx.toList == [99,111,114,101,115,32,49,59,32,103,114,97,105,110,32,49,59,32,103,114,111,117,112,32,49,59,32,112,114,111,103,32,123,32,101,120,105,116,59,32,125,32,115,112,97,119,110,32,48,32,48,32,49,32,48,59,32,116,105,99,107,32,48,59])=true:=by rw [hsl];decide+kernel
 have HPR:=xhd hpr
 clear hsa hb hbx hpr hsx hsl HP0
 go_wp2_with fail
 with_reducible refine HPR.out.mono ?_
 rintro e w3 ⟨rfl,hb⟩
 have HX3:=xhd ((hb.block _ (lt_of_block HX.out)).trans HX.out)
 have HB3:=xhd (HB2.out.trans (hb.mono HB2.out.size))
 have HSA3:=xhd (HSA.out.below hb)
 clear hb HPR
 go_wp2_with fail
 refine (HP1.out _).mono ?_
 rintro e w4 ⟨⟨ag',bg',og',cg',al',bl',ol',cl',ap',bp',op',cp',aa',ba',oa',ca'⟩,rfl, -,hb⟩
 simp only
 have hbx:Below w4.heap.size w4 (w4.alloc (.cells #[.int .i64 0, .int .i64 0, .slice ag' 0 cg', .slice al' 0 cl', .slice ap' 0 cp', .slice aa' 0 ca'] 29)):=(Below.refl _ w4).alloc (Nat.le_refl _) _
 have HX4:=xhd ((hb.block _ (lt_of_block HX3.out)).trans HX3.out)
 have HB4:=xhd (HB3.out.trans (hb.mono HB3.out.size))
 have HB5:=xhd (HB4.out.trans (hbx.mono HB4.out.size))
 have hmy:=scmay_any _ _ _ ((HSA3.out.below hb).below hbx) (by decide)
 rw [csc_may,sc0_cells] at hmy
 have HMY:=xhd hmy
 obtain⟨x0,x1,x2,x3,x4,x5⟩:=six_cells HX4.out
 have hlt4:=lt_of_block HX4.out
 clear hb hbx hmy HP1
 go_wp2_with fail
 with_reducible refine HMY.out.mono ?_
 rintro e w5 ⟨rfl,hb⟩
 have HB6:=xhd (HB5.out.trans (hb.mono HB5.out.size))
 clear hb x0 x1 x2 x3 x4 x5
 go_wp2
 go_ret
 exact⟨rfl,HB6.out⟩
end Go.Proofs.YtbnhnnccioljhaaGreatDoor
namespace Go.Proofs.YtbnhnnccioljhaaGreatDoor
open Go.ChangeShapes Go.WideShapes Go.ChangeAt Go.RowKit Go.Deep
abbrev laidT:List (String×DataW Unit):=[("math/bits.deBruijn32tab",Rows.laid_math_bits_deBruijn32tab),("math/bits.deBruijn64tab",Rows.laid_math_bits_deBruijn64tab),("internal/strconv.uint64pow10",Rows.laid_internal_strconv_uint64pow10),("strconv.ErrRange",Rows.laid_strconv_ErrRange),("strconv.ErrSyntax",Rows.laid_strconv_ErrSyntax)]
theorem tab_data:(Rows.laid_internal_strconv_uint64pow10:DataW Unit)=Lib.tabData .u64 Lib.pow10Tab:=by kernel_rfl
theorem gTab:Tryz.prog.globalNamed "internal/strconv.uint64pow10" =some 2:=by kernel_rfl
theorem gTabType:(Tryz.prog.globals[2]?).map (·.type)=some 244:=by kernel_rfl
theorem cellsU:Tryz.prog.cellsOf 229=1:=by kernel_rfl
theorem cellsT:Tryz.prog.cellsOf 244=20:=by kernel_rfl
theorem tab_of_laid {W:World} (h:laidMetH Tryz.prog laidT W):TabOk W:=by
 rw [MakeChecks.laidMetH_plain _ _ _ (by kernel_rfl)] at h
 unfold laidT at h
 have h2:=h.tail.tail
 rw [tab_data] at h2
 exact Lib.tabIs_of_head gTab gTabType Tryz.underlying244 Tryz.underlying229 cellsU cellsT h2
theorem door_met (os:Os) (args:Array Value):laidMetH Tryz.prog laidT ((World.doorLaid Tryz.prog 62 os).forCall (fun _ _=>0) ⟨#[],args,[]⟩).memory:=
 laidMetH_of_parts3 (fuel:=8) (laidMet_of_run' 8 (by kernel_rfl) (by kernel_rfl)) (by kernel_rfl) (by kernel_rfl)
end Go.Proofs.YtbnhnnccioljhaaGreatDoor
