/-
  The program reads a setup.
-/
import Derived.Test.YtbnhnnccioljhaaGreatDoorZBG
import Derived.Test.YtbnhnnccioljhaaGreatDoorZAl
set_option maxRecDepth 100000
set_option maxHeartbeats 25600000
namespace Go.Proofs.YtbnhnnccioljhaaGreatDoor
open Go.RowKit
abbrev StpN:=Int×Int×List Int×List Lk×List (Prg×Nat)
def readQ (L:List Wd) (s:Rd):StpN×Rd:=
 let x:=fieldS L s coresB 4
 let y:=fieldS L (needS L x.2 3 [59]) grainB 8
 let g:=groupsS L 6 (needS L y.2 3 [59]) []
 let l:=locksS L 10 g.2 []
 let p:=progsS L 10 l.2 []
 ((x.1,y.1,g.1,l.1,p.1),p.2)
theorem readQ_dead {L:List Wd} {s:Rd} (h:s.2≠0):(readQ L s).2=s:=by
 unfold readQ
 simp only [fieldS_dead h,needS_dead h,groupsS_dead h,locksS_dead h,progsS_dead h]
structure RtI (w V:World) (b:Nat) (ao:Option Addr) (bw off cap:Nat) (L:List Wd) (s:Rd) (c g:Int) (vg vl:Value) (gs:List Int) (ls:List Lk):Prop where
 rd:RwI V b ao bw off cap L s
 res:V.heap[w.heap.size]?=some (.cells zeroSt 26 (0,0))
 st:V.heap[w.heap.size+1]?=some (.cells #[.int .i64 c, .int .i64 g,vg,vl, .slice none 0 0] 26 (0,0))
 gr:GRow (w.heap.size+2) V vg gs
 lr:LkRow (w.heap.size+2) V vl ls
 t:Turned [b] w V
 l1:b < w.heap.size
 bwl:0 < L.length→bw < w.heap.size
section
variable {w V V':World} {b:Nat} {ao:Option Addr} {bw off cap:Nat} {L:List Wd} {s s':Rd} {c g c' g':Int} {vg vl:Value} {gs:List Int} {ls:List Lk}
theorem RtI.siz (h:RtI w V b ao bw off cap L s c g vg vl gs ls):w.heap.size+2≤V.heap.size:=lt_of_block h.st
theorem RtI.start (h:RwI w b ao bw off cap L s):RtI w ((w.alloc (.cells zeroSt 26)).alloc (.cells zeroSt 26)) b ao bw off cap L s 0 0 (.slice none 0 0) (.slice none 0 0) [] []:=by
 have hb:Below w.heap.size w ((w.alloc (.cells zeroSt 26)).alloc (.cells zeroSt 26)):=((Below.refl _ w).alloc (Nat.le_refl _) _).alloc (by simp) _
 have h2:=heap_alloc_new (w.alloc (.cells zeroSt 26)) (.cells zeroSt 26)
 rw [World.size_alloc] at h2
 exact⟨RdI.below h hb,(Below.heap_alloc _ _ _ (by simp)).trans (heap_alloc_new w _),h2,World.ownsRow_nil _ _ _ _,World.ownsRow_nil _ _ _ _,turned_below hb _,lt_of_block h.rd,fun h0=>(h.ws.at_ h0).2⟩
theorem RtI.moved (h:RtI w V b ao bw off cap L s c g vg vl gs ls) (m:RwP b ao bw off cap L s' V V'):RtI w V' b ao bw off cap L s' c g vg vl gs ls:=by
 obtain⟨m1,m2⟩:=m
 have h1:=h.l1
 exact⟨m1,m2.same h.res (by simp;omega),m2.same h.st (by simp;omega),row_turned h.gr m2 (by omega),row_turned h.lr m2 (by omega),h.t.trans m2 (Newer.refl _ _),h1,h.bwl⟩
theorem RtI.below (h:RtI w V b ao bw off cap L s c g vg vl gs ls) (hb:Below V.heap.size V V'):RtI w V' b ao bw off cap L s c g vg vl gs ls:=
 h.moved ⟨RdI.below h.rd hb,turned_below hb [b]⟩
theorem RtI.lined (h:RtI w V b ao bw off cap L s c g vg vl gs ls) (hr:RwI V' b ao bw off cap L s') (hs:V'.heap[w.heap.size+1]?=some (.cells #[.int .i64 c', .int .i64 g',vg,vl, .slice none 0 0] 26 (0,0))) (ht:Turned [b,w.heap.size+1] V V'):RtI w V' b ao bw off cap L s' c' g' vg vl gs ls:=by
 have h1:=h.l1
 have hrow:∀(e:TypeId) (size n:Nat) (u:Value) (ys:List Value),V.ownsRow (w.heap.size+2) e size u n ys→V'.ownsRow (w.heap.size+2) e size u n ys:=fun e size n u ys hu=>ownsRow_same hu fun k hk1 hl=>ht.block k hl (by have:=row_own hu k (by simpa using hk1);simp;omega)
 refine⟨hr,ht.same h.res (by simp;omega),hs,hrow _ _ _ _ _ h.gr,hrow _ _ _ _ _ h.lr,?_,h1,h.bwl⟩
 refine⟨ht.os.trans h.t.os,ht.tape.trans h.t.tape,ht.output.trans h.t.output,Nat.le_trans h.t.size ht.size,fun k hk hx=>?_⟩
 have hz:=h.t.size
 simp at hx
 exact (ht.block k (by omega) (by simp;omega)).trans (h.t.block k hk (by simpa using hx))
theorem RtI.setG (h:RtI w V b ao bw off cap L s c g vg vl gs ls) {v:Value} {xs:List Int} (hv:GRow (w.heap.size+2) V v xs):RtI w (V.setCell ⟨w.heap.size+1,2,none⟩ v) b ao bw off cap L s c g v vl xs ls:=by
 have h1:=h.l1
 refine⟨RwI.store h.rd _ _ (by omega) (fun h0=>by have:=h.bwl h0;omega),(Below.heap_setCell _ _ _ _ (by show w.heap.size≠w.heap.size+1;omega)).trans h.res,?_,row_set hv (by omega),row_set h.lr (by omega),h.t.setCell (.inr (by show w.heap.size≤w.heap.size+1;omega)) _,h1,h.bwl⟩
 rw [heap_setCell_same _ _ _ _ _ _ h.st]
 rfl
theorem RtI.setL (h:RtI w V b ao bw off cap L s c g vg vl gs ls) {v:Value} {xs:List Lk} (hv:LkRow (w.heap.size+2) V v xs):RtI w (V.setCell ⟨w.heap.size+1,3,none⟩ v) b ao bw off cap L s c g vg v gs xs:=by
 have h1:=h.l1
 refine⟨RwI.store h.rd _ _ (by omega) (fun h0=>by have:=h.bwl h0;omega),(Below.heap_setCell _ _ _ _ (by show w.heap.size≠w.heap.size+1;omega)).trans h.res,?_,row_set h.gr (by omega),row_set hv (by omega),h.t.setCell (.inr (by show w.heap.size≤w.heap.size+1;omega)) _,h1,h.bwl⟩
 rw [heap_setCell_same _ _ _ _ _ _ h.st]
 rfl
end
def RSetP (L:List Wd) (s:Rd) (w:World) (b:Nat) (ao:Option Addr) (bw off cap:Nat) (r:Ending) (w':World):Prop:=
 ∃(vg vl vp vq:Value) (R:StpN) (xs:List (Prg×Value)) (s':Rd),r= .returned (.tuple #[.agg #[.int .i64 R.1, .int .i64 R.2.1,vg,vl,vp],vq])∧GRow w.heap.size w' vg R.2.2.1∧LkRow w.heap.size w' vl R.2.2.2.1∧PRow w.heap.size w' vp xs∧(∀x ∈ xs,ORow w.heap.size w' x.2 x.1.2)∧GRow w.heap.size w' vq (R.2.2.2.2.map fun x=>(x.2:Int))∧
  RwI w' b ao bw off cap L s'∧Turned [b] w w'∧xs.map (·.1)=R.2.2.2.2.map (·.1)∧s'=(readQ L s).2∧(s'.2=0→R=(readQ L s).1)∧R.2.2.2.2.length≤9
structure RuI (w V:World) (b:Nat) (ao:Option Addr) (bw off cap:Nat) (L:List Wd) (s:Rd) (S:Nat) (c g:Int) (vg vl vp vq:Value) (gs:List Int) (ls:List Lk) (xs:List (Prg×Value)) (qs:List Int):Prop where
 rd:RwI V b ao bw off cap L s
 res:V.heap[w.heap.size]?=some (.cells zeroSt 26 (0,0))
 st:V.heap[w.heap.size+1]?=some (.cells #[.int .i64 c, .int .i64 g,vg,vl,vp] 26 (0,0))
 sb:V.heap[S]?=some (.cells #[vq] 22 (0,0))
 gr:GRow (w.heap.size+2) V vg gs
 lr:LkRow (w.heap.size+2) V vl ls
 pr:PRow (w.heap.size+2) V vp xs
 po:∀x ∈ xs,ORow (w.heap.size+2) V x.2 x.1.2
 qr:GRow (w.heap.size+2) V vq qs
 t:Turned [b] w V
theorem RuI.of {w V V':World} {b:Nat} {ao:Option Addr} {bw off cap:Nat} {L:List Wd} {s s':Rd} {S:Nat} {c g:Int} {vg vl v qv:Value} {gs:List Int} {ls:List Lk} {xs:List (Prg×Value)} {qs:List Int} (h:RtI w V b ao bw off cap L s c g vg vl gs ls) (hS:V.heap[S]?=some (.cells #[.slice none 0 0] 22 (0,0))) (hSw:w.heap.size+1 < S) {B0:Nat} (hB0:w.heap.size+2≤B0)
  (k1:V'.ownsRow B0 49 2 v xs.length (cellsOf pgC xs)) (k2:∀x ∈ xs,ORow B0 V' x.2 x.1.2) (k3:V'.heap[S]?=some (.cells #[qv] 22 (0,0))) (k4:GRow B0 V' qv qs) (k5:RwI V' b ao bw off cap L s') (k6:Turned [b,S] V V'):
  V'.heap[w.heap.size+1]?=some (.cells #[.int .i64 c, .int .i64 g,vg,vl, .slice none 0 0] 26 (0,0))∧RuI w (V'.setCell ⟨w.heap.size+1,4,none⟩ v) b ao bw off cap L s' S c g vg vl v qv gs ls xs qs:=by
 have h1:=h.l1
 have hz:=h.t.size
 have hst:=k6.same h.st (by simp;omega)
 have hrow:∀(e:TypeId) (size n:Nat) (u:Value) (ys:List Value),V.ownsRow (w.heap.size+2) e size u n ys→e≠22→V'.ownsRow (w.heap.size+2) e size u n ys:=fun e size n u ys hu he=>ownsRow_same hu fun k hk1 hl=>k6.block k hl (by
  have hk2:u.ownBlock=some k:=by simpa using hk1
  have h3:=row_own hu k hk2
  have h4:S≠k:=by
   rintro rfl
   exact block_off hS hu he.symm hk2.symm
  simp
  omega)
 refine⟨hst,⟨RwI.store k5 _ _ (by omega) (fun h0=>by have:=h.bwl h0;omega),(Below.heap_setCell _ _ _ _ (by show w.heap.size≠w.heap.size+1;omega)).trans (k6.same h.res (by simp;omega)),?_,(Below.heap_setCell _ _ _ _ (by show S≠w.heap.size+1;omega)).trans k3,row_set (hrow _ _ _ _ _ h.gr (by decide)) (by omega),row_set (hrow _ _ _ _ _ h.lr (by decide)) (by omega),row_set (row_base k1 hB0) (by omega),fun x hx=>row_set (row_base (k2 x hx) hB0) (by omega),row_set (row_base k4 hB0) (by omega),?_⟩⟩
 ·rw [heap_setCell_same _ _ _ _ _ _ hst]
  rfl
 ·refine Turned.setCell ?_ (.inr (by show w.heap.size≤w.heap.size+1;omega)) _
  refine⟨k6.os.trans h.t.os,k6.tape.trans h.t.tape,k6.output.trans h.t.output,Nat.le_trans h.t.size k6.size,fun k hk hx=>?_⟩
  simp at hx
  exact (k6.block k (by omega) (by simp;omega)).trans (h.t.block k hk (by simpa using hx))
theorem st_five {w:World} {B:Nat} {a b c d e a' b' c' d' e':Value} {t:TypeId} (h:w.heap[B]?=some (.cells #[a,b,c,d,e] t (0,0))):
  (((((w.setCell ⟨B,0,none⟩ a').setCell ⟨B,1,none⟩ b').setCell ⟨B,2,none⟩ c').setCell ⟨B,3,none⟩ d').setCell ⟨B,4,none⟩ e').heap[B]?=some (.cells #[a',b',c',d',e'] t (0,0)):=by
 rw [heap_setCell_same _ _ _ _ _ _ (heap_setCell_same _ _ _ _ _ _ (heap_setCell_same _ _ _ _ _ _ (heap_setCell_same _ _ _ _ _ _ (heap_setCell_same _ _ _ _ _ _ h))))]
 rfl
theorem st_kept {w:World} {B k:Nat} {a b c d e:Value} (h:k≠B):
  (((((w.setCell ⟨B,0,none⟩ a).setCell ⟨B,1,none⟩ b).setCell ⟨B,2,none⟩ c).setCell ⟨B,3,none⟩ d).setCell ⟨B,4,none⟩ e).heap[k]?=w.heap[k]?:=
 (Below.heap_setCell _ _ _ _ h).trans ((Below.heap_setCell _ _ _ _ h).trans ((Below.heap_setCell _ _ _ _ h).trans ((Below.heap_setCell _ _ _ _ h).trans (Below.heap_setCell _ _ _ _ h))))
theorem st_res2 {fn:Func} {p u:Tmp} (hf:fn.results= #[.cell p 26, .tmp u]) {tmps:Array Value} {w:World} {B:Nat} {a b c d e y:Value} (hp:tmps.getD p undef= .pointer (some ⟨B,0,none⟩)) (hu:tmps.getD u undef=y) (h:w.heap[B]?=some (.cells #[a,b,c,d,e] 26 (0,0))):
  (results fn tmps).run Tryz.prog w= .ok (.tuple #[.agg #[a,b,c,d,e],y]) w:=by
 obtain⟨c0,c1,c2,c3,c4⟩:=st_cells h
 rw [results_cell_tmp hf,hp,hu]
 simp [loadVar,go_sem,c0,c1,c2,c3,c4]
theorem readsetup_any {w:World} {b:Nat} {ao:Option Addr} {bw off cap:Nat} {L:List Wd} {s:Rd} (h:RwI w b ao bw off cap L s) (hL:Clean L):
  Calls Tryz.prog 67 #[.pointer (some ⟨b,0,none⟩)] w (RSetP L s w b ao bw off cap):=by
 have HI0:=xhd (RtI.start h)
 have HCL:=xhd hL
 obtain⟨⟨c,s1⟩,e1⟩:∃x,fieldS L s coresB 4=x:=⟨_,rfl⟩
 obtain⟨⟨g,s2⟩,e2⟩:∃x,fieldS L (needS L s1 3 [59]) grainB 8=x:=⟨_,rfl⟩
 obtain⟨s3,e3⟩:∃x,needS L s2 3 [59]=x:=⟨_,rfl⟩
 obtain⟨⟨G1,s4⟩,e4⟩:∃x,groupsS L 6 s3 []=x:=⟨_,rfl⟩
 obtain⟨⟨L1,s5⟩,e5⟩:∃x,locksS L 10 s4 []=x:=⟨_,rfl⟩
 obtain⟨⟨P1,s6⟩,e6⟩:∃x,progsS L 10 s5 []=x:=⟨_,rfl⟩
 have HQ:Hid (readQ L s=((c,g,G1,L1,P1),s6)):=xhd (by
  unfold readQ
  simp only [e1,e2,e3,e4,e5,e6])
 have HD4:Hid (s4.2≠0→s5=s4):=xhd (fun hd=>by
  rw [locksS_dead hd] at e5
  exact (congrArg Prod.snd e5).symm)
 have HD5:Hid (s5.2≠0→s6=s5):=xhd (fun hd=>by
  rw [progsS_dead hd] at e6
  exact (congrArg Prod.snd e6).symm)
 have HE1:=xhd e1
 have HE2:=xhd e2
 have HE3:=xhd e3
 have HE4:=xhd e4
 have HE5:=xhd e5
 have HE6:=xhd e6
 have HRC:=xhd (fun (V:World) (nb nc:Nat) (hI:RtI w V b ao bw off cap L s 0 0 (.slice none 0 0) (.slice none 0 0) [] []) (hN:NArg V nb 0 (w.heap.size+1) [(⟨#[]⟩,4,0)]) (hnb:w.heap.size+2≤nb)=>
  lread_any ⟨#[99,111,114,101,115]⟩ nb 0 nc [(⟨#[]⟩,4,0)] hI.rd hL hI.st hN (by have:=hI.l1;omega) (by have:=hI.l1;omega) (by omega) (fun h0=>by have:=hI.bwl h0;omega) (by simp) (by simp))
 have HRG:=xhd (fun (V:World) (nb nc:Nat) (hI:RtI w V b ao bw off cap L (needS L s1 3 [59]) c 0 (.slice none 0 0) (.slice none 0 0) [] []) (hN:NArg V nb 0 (w.heap.size+1) [(⟨#[]⟩,8,1)]) (hnb:w.heap.size+2≤nb)=>
  lread_any ⟨#[103,114,97,105,110]⟩ nb 0 nc [(⟨#[]⟩,8,1)] hI.rd hL hI.st hN (by have:=hI.l1;omega) (by have:=hI.l1;omega) (by omega) (fun h0=>by have:=hI.bwl h0;omega) (by simp) (by simp))
 simp only [lineR_cores,e1] at HRC
 simp only [lineR_grain,e2,e3] at HRG
 simp only [List.length_singleton] at HRC HRG
 have hw0:∃W0,((w.alloc (.cells zeroSt 26)).alloc (.cells zeroSt 26))=W0:=⟨_,rfl⟩
 have HW0:=xhd hw0
 clear hw0 h hL e1 e2 e3 e4 e5 e6
 go_enter Tryz.func67,Tryz.ntmps67
 go_wp2_with fail
 obtain⟨W0,hW0⟩:=HW0.out
 rw [hW0] at HI0
 simp only [hW0]
 clear hW0 HW0
 refine (coresline_any (w.heap.size+1) 0 _).mono ?_
 rintro r w1 ⟨nb,nc,rfl,hN,hnb,hb⟩
 have HI1:=xhd (HI0.out.below hb)
 have HC1:=xhd (HRC.out w1 nb nc HI1.out hN (Nat.le_trans HI0.out.siz hnb))
 simp only [List.length_singleton]
 clear hN hnb hb
 go_wp2_with fail
 refine HC1.out.mono ?_
 rintro r w2 ⟨rfl,h1,h2,h3⟩
 have HI2:=xhd (HI1.out.lined (c':=c) (g':=0) h1 h2 h3)
 clear h1 h2 h3
 go_wp2_with fail
 refine (grainline_any (w.heap.size+1) 1 _).mono ?_
 rintro r w3 ⟨nb3,nc3,rfl,hN,hnb,hb⟩
 have HI3:=xhd (HI2.out.below hb)
 have HC3:=xhd (HRG.out w3 nb3 nc3 HI3.out hN (Nat.le_trans HI2.out.siz hnb))
 simp only [List.length_singleton]
 clear hN hnb hb
 go_wp2_with fail
 refine HC3.out.mono ?_
 rintro r w4 ⟨rfl,h1,h2,h3⟩
 have HI4:=xhd (HI3.out.lined (c':=c) (g':=g) h1 h2 h3)
 clear h1 h2 h3
 go_wp2_with fail
 refine (grouppart_any _).mono ?_
 rintro r w5 ⟨pb,pc,rfl,hT,hpb,hb⟩
 have HI5:=xhd (HI4.out.below hb)
 have HC5:=xhd (sevint_any pb pc HI5.out.rd HCL.out hT (by have:=HI4.out.l1;have:=HI4.out.siz;omega))
 simp only [List.length_singleton]
 clear hT hpb hb
 go_wp2_with fail
 refine HC5.out.mono ?_
 rintro r w6 ⟨vg,gs,sg,rfl,hrow,hm,hsg,hgs,hgl⟩
 have HI6:=xhd (HI5.out.moved hm)
 have hI7:=HI6.out.setG (row_base (base':=w.heap.size+2) hrow HI5.out.siz)
 rw [HE4.out] at hsg hgs
 simp only at hsg hgs
 subst hsg
 obtain⟨avg,cvg,hvg,_⟩:=ownsRow_shape hrow
 subst hvg
 have HGS:=xhd hgs
 have HGL:=xhd hgl
 obtain⟨ng,hng⟩:∃n,gs.length=n:=⟨_,rfl⟩
 have HNG:=xhd hng
 rw [hng] at hI7 ⊢
 have HI7:=xhd hI7
 obtain⟨x0,x1,x2,x3,x4⟩:=st_cells HI6.out.st
 have fx2:=not_frozen HI6.out.st 2
 have HW7:Hid (∃W,w6.setCell ⟨w.heap.size+1,2,none⟩ (.slice avg ng cvg)=W):=⟨_,rfl⟩
 clear hrow hm hgs hgl hng hI7
 go_wp2_with fail
 obtain⟨w7,hw7⟩:=HW7.out
 rw [hw7] at HI7
 simp only [hw7]
 clear hw7 HW7 x0 x1 x2 x3 x4 fx2
 refine (lockpart_any _).mono ?_
 rintro r w8 ⟨pb8,pc8,rfl,hT,hpb,hb⟩
 have HI8:=xhd (HI7.out.below hb)
 have HC8:=xhd (sevlock_any pb8 pc8 HI8.out.rd HCL.out hT (by have:=HI7.out.l1;have:=HI7.out.siz;omega))
 simp only [List.length_cons,List.length_nil,Nat.zero_add,Nat.reduceAdd]
 clear hT hpb hb
 go_wp2_with fail
 refine HC8.out.mono ?_
 rintro r w9 ⟨vl,ls,sl,rfl,hrow,hm,hsg,hgs,hgl⟩
 have HI9:=xhd (HI8.out.moved hm)
 have hI10:=HI9.out.setL (row_base (base':=w.heap.size+2) hrow HI8.out.siz)
 rw [HE5.out] at hsg hgs
 simp only at hsg hgs
 subst hsg
 obtain⟨avl,cvl,hvl,_⟩:=ownsRow_shape hrow
 subst hvl
 have HLS:=xhd hgs
 have HLL:=xhd hgl
 obtain⟨nl,hnl⟩:∃n,ls.length=n:=⟨_,rfl⟩
 have HNL:=xhd hnl
 rw [hnl] at hI10 ⊢
 have HI10:=xhd hI10
 obtain⟨x0,x1,x2,x3,x4⟩:=st_cells HI9.out.st
 have fx3:=not_frozen HI9.out.st 3
 have HW10:Hid (∃W,w9.setCell ⟨w.heap.size+1,3,none⟩ (.slice avl nl cvl)=W):=⟨_,rfl⟩
 clear hrow hm hgs hgl hnl hI10
 have HSA:Hid (∀V,RtI w V b ao bw off cap L sl c g (.slice avg ng cvg) (.slice avl nl cvl) gs ls→RtI w (V.alloc (.cells #[.slice none 0 0] 22)) b ao bw off cap L sl c g (.slice avg ng cvg) (.slice avl nl cvl) gs ls∧(V.alloc (.cells #[.slice none 0 0] 22)).heap[V.heap.size]?=some (.cells #[.slice none 0 0] 22 (0,0))):=
  xhd (fun V hV=>⟨hV.below ((Below.refl _ _).alloc (Nat.le_refl _) _),heap_alloc_new V _⟩)
 go_wp2_with fail
 obtain⟨w10,hw10⟩:=HW10.out
 rw [hw10] at HI10
 simp only [hw10]
 have hsz:w10.heap.size=w9.heap.size:=by
  rw [←hw10]
  simp [World.setCell]
 clear hw10 HW10 x0 x1 x2 x3 x4 fx3
 have hsa:=HSA.out w10 HI10.out
 obtain⟨S,hS⟩:∃S,w9.heap.size=S:=⟨_,rfl⟩
 rw [hS] at hsz
 have HS1:Hid (w.heap.size+1 < S):=xhd (by have:=HI10.out.siz;omega)
 obtain⟨w11,hw11⟩:∃W,w10.alloc (.cells #[.slice none 0 0] 22)=W:=⟨_,rfl⟩
 rw [hsz,hw11] at hsa
 simp only [hS,hw11]
 have HI11:=xhd hsa.1
 have HB11:=xhd hsa.2
 clear hsa hS hw11 HSA hsz
 refine (progpart_any _).mono ?_
 rintro r w12 ⟨pb12,pc12,rfl,hT,hpb,hb⟩
 have HI12:=xhd (HI11.out.below hb)
 have HB12:=xhd ((hb.block _ (lt_of_block HB11.out)).trans HB11.out)
 have HC12:=xhd (sevprogs_any pb12 pc12 S HI12.out.rd HCL.out hT HB12.out (by have:=HI11.out.l1;have:=HI11.out.siz;omega) (by have:=lt_of_block HB11.out;omega) (by have:=HI11.out.l1;have:=HS1.out;omega) (fun h0=>by have:=HI11.out.bwl h0;have:=HS1.out;omega))
 simp only [List.length_singleton]
 clear hT hpb hb
 go_wp2_with fail
 refine HC12.out.mono ?_
 rintro r w13 ⟨vp,qv,xs,ps,sp,rfl,k1,k2,k3,k4,k5,k6,hmap,hsp,hps,hpl⟩
 have hof:=RuI.of HI12.out HB12.out HS1.out HI12.out.siz k1 k2 k3 k4 k5 k6
 rw [HE6.out] at hsp hps
 simp only at hsp hps
 subst hsp
 obtain⟨avp,cvp,hvp,_⟩:=ownsRow_shape k1
 subst hvp
 obtain⟨avq,cvq,hvq,_⟩:=ownsRow_shape k4
 subst hvq
 have HPS:=xhd hps
 have HPL:=xhd hpl
 have HMP:=xhd hmap
 obtain⟨np,hnp⟩:∃n,xs.length=n:=⟨_,rfl⟩
 obtain⟨nq,hnq⟩:∃n,(ps.map fun x=>(x.2:Int)).length=n:=⟨_,rfl⟩
 rw [hnp] at hof
 rw [hnq] at hof
 rw [hnp]
 obtain⟨x0,x1,x2,x3,x4⟩:=st_cells hof.1
 have fx4:=not_frozen hof.1 4
 have HU:=xhd hof.2
 have HW14:Hid (∃W,w13.setCell ⟨w.heap.size+1,4,none⟩ (.slice avp np cvp)=W):=⟨_,rfl⟩
 clear hof k1 k2 k3 k4 k5 k6 hmap hps hpl hnp hnq
 go_wp2_with fail
 obtain⟨w14,hw14⟩:=HW14.out
 rw [hw14] at HU
 simp only [hw14]
 clear hw14 HW14 x0 x1 x2 x3 x4 fx4
 have HV:Hid (∀V:World,(∀k,k≠w.heap.size→k < w14.heap.size→V.heap[k]?=w14.heap[k]?)→V.cell? ⟨w.heap.size+1,0,none⟩=some (.int .i64 c)∧V.cell? ⟨w.heap.size+1,1,none⟩=some (.int .i64 g)∧V.cell? ⟨w.heap.size+1,2,none⟩=some (.slice avg ng cvg)∧V.cell? ⟨w.heap.size+1,3,none⟩=some (.slice avl nl cvl)∧V.cell? ⟨w.heap.size+1,4,none⟩=some (.slice avp np cvp)∧V.cell? ⟨S,0,none⟩=some (.slice avq nq cvq)):=xhd (fun V hV=>by
  obtain⟨x0,x1,x2,x3,x4⟩:=st_cells ((hV _ (by omega) (lt_of_block HU.out.st)).trans HU.out.st)
  exact⟨x0,x1,x2,x3,x4,cell1 ((hV _ (by have:=HS1.out;omega) (lt_of_block HU.out.sb)).trans HU.out.sb)⟩)
 have s0:=HV.out w14.drew (fun k _ _=>rfl)
 have s1:=HV.out ((((((w14.setCell ⟨w.heap.size,0,none⟩ (.int .i64 c)).setCell ⟨w.heap.size,1,none⟩ (.int .i64 g)).setCell ⟨w.heap.size,2,none⟩ (.slice avg ng cvg)).setCell ⟨w.heap.size,3,none⟩ (.slice avl nl cvl)).setCell ⟨w.heap.size,4,none⟩ (.slice avp np cvp)).drew) (fun k hk _=>st_kept hk)
 obtain⟨z0,z1,z2,z3,z4⟩:=st_cells HU.out.res
 have fz0:=not_frozen HU.out.res 0
 have fz1:=not_frozen HU.out.res 1
 have fz2:=not_frozen HU.out.res 2
 have fz3:=not_frozen HU.out.res 3
 have fz4:=not_frozen HU.out.res 4
 go_region_held3 (fun V=>V.cell? ⟨w.heap.size+1,0,none⟩=some (.int .i64 c)∧V.cell? ⟨w.heap.size+1,1,none⟩=some (.int .i64 g)∧V.cell? ⟨w.heap.size+1,2,none⟩=some (.slice avg ng cvg)∧V.cell? ⟨w.heap.size+1,3,none⟩=some (.slice avl nl cvl)∧V.cell? ⟨w.heap.size+1,4,none⟩=some (.slice avp np cvp)∧V.cell? ⟨S,0,none⟩=some (.slice avq nq cvq))
  (first|with_reducible exact s0|with_reducible exact s1)
  (fail)
 clear s0 s1 z0 z1 z2 z3 z4 fz0 fz1 fz2 fz3 fz4
 have hres:((((((w14.setCell ⟨w.heap.size,0,none⟩ (.int .i64 c)).setCell ⟨w.heap.size,1,none⟩ (.int .i64 g)).setCell ⟨w.heap.size,2,none⟩ (.slice avg ng cvg)).setCell ⟨w.heap.size,3,none⟩ (.slice avl nl cvl)).setCell ⟨w.heap.size,4,none⟩ (.slice avp np cvp)).drew).heap[w.heap.size]?=some (.cells #[.int .i64 c, .int .i64 g, .slice avg ng cvg, .slice avl nl cvl, .slice avp np cvp] 26 (0,0)):=st_five HU.out.res
 have hkept:∀k,k≠w.heap.size→((((((w14.setCell ⟨w.heap.size,0,none⟩ (.int .i64 c)).setCell ⟨w.heap.size,1,none⟩ (.int .i64 g)).setCell ⟨w.heap.size,2,none⟩ (.slice avg ng cvg)).setCell ⟨w.heap.size,3,none⟩ (.slice avl nl cvl)).setCell ⟨w.heap.size,4,none⟩ (.slice avp np cvp)).drew).heap[k]?=w14.heap[k]?:=fun k hk=>st_kept (w:=w14) hk
 have htur:Turned [b] w ((((((w14.setCell ⟨w.heap.size,0,none⟩ (.int .i64 c)).setCell ⟨w.heap.size,1,none⟩ (.int .i64 g)).setCell ⟨w.heap.size,2,none⟩ (.slice avg ng cvg)).setCell ⟨w.heap.size,3,none⟩ (.slice avl nl cvl)).setCell ⟨w.heap.size,4,none⟩ (.slice avp np cvp)).drew):=(((((HU.out.t.setCell (.inr (Nat.le_refl _)) _).setCell (.inr (Nat.le_refl _)) _).setCell (.inr (Nat.le_refl _)) _).setCell (.inr (Nat.le_refl _)) _).setCell (.inr (Nat.le_refl _)) _).drew
 obtain⟨W15,hW15⟩:∃W,((((((w14.setCell ⟨w.heap.size,0,none⟩ (.int .i64 c)).setCell ⟨w.heap.size,1,none⟩ (.int .i64 g)).setCell ⟨w.heap.size,2,none⟩ (.slice avg ng cvg)).setCell ⟨w.heap.size,3,none⟩ (.slice avl nl cvl)).setCell ⟨w.heap.size,4,none⟩ (.slice avp np cvp)).drew)=W:=⟨_,rfl⟩
 rw [hW15] at hres hkept htur
 simp only [hW15]
 have HRES:=xhd hres
 have HKEPT:=xhd hkept
 have HTUR:=xhd htur
 clear hW15 hres hkept htur
 go_wp2
 refine bodyPost_ret (st_res2 rfl rfl rfl HRES.out) rfl ?_
 have hb1:=HI0.out.l1
 have hrow:∀(e:TypeId) (size n:Nat) (u:Value) (ys:List Value),w14.ownsRow (w.heap.size+2) e size u n ys→W15.ownsRow w.heap.size e size u n ys:=fun e size n u ys hu=>row_base (ownsRow_same hu fun k hk1 _=>HKEPT.out k (by have:=row_own hu k (by simpa using hk1);omega)) (by omega)
 refine⟨_,_,_,_,(c,g,gs,ls,ps),xs,sp,rfl,hrow _ _ _ _ _ HU.out.gr,hrow _ _ _ _ _ HU.out.lr,hrow _ _ _ _ _ HU.out.pr,fun x hx=>hrow _ _ _ _ _ (HU.out.po x hx),hrow _ _ _ _ _ HU.out.qr,RwI.keep HU.out.rd (HKEPT.out _ (by omega)) (fun h0=>HKEPT.out _ (by have:=HI0.out.bwl h0;omega)),HTUR.out,HMP.out,by rw [HQ.out],fun h0=>?_,HPL.out⟩
 have hl0:sl.2=0:=by
  by_cases hd:sl.2=0
  ·exact hd
  ·rw [HD5.out hd] at h0
   exact absurd h0 hd
 have hg0:sg.2=0:=by
  by_cases hd:sg.2=0
  ·exact hd
  ·rw [HD4.out hd] at hl0
   exact absurd hl0 hd
 rw [HQ.out,HGS.out hg0,HLS.out hl0,HPS.out h0]
end Go.Proofs.YtbnhnnccioljhaaGreatDoor
