/-
  The program's reader of acts: a number, an act.
  The program's reader of acts: an act, at any word.
  From a walk to a row: slices of deeds and of integers, opened to their cells; what a law's row asks of the world behind the call.
  The program's Each of acts, and what a loop over it hands out.
  The program's reader of acts: acts; Parse.
  The program's Parse of acts.
  Where a word begins: the program's byteOf, the document's place.
  Where Parse of setups, and of acts, stops: at a place of the words. No program but the reader's plain lemmas.
  The program's Scan, plainly: what holds at each word. No program of its own.
  The program's clash.
  Digits, blanks, remarks, for the program.
-/
import Derived.Test.YtbnhnnccioljhaaGreatDoorZAH
import Derived.Test.YtbnhnnccioljhaaGreatDoorZAD
import Derived.Test.YtbnhnnccioljhaaGreatDoorRows
import Derived.WalkKit
import Derived.ProofKit
import Derived.OpenShut
import Derived.Deep.Slices
import Derived.Deep.Fields
import Derived.ChangeSame
import Derived.Test.YtbnhnnccioljhaaGreatDoorZAE
import Derived.Lib.SliceRun
import Derived.Shelf.Abstract
import Derived.OwnWalkIn
import Derived.TacticsInMore
import Derived.LoopNIn
import Derived.LoopIn
import Derived.Sort.LoopGhostIn
import Derived.Test.YtbnhnnccioljhaaGreatDoorZAA
import Derived.Test.YtbnhnnccioljhaaGreatDoorZAl
set_option maxRecDepth 100000
set_option maxHeartbeats 25600000
namespace Go.Proofs.YtbnhnnccioljhaaGreatDoor
open Go.RowKit
theorem word_field2 (a:Int) (t:ByteArray) (n p:Int) (w:World):(Instr.field 95 (.agg #[.int .i64 a, .string t, .int .i64 n, .int .i64 p]) 2).run Tryz.prog w= .ok (.int .i64 n) w:=by kernel_rfl
theorem anum_any {w:World} {b:Nat} {ao:Option Addr} {bw off cap:Nat} {L:List Wd} {c:Nat} {e:Int} (h:RdI w b ao bw off cap L c e) (hL:Clean L) (hN:In9 L):
  Calls Tryz.prog 165 #[.pointer (some ⟨b,0,none⟩), .agg #[.int .i64 0, .int .i64 999999999]] w (NumP (rdnR L c 0 999999999 e).1 w b ao L.length cap (rdnR L c 0 999999999 e).2.1 (rdnR L c 0 999999999 e).2.2):=by
 have h0:=h.below ((Below.refl _ w).alloc (Nat.le_refl _) (.cells #[.int .i64 0, .int .i64 999999999] 149))
 have hnx:=fun V hV=>next_any (h0.below (w':=V) hV)
 obtain⟨k,t,m,hy⟩:=next_form L c
 have hin:=next_in9 hL hN c
 rw [hy] at hin
 simp only at hin
 simp only [hy] at hnx
 unfold wdV at hnx
 simp only at hnx
 obtain⟨tb,htb⟩:∃tb:ByteArray,⟨t.toArray⟩=tb:=⟨_,rfl⟩
 simp only [htb] at hnx
 have hha:=fun W=>has_any 0 999999999 m W
 rw [decide_eq_true hin.1,decide_eq_true hin.2] at hha
 have hnu:=fun V (hV:RdI V b ao bw off cap L c e)=>number_any hV hL 0 999999999
 obtain⟨⟨v,c',e'⟩,hr⟩:∃r,rdnR L c 0 999999999 e=r:=⟨_,rfl⟩
 rw [hr]
 simp only [hr] at hnu
 have HNX:=xhd hnx
 have HHA:=xhd hha
 have HNU:=xhd hnu
 have hf:=fun W=>word_field2 k tb m 0 W
 have HR0:=xhd h0
 have HB0:=xhd (heap_alloc_new w (.cells #[.int .i64 0, .int .i64 999999999] 149))
 have HBW:=xhd ((Below.refl _ w).alloc (Nat.le_refl _) (.cells #[.int .i64 0, .int .i64 999999999] 149))
 clear h h0 hnx hha hnu hy hin htb hr
 obtain⟨W0,hW0⟩:∃W0,w.alloc (.cells #[.int .i64 0, .int .i64 999999999] 149)=W0:=⟨_,rfl⟩
 rw [hW0] at HNX HR0 HB0 HBW
 have HW0:=xhd hW0
 clear hW0
 have s0:=two_cells (show W0.drew.heap[w.heap.size]?=some (.cells #[.int .i64 0, .int .i64 999999999] 149 (0,0)) from HB0.out)
 have HS:=xhd (fun V (hV:Below W0.heap.size W0 V)=>two_cells ((hV.block _ (lt_of_block HB0.out)).trans HB0.out))
 have HBD:Hid (Below W0.heap.size W0 W0.drew):=xhd (Below.refl _ W0).drew
 go_enter Tryz.func165,Tryz.ntmps165
 go_wp2_with fail
 rw [HW0.out]
 go_region_held3 (fun V=>V.cell? ⟨w.heap.size,0,none⟩=some (.int .i64 0)∧V.cell? ⟨w.heap.size,1,none⟩=some (.int .i64 999999999))
  (first|exact s0|exact s1|exact s2)
  (first
    |(go_at_call 137
      with_reducible refine (HNX.out _ HBD.out).mono ?_
      rintro r V1 ⟨rfl,hb⟩
      have hbe:=HBD.out.trans (hb.mono HBD.out.size)
      have HBE:=xhd hbe
      have s1:=HS.out _ hbe
      clear hb hbe)
    |(go_at_call 112
      with_reducible refine (HHA.out _).mono ?_
      rintro r V2 ⟨rfl,hb⟩
      have hbf:=HBE.out.trans (hb.mono HBE.out.size)
      have HBF:=xhd hbf
      have s2:=HS.out _ hbf
      clear hb hbf))
 have HR2:=xhd (HR0.out.below HBF.out)
 obtain⟨q0,q1⟩:=s2
 clear s0 s1
 go_wp2_with fail
 with_reducible refine (HNU.out _ HR2.out).mono ?_
 rintro r w3 ⟨rfl,hr,ht⟩
 have HR3:=xhd hr
 have HT3:=xhd ((turned_below (HBW.out.trans (HBF.out.mono HBW.out.size)) [b]).trans ht (Newer.refl _ _))
 clear hr ht
 go_wp2
 go_ret
 exact⟨rfl,HR3.out,HT3.out⟩
structure AcF (w V:World) (b S:Nat) (sh nm:Array Value) (rc:Array Value):Prop where
 rd:V.heap[b]?=some (.cells rc 116 (0,0))
 res:V.heap[w.heap.size]?=some (.cells #[.int .i64 0, .int .i64 0, .int .i64 0, .int .i64 0, .int .i64 0] 73 (0,0))
 shp:V.heap[S]?=some (.cells sh 160 (0,0))
 num:V.heap[S+1]?=some (.cells nm 162 (0,0))
 tur:Turned [b] w V
 bw:b < w.heap.size
 sw:w.heap.size < S
theorem AcF.step {w V V':World} {b S:Nat} {sh nm rc rc':Array Value} (h:AcF w V b S sh nm rc) (t:Turned [b] V V') (hr:V'.heap[b]?=some (.cells rc' 116 (0,0))):AcF w V' b S sh nm rc':=by
 have:=h.bw
 have:=h.sw
 exact⟨hr,t.same h.res (by simp;omega),t.same h.shp (by simp;omega),t.same h.num (by simp;omega),h.tur.trans t (Newer.refl _ _),h.bw,h.sw⟩
theorem AcF.below {w V V':World} {b S:Nat} {sh nm rc:Array Value} (h:AcF w V b S sh nm rc) (hb:Below V.heap.size V V'):AcF w V' b S sh nm rc:=
 h.step (turned_below hb [b]) ((hb.block _ (lt_of_block h.rd)).trans h.rd)
theorem AcF.put {w V:World} {b S:Nat} {sh nm rc:Array Value} (h:AcF w V b S sh nm rc) (o:Nat) (v:Value):AcF w (V.setCell ⟨S+1,o,none⟩ v) b S sh (nm.setIfInBounds o v) rc:=by
 have h1:=h.bw
 have h2:=h.sw
 refine⟨(Below.heap_setCell _ _ _ _ (by show b≠S+1;omega)).trans h.rd,(Below.heap_setCell _ _ _ _ (by show w.heap.size≠S+1;omega)).trans h.res,(Below.heap_setCell _ _ _ _ (by show S≠S+1;omega)).trans h.shp,heap_setCell_same _ _ _ _ _ _ h.num,h.tur.setCell (.inr (by show w.heap.size≤S+1;omega)) _,h.bw,h.sw⟩
theorem AcF.start {w w3:World} {b:Nat} {sh nm rc:Array Value} (hr:w.heap[b]?=some (.cells rc 116 (0,0))) (h:Below (w.alloc (.cells #[.int .i64 0, .int .i64 0, .int .i64 0, .int .i64 0, .int .i64 0] 73)).heap.size (w.alloc (.cells #[.int .i64 0, .int .i64 0, .int .i64 0, .int .i64 0, .int .i64 0] 73)) w3):
  AcF w ((w3.alloc (.cells sh 160)).alloc (.cells nm 162)) b w3.heap.size sh nm rc:=by
 obtain⟨h1,h2⟩:=box_kept h
 have hl:=lt_of_block h1
 have hbl:=lt_of_block hr
 have h3:Below w.heap.size w ((w3.alloc (.cells sh 160)).alloc (.cells nm 162)):=(h2.alloc h2.size _).alloc (by have:=h2.size;simp;omega) _
 have h4:=heap_alloc_new (w3.alloc (.cells sh 160)) (.cells nm 162)
 rw [World.size_alloc] at h4
 refine⟨(h3.block _ hbl).trans hr,?_,?_,h4,turned_below h3 _,hbl,hl⟩
 ·exact (Below.heap_alloc _ _ _ (by simp;omega)).trans ((Below.heap_alloc _ _ _ hl).trans h1)
 ·exact (Below.heap_alloc _ _ _ (by simp)).trans (heap_alloc_new _ _)
theorem act_res {fn:Func} {p:Tmp} (hf:fn.results= #[.cell p 73]) {tmps:Array Value} {w:World} {B:Nat} {a b c d e:Value} (hp:tmps.getD p undef= .pointer (some ⟨B,0,none⟩)) (h:w.heap[B]?=some (.cells #[a,b,c,d,e] 73 (0,0))):
  (results fn tmps).run Tryz.prog w= .ok (.agg #[a,b,c,d,e]) w:=by
 obtain⟨h0,h1,h2,h3,h4⟩:=act_cells h
 rw [results_one hf,hp]
 simp [loadVar,go_sem,h0,h1,h2,h3,h4]
theorem act_set {w:World} {B:Nat} {a b c d e a' b' c' d' e':Value} {t:TypeId} (h:w.heap[B]?=some (.cells #[a,b,c,d,e] t (0,0))):
  (((((w.setCell ⟨B,0,none⟩ a').setCell ⟨B,1,none⟩ b').setCell ⟨B,2,none⟩ c').setCell ⟨B,3,none⟩ d').setCell ⟨B,4,none⟩ e').heap[B]?=some (.cells #[a',b',c',d',e'] t (0,0)):=by
 rw [heap_setCell_same _ _ _ _ _ _ (heap_setCell_same _ _ _ _ _ _ (heap_setCell_same _ _ _ _ _ _ (heap_setCell_same _ _ _ _ _ _ (heap_setCell_same _ _ _ _ _ _ h))))]
 rfl
abbrev zeroA:Obj:= .cells #[.int .i64 0, .int .i64 0, .int .i64 0, .int .i64 0, .int .i64 0] 73
theorem afive_stored {w V:World} {b:Nat} {rc:Array Value} (hr:V.heap[b]?=some (.cells rc 116 (0,0))) (hres:∃p q r s u,V.heap[w.heap.size]?=some (.cells #[p,q,r,s,u] 73 (0,0))) (t:Turned [b] w V) (hb:b < w.heap.size) (a' b' c' d' e':Value):
  (((((V.setCell ⟨w.heap.size,0,none⟩ a').setCell ⟨w.heap.size,1,none⟩ b').setCell ⟨w.heap.size,2,none⟩ c').setCell ⟨w.heap.size,3,none⟩ d').setCell ⟨w.heap.size,4,none⟩ e').heap[w.heap.size]?=some (.cells #[a',b',c',d',e'] 73 (0,0))∧
  (((((V.setCell ⟨w.heap.size,0,none⟩ a').setCell ⟨w.heap.size,1,none⟩ b').setCell ⟨w.heap.size,2,none⟩ c').setCell ⟨w.heap.size,3,none⟩ d').setCell ⟨w.heap.size,4,none⟩ e').heap[b]?=some (.cells rc 116 (0,0))∧
  Turned [b] w (((((V.setCell ⟨w.heap.size,0,none⟩ a').setCell ⟨w.heap.size,1,none⟩ b').setCell ⟨w.heap.size,2,none⟩ c').setCell ⟨w.heap.size,3,none⟩ d').setCell ⟨w.heap.size,4,none⟩ e'):=by
 obtain⟨p,q,r,s,u,hres⟩:=hres
 have hne:b≠w.heap.size:=by omega
 refine⟨act_set hres,?_,((((t.setCell (.inr (Nat.le_refl _)) _).setCell (.inr (Nat.le_refl _)) _).setCell (.inr (Nat.le_refl _)) _).setCell (.inr (Nat.le_refl _)) _).setCell (.inr (Nat.le_refl _)) _⟩
 rw [Below.heap_setCell _ _ _ _ hne,Below.heap_setCell _ _ _ _ hne,Below.heap_setCell _ _ _ _ hne,Below.heap_setCell _ _ _ _ hne,Below.heap_setCell _ _ _ _ hne]
 exact hr
theorem act_none {w:World} {b:Nat} {ao:Option Addr} {bw off cap:Nat} {L:List Wd} {c:Nat} {e:Int} (h:RdI w b ao bw off cap L c e) (hk:kindA (nextR L c)=0):
  Calls Tryz.prog 139 #[.pointer (some ⟨b,0,none⟩)] w (StepP (acV (0,0,0,0,0)) w b ao L.length cap c (failE e 5)):=by
 have h0:=h.below ((Below.refl _ w).alloc (Nat.le_refl _) zeroA)
 have HNX:=xhd (next_any h0)
 have HRD:=xhd (fun V (hV:Below (w.alloc zeroA).heap.size (w.alloc zeroA) V)=>h0.below hV)
 have HKD:=xhd (fun W=>akindof_any (nextR L c) W)
 rw [hk] at HKD
 obtain⟨y,hy⟩:∃y,nextR L c=y:=⟨_,rfl⟩
 simp only [hy] at HNX HKD
 obtain⟨e5,he5⟩:∃e5,failE e 5=e5:=⟨_,rfl⟩
 have HFL:=xhd (fun V (hV:RdI V b ao bw off cap L c e)=>fail_any hV.rd 5)
 simp only [he5] at HFL ⊢
 have HBW:=xhd (lt_of_block h.rd)
 obtain⟨yv,hyv⟩:∃yv,wdV y=yv:=⟨_,rfl⟩
 simp only [hyv] at HNX HKD
 clear hy hyv hk he5 h h0
 go_enter Tryz.func139,Tryz.ntmps139
 go_wp2_with fail
 with_reducible refine HNX.out.mono ?_
 rintro r w1 ⟨rfl,hb1⟩
 have HB1:=xhd hb1
 clear hb1
 go_wp2_with fail
 with_reducible refine (HKD.out _).mono ?_
 rintro r w2 ⟨rfl,hb2⟩
 have HB2:=xhd (HB1.out.trans (hb2.mono HB1.out.size))
 clear hb2
 go_wp2_with fail
 with_reducible refine (HFL.out _ (HRD.out _ HB2.out)).mono ?_
 rintro r w3 ⟨rfl,hr,ht⟩
 obtain⟨hx,hb2⟩:=box_kept HB2.out
 have hne:w.heap.size ∉ [b]:=by have:=HBW.out;simp;omega
 have HX3:=xhd (ht.same hx hne)
 have HFIN:=xhd (fun a b' c' d' e'=>afive_stored hr ⟨_,_,_,_,_,ht.same hx hne⟩ ((turned_below hb2 [b]).trans ht (Newer.refl _ _)) HBW.out a b' c' d' e')
 clear hr ht hx hb2 hne
 obtain⟨c0,c1,c2,c3,c4⟩:=act_cells HX3.out
 have f0:=not_frozen HX3.out 0
 have f1:=not_frozen HX3.out 1
 have f2:=not_frozen HX3.out 2
 have f3:=not_frozen HX3.out 3
 have f4:=not_frozen HX3.out 4
 go_wp2
 refine bodyPost_ret (act_res rfl rfl (HFIN.out _ _ _ _ _).1) rfl ?_
 exact⟨rfl,(HFIN.out _ _ _ _ _).2.1,(HFIN.out _ _ _ _ _).2.2⟩
abbrev padN (out:List Int):Array Value:= #[.int .i64 (out.getD 0 0), .int .i64 (out.getD 1 0), .int .i64 (out.getD 2 0), .int .i64 (out.getD 3 0)]
theorem pad_put {out:List Int} {i:Nat} (h:out.length=i) (hi:i < 4) (v:Int):(padN out).setIfInBounds i (.int .i64 v)=padN (out++[v]):=by
 have hg:∀j,(out++[v]).getD j 0=if j=i then v else out.getD j 0:=by
  intro j
  rw [List.getD_eq_getElem?_getD,List.getD_eq_getElem?_getD]
  by_cases hj:j=i
  ·subst hj
   rw [if_pos rfl,List.getElem?_append_right (by omega)]
   simp [h]
  ·rw [if_neg hj]
   rcases Nat.lt_or_ge j i with h2|h2
   ·rw [List.getElem?_append_left (by omega)]
   ·rw [List.getElem?_append_right (by omega),List.getElem?_eq_none (by simp;omega),List.getElem?_eq_none (by omega)]
 unfold padN
 simp only [hg]
 have:i=0∨i=1∨i=2∨i=3:=by omega
 rcases this with rfl|rfl|rfl|rfl<;>rfl
theorem acell_at {w:World} {B k:Nat} {X:Array Value} {t:TypeId} {f:Nat×Nat} (h:w.heap[B]?=some (.cells X t f)) (hk:k < X.size):w.cell? ⟨B,k,none⟩=some X[k]:=by
 simp [World.cell?,h,hk]
theorem act_some {w:World} {b:Nat} {ao:Option Addr} {bw off cap:Nat} {L:List Wd} {c:Nat} {e:Int} (h:RdI w b ao bw off cap L c e) (hL:Clean L) (hN:In9 L) {k:Nat} (hk:kindA (nextR L c)=k) (hk0:k≠0)
  {c1:Nat} {e1:Int} (h1:needQ L c e (1,acName (k:Int),0,0)=(c1,e1)) {ns:List Int} {c2:Nat} {e2:Int} (h2:numsQ L (acMany (k:Int)) c1 e1 []=(ns,c2,e2)) {c3:Nat} {e3:Int} (h3:needQ L c2 e2 (3,[59],0,0)=(c3,e3)):
  Calls Tryz.prog 139 #[.pointer (some ⟨b,0,none⟩)] w (StepP (acV (mkAc (k:Int) ns)) w b ao L.length cap c3 e3):=by
 have h0:=h.below ((Below.refl _ w).alloc (Nat.le_refl _) zeroA)
 have HNX:=xhd (next_any h0)
 have HRT:=xhd (fun V c' e' (t:Turned [b] w V) hr hc=>h.turned (c':=c') (e':=e') t hr hc)
 have HKD:=xhd (fun W=>akindof_any (nextR L c) W)
 rw [hk] at HKD
 have hsh:=fun W=>ashape_any (k:Int) W
 obtain⟨s,n,es,hs,hn⟩:=ashape_let (k:Int)
 subst hn
 simp only [es] at hsh
 have HSH:=xhd hsh
 have HNM:=xhd (fun s W=>pname_any s W)
 have HMK:=xhd (fun s W=>pmark_any s W)
 have hN1:=fun V (hV:RdI V b ao bw off cap L c e)=>need_any hV (1,acName (k:Int),0,0)
 have hN4:=fun V (hV:RdI V b ao bw off cap L c2 e2)=>need_any hV (3,[59],0,0)
 have hl1:c1≤L.length:=by
  have:=needQ_le (e:=e) (x:=(1,acName (k:Int),0,0)) h.le (by show (1:Int)≠0;decide)
  rw [h1] at this
  exact this
 have hl2:c2≤L.length:=by
  have:=numsQ_le (acMany (k:Int)) c1 e1 [] hl1
  rw [h2] at this
  exact this
 have hm4:=many_four (k:Int)
 obtain⟨m,hm⟩:∃m,acMany (k:Int)=m:=⟨_,rfl⟩
 rw [hm] at h2 hm4 HSH
 have et:(⟨(acName (k:Int)).toArray⟩:ByteArray)=s:=by rw [←hs,Lib.mk_data]
 unfold wdV at hN1 hN4
 simp only [h1,h3,et] at hN1 hN4
 have HN1:=xhd hN1
 have HN4:=xhd hN4
 have HNU:=xhd (fun V c' e' (hV:RdI V b ao bw off cap L c' e')=>anum_any hV hL hN)
 have HMY:=xhd (fun (p:Int) W=>amay_any s (m:Int) p W)
 obtain⟨y,hy⟩:∃y,nextR L c=y:=⟨_,rfl⟩
 simp only [hy] at HNX HKD
 obtain⟨yv,hyv⟩:∃yv,wdV y=yv:=⟨_,rfl⟩
 simp only [hyv] at HNX HKD
 have HRD:=xhd h.rd
 have HLE:=xhd h.le
 have HL1:=xhd hl1
 have HL2:=xhd hl2
 have HNS:=xhd h2
 have hkb:((k:Int) == 0)=false:=by simp;omega
 clear hy hyv hk h h0 hN1 hN4 hsh es hs h1 h3 hL hN hk0 hl1 et h2 hl2 hm
 go_enter Tryz.func139,Tryz.ntmps139
 go_wp2_with fail
 with_reducible refine HNX.out.mono ?_
 rintro r w1 ⟨rfl,hb1⟩
 have HB1:=xhd hb1
 clear hb1
 go_wp2_with fail
 with_reducible refine (HKD.out _).mono ?_
 rintro r w2 ⟨rfl,hb2⟩
 have HB2:=xhd (HB1.out.trans (hb2.mono HB1.out.size))
 clear hb2
 go_wp2_with fail
 with_reducible refine (HSH.out _).mono ?_
 rintro r w3 ⟨rfl,hb3⟩
 have HB3:=xhd (HB2.out.trans (hb3.mono HB2.out.size))
 clear hb3
 have HF:=xhd (AcF.start (sh:= #[.string s, .int .i64 (m:Nat)]) (nm:=padN []) HRD.out HB3.out)
 have HW5:Hid (∃W5,(w3.alloc (.cells #[.string s, .int .i64 (m:Nat)] 160)).alloc (.cells (padN []) 162)=W5):=⟨_,rfl⟩
 go_wp2_with fail
 obtain⟨W5,hW5⟩:=HW5.out
 have hW5':(w3.alloc (.cells #[.string s, .int .i64 (m:Nat)] 160)).alloc (.cells #[.int .i64 0, .int .i64 0, .int .i64 0, .int .i64 0] 162)=W5:=hW5
 rw [hW5] at HF
 rw [hW5']
 clear hW5 hW5' HW5
 obtain⟨S,hS⟩:∃S,w3.heap.size=S:=⟨_,rfl⟩
 rw [hS] at HF ⊢
 clear hS
 with_reducible refine (HNM.out _ _).mono ?_
 rintro r w6 ⟨rfl,hb⟩
 have HF6:=xhd (HF.out.below hb)
 clear hb
 go_wp2_with fail
 with_reducible refine (HN1.out _ (HRT.out _ _ _ HF6.out.tur HF6.out.rd HLE.out)).mono ?_
 rintro r w7 ⟨rfl,hr,ht⟩
 have HF7:=xhd (HF6.out.step ht hr)
 clear hr ht
 obtain⟨d0,d1⟩:=two_cells HF7.out.shp
 go_wp2_with fail
 clear d0 d1
 go_loopw [24] (fun i' wr=>∃(i:Nat) (cc:Nat) (ee:Int) (out:List Int),i'= .int .i64 i∧i≤m∧Hid (AcF w wr b S #[.string s, .int .i64 (m:Nat)] (padN out) (rdC ao L.length cap cc ee))∧Hid (out.length=i)∧Hid (cc≤L.length)∧Hid (numsQ L (m - i) cc ee out=(ns,c2,e2))) (fun i' _=>m - (intOf i').toNat)
 case atStart=>exact⟨0,c1,e1,[],rfl,Nat.zero_le _,HF7,xhd rfl,HL1,HNS⟩
 case round=>
  obtain⟨i,cc,ee,out,rfl,hi,HF,HO,HC,HG⟩:=hrel
  by_cases hlt:i < m
  ·have i0:(0:Int)≤i:=by omega
   have i1:(i:Int) < m:=by omega
   have i4:(i:Int) < 4:=by omega
   have i2:IntKind.i64.wrap ((i:Int)+1)=(i:Int)+1:=by rw [IntKind.wrap_i64];omega
   have hg:=HG.out
   rw [show m - i=(m - (i+1))+1 by omega,numsQ] at hg
   have hnu:=HNU.out
   obtain⟨⟨v,cn,en⟩,hr⟩:∃r,rdnR L cc 0 999999999 ee=r:=⟨_,rfl⟩
   have hcl:=rdnR_le (L:=L) (c:=cc) (lo:=0) (hi:=999999999) (e:=ee) HC.out
   rw [hr] at hg hcl
   have hnu2:=fun V (hV:RdI V b ao bw off cap L cc ee)=>hnu V cc ee hV
   simp only [hr] at hnu2 hg hcl
   have hmy:=fun W=>HMY.out (i:Int) W
   rw [show mostA (m:Int) (i:Int)=999999999 from if_neg (by omega)] at hmy
   have HMI:=xhd hmy
   have HNI:=xhd hnu2
   have HG2:=xhd hg
   have HCL:=xhd hcl
   clear hg hnu hr hcl hnu2 hmy
   obtain⟨d0,d1⟩:=two_cells HF.out.shp
   go_wp2_with fail
   with_reducible refine (HMI.out _).mono ?_
   rintro r w8 ⟨rfl,hb⟩
   have HF8:=xhd (HF.out.below hb)
   clear hb d0 d1
   go_wp2_with fail
   with_reducible refine (HNI.out _ (HRT.out _ _ _ HF8.out.tur HF8.out.rd HC.out)).mono ?_
   rintro r w9 ⟨rfl,hr,ht⟩
   have hf9:=HF8.out.step ht hr
   have hp:=hf9.put i (.int .i64 v)
   rw [pad_put HO.out (by omega) v] at hp
   have HP:=xhd hp
   have q0:=acell_at hf9.num (k:=i) (by show i < 4;omega)
   have f0:=not_frozen hf9.num i
   obtain⟨q,hq⟩:∃q,(padN out)[i]'(by show i < 4;omega)=q:=⟨_,rfl⟩
   rw [hq] at q0
   have HOL:Hid ((out++[v]).length=i+1):=xhd (by rw [List.length_append,List.length_singleton,HO.out])
   clear hr ht hf9 hp hq
   go_wp2
   go_roundw
   case rel=>exact⟨i+1,cn,en,out++[v],by go_num,by omega,HP,HOL,HCL,HG2⟩
   case measure=>simp [intOf];omega
  ·have hg:=HG.out
   rw [show m - i=0 by omega] at hg
   simp only [numsQ,Prod.mk.injEq] at hg
   obtain⟨rfl,rfl,rfl⟩:=hg
   have ni:¬(i:Int) < m:=by omega
   clear HG HO
   go_wp2_with fail
   with_reducible refine (HMK.out _ _).mono ?_
   rintro r w10 ⟨rfl,hb⟩
   have HF10:=xhd (HF.out.below hb)
   clear hb
   go_wp2_with fail
   with_reducible refine (HN4.out _ (HRT.out _ _ _ HF10.out.tur HF10.out.rd HL2.out)).mono ?_
   rintro r w11 ⟨rfl,hr,ht⟩
   have HF11:=xhd (HF10.out.step ht hr)
   have HFIN:=xhd (fun a b' c' d' e'=>afive_stored HF11.out.rd ⟨_,_,_,_,_,HF11.out.res⟩ HF11.out.tur HF11.out.bw a b' c' d' e')
   clear hr ht
   obtain⟨n0,n1,n2,n3⟩:=word_cells HF11.out.num
   obtain⟨r0,r1,r2,r3,r4⟩:=act_cells HF11.out.res
   have f0:=not_frozen HF11.out.res 0
   have f1:=not_frozen HF11.out.res 1
   have f2:=not_frozen HF11.out.res 2
   have f3:=not_frozen HF11.out.res 3
   have f4:=not_frozen HF11.out.res 4
   go_wp2
   refine bodyPost_ret (act_res rfl rfl (HFIN.out _ _ _ _ _).1) rfl ?_
   exact⟨rfl,(HFIN.out _ _ _ _ _).2.1,(HFIN.out _ _ _ _ _).2.2⟩
theorem act_any {w:World} {b:Nat} {ao:Option Addr} {bw off cap:Nat} {L:List Wd} {c:Nat} {e:Int} (h:RdI w b ao bw off cap L c e) (hL:Clean L) (hN:In9 L):
  Calls Tryz.prog 139 #[.pointer (some ⟨b,0,none⟩)] w (StepP (acV (acQ L c e).1) w b ao L.length cap (acQ L c e).2.1 (acQ L c e).2.2):=by
 unfold acQ
 by_cases hk:kindA (nextR L c)=0
 ·rw [if_pos hk]
  exact act_none h hk
 ·rw [if_neg hk]
  exact act_some h hL hN rfl hk rfl rfl rfl
end Go.Proofs.YtbnhnnccioljhaaGreatDoor
namespace Go.Proofs.YtbnhnnccioljhaaGreatDoor
open Go.ChangeShapes Go.WideShapes Go.ChangeAt Go.RowKit Go.Deep
theorem own:ownKnob Tryz.prog.godebug=none:=by kernel_rfl
theorem laidOut:laidOutB Tryz.prog=true:=by kernel_rfl
section
variable {H:Type} {enc:TypeId×Value→H} {P:Program}
theorem post_law {f:Func} {s:ChangeSpec} {apart fresh handsOn:Bool} {W W':World} {args:Array Value} {v:Value} {ds gs:List (DataW H)} {before pa pv:List MemPlace}
  (hW:DataW.Whole enc P f.params.toList s.vars apart W args.toList ds gs before) (hb:Below W.heap.size W W')
  (hres:∀(b:Nat) (sp:Nat→Bool) (hd:Bool),DataW.TrodAll enc P W' b sp hd f.resultTypes.toList (v.resultList f.resultTypes.size) (s.fn H (ds++gs)).results [])
  (hargs:DataW.TrodAll enc P W' 0 (fun b=>decide (b < W.heap.size)) true f.params.toList args.toList (s.fn H (ds++gs)).args pa)
  (hvars:DataW.TrodVars enc P W' (fun b=>decide (b < W.heap.size)) s.vars (s.fn H (ds++gs)).vars pv):s.post enc P f apart fresh handsOn false W args v W':=by
 exact⟨ds,gs,before,[],pa,pv,hW,hres _ _ _,hargs,hvars,hb.frame _,fun h=>by cases h⟩
variable {w:World} {base:Nat} {spare:Nat→Bool} {held:Bool}
theorem spot_none {w:World} {a:Addr} {v:Value} (h:w.cell? a=some v):∃b off,a=⟨b,off,none⟩∧b < w.heap.size:=by
 have hb:=World.block_lt_of_cell? w a h
 obtain⟨b,off,s⟩:=a
 cases s with
 |none=>exact⟨b,off,rfl,hb⟩
 |some s=>
  unfold World.cell? at h
  split at h<;>simp at h
end
end Go.Proofs.YtbnhnnccioljhaaGreatDoor
namespace Go.Proofs.YtbnhnnccioljhaaGreatDoor
open Go.RowKit Go.Maps Go.Shelf
theorem act_new (w:World):(w.alloc (.cells #[] 73)).ownsRow w.heap.size 73 5 (.slice (some ⟨w.heap.size,0,none⟩) 0 0) 0 []:=
 World.ownsRow_made w #[] 0 (Nat.le_refl _) (by simp) (by simp)
theorem aclone_any (ao:Option Addr) (b off cap:Nat) (L:List Ac) (w:World) (h:AArg w ao b off L) (hm:L.length≤100000):
  Calls Tryz.prog 97 #[.slice ao L.length cap] w fun e w'=>∃v,e= .returned v∧ARow w.heap.size w' v L∧Below w.heap.size w w':=by
 obtain⟨i0,hi0,hz0,hz1,hz2⟩:=info_parts act_info
 have hnil:∀(w:World) (a:Option Addr) (n c:Nat),(binOp .eql 27 (.slice a n c) (.slice none 0 0)).run Tryz.prog w= .ok (.bool a.isNone) w:=fun w a n c=>Lib.run_eql_slice_nil w _ _ a n c 0 0 Tryz.underlying27
 cases ao with
 |none=>
  have hL:L=[]:=by
   cases L with
   |nil=>rfl
   |cons x l=>exact absurd (h.at_ (by simp)).1 (by simp)
  subst hL
  rw [List.length_nil]
  clear h hm
  go_enter Tryz.func97,Tryz.ntmps97
  go_wp2
  go_ret
  exact⟨_,rfl,World.ownsRow_nil _ _ _ _,Below.refl _ _⟩
 |some p=>
  have hp:0 < L.length→p=⟨b,off,none⟩:=fun h0=>Option.some.inj (h.at_ h0).1
  have hcells:∀j u,(acsC L)[j]?=some u→(w.alloc (.cells #[] 73)).cell? (p.add j)=some u:=by
   intro j u hu
   have hj:=(List.getElem?_eq_some_iff.1 hu).1
   rw [acsC_len] at hj
   rw [hp (by omega)]
   have h2:=h.below ((Below.refl _ w).alloc (Nat.le_refl _) (.cells #[] 73))
   exact aarg_cells h2 j u hu
  have HC:=xhd hcells
  have HL:=xhd (acsC_len L)
  obtain⟨n,hn⟩:∃n,L.length=n:=⟨_,rfl⟩
  have HN:=xhd hn
  rw [hn] at hm HL ⊢
  clear hcells h hp hn
  go_enter Tryz.func97,Tryz.ntmps97
  go_wp2_with (at_builtin;refine wpList_append_own _ rfl _ _ 27 rfl w.heap.size 73 i0 (.agg #[.int .i64 0, .int .i64 0, .int .i64 0, .int .i64 0, .int .i64 0]) 5 40 Tryz.underlying27 hi0 hz0 hz1 hz2 rfl (by decide) _ 0 [] rfl (act_new w) p n cap (acsC L) rfl HL.out HC.out (acsC_one L) (by unfold maxLen;omega) (by omega) (by simp) ?_)
  intro v' w1 hown hgrow _
  have hown2:ARow w.heap.size w1 v' L:=by
   unfold ARow
   rw [HN.out]
   simpa using hown
  have HO:=xhd hown2
  have HB:=xhd (app_below ((Below.refl _ w).alloc (Nat.le_refl _) (.cells #[] 73)) (Nat.le_refl _) (Nat.le_refl _) (act_new w) hgrow)
  clear hown hgrow hown2
  go_wp2
  go_ret
  exact⟨_,rfl,HO.out,HB.out⟩
def KeptA (n₀:Nat) (w:World) (B:Nat) (L:List Ac):Prop:=∃cv:Value,w.heap[B]?=some (.cells #[cv] 27 (0,0))∧n₀≤B∧ARow n₀ w cv L
theorem aeach_any (ao:Option Addr) (b off cap:Nat) (L:List Ac) (w:World) (h:AArg w ao b off L) (hm:L.length≤100000):
  Calls Tryz.prog 47 #[.slice ao L.length cap] w fun e w'=>∃B,e= .returned (.func (.func 98) #[] #[.pointer (some ⟨B,0,none⟩)])∧KeptA w.heap.size w' B L∧Below w.heap.size w w':=by
 have HC:=xhd (aclone_any ao b off cap L _ h hm)
 clear h hm
 obtain⟨n,hn⟩:∃n,L.length=n:=⟨_,rfl⟩
 rw [hn] at HC ⊢
 clear hn
 go_enter Tryz.func47,Tryz.ntmps47
 go_wp2_with fail
 refine HC.out.mono ?_
 rintro e w1 ⟨v,rfl,hrow,hb⟩
 obtain⟨av,vcap,rfl,_,_⟩:=ownsRow_shape hrow
 have HK:=xhd (show KeptA w.heap.size (w1.alloc (.cells #[.slice av L.length vcap] 27)) w1.heap.size L from⟨_,heap_alloc_new w1 _,hb.size,hrow.alloc _⟩)
 have HB:=xhd (hb.alloc hb.size (.cells #[.slice av L.length vcap] 27))
 clear hrow hb
 go_wp2
 go_ret
 exact⟨_,rfl,HK.out,HB.out⟩
attribute [local go_sem] Oper.semAt_some
abbrev encA (x:Ac×Nat):Array Value:= #[.int .i64 (x.2:Nat), .agg #[.int .i64 x.1.1, .int .i64 x.1.2.1, .int .i64 x.1.2.2.1, .int .i64 x.1.2.2.2.1, .int .i64 x.1.2.2.2.2]]
theorem aeach1_seq {n n₀:Nat} (hn:1≤n) {w:World} {B:Nat} {L:List Ac} (h:KeptA n₀ w B L) (hL:L.length≤100000):
  ∃Y:List Nat,(∀k ∈ Y,n₀≤k∧k < w.heap.size)∧TurnSeq Fence.wide n Tryz.prog 98 #[.pointer (some ⟨B,0,none⟩)] encA [] Y (fun xs=>xs <+:L.zipIdx) (fun xs _=>xs=L.zipIdx) (fun xs _=>xs <+:L.zipIdx) w:=by
 obtain⟨cv,h1,h2,h3⟩:=h
 refine⟨cv.ownBlock.toList,fun k hk=>⟨(h3.lt k (by simpa using hk)).1,ownsRow_lt h3 k hk⟩,?_⟩
 intro l J Jx W hW hJ hY hj0
 have b0:=cell1 (hW.same h1 (by simp))
 have hr:=ownsRow_same (w':=W) h3 (fun k _ hl=>hW.block k hl (by simp))
 have HJ:=xhd hJ
 have HY:=xhd hY
 have HR:=xhd hr
 obtain⟨av,vcap,hv,_,_⟩:=ownsRow_shape hr
 subst hv
 clear hJ hY h1 h3 hr
 refine callsIn_of_wp Tryz.func98 rfl trivial ?_ rfl
 simp only [Tryz.ntmps98,List.size_toArray,List.length_cons,List.length_nil,Nat.reduceAdd,Nat.reduceSub,Array.replicate_succ,Array.replicate_zero,List.push_toArray,List.append_toArray,List.nil_append,List.cons_append]
 gi_wp2
 gi_loopw [7] (fun i wr=>∃k:Nat,k≤L.length∧i= .int .i64 k∧Hid (J (L.zipIdx.take k) wr)∧Hid (ARow n₀ wr (.slice av L.length vcap) L)) (fun i _=>L.length - (intOf i).toNat)
 case atStart=>exact⟨0,Nat.zero_le _,rfl,xhd hj0,HR⟩
 case round=>
  obtain⟨k,hk,rfl,HJ0,HRR⟩:=hrel
  by_cases hlt:k < L.length
  ·obtain⟨g,cap',hv,_,_⟩:=ownsRow_pos HRR.out (by omega)
   simp only [Value.slice.injEq] at hv
   obtain⟨rfl,_,rfl⟩:=hv
   have rc:=row_ac HRR.out k hlt
   obtain⟨⟨n1,n2,n3,n4,n5⟩,hnd⟩:∃nd,L[k]=nd:=⟨_,rfl⟩
   rw [hnd] at rc
   simp only at rc
   obtain⟨r0,r1,r2,r3,r4⟩:=rc
   have htk:L.zipIdx.take (k+1)=L.zipIdx.take k++[((n1,n2,n3,n4,n5),k)]:=by
    rw [List.take_succ_eq_append_getElem (by rw [List.length_zipIdx];exact hlt),List.getElem_zipIdx,hnd]
    simp
   have ta:Turned [] wr (wr.alloc (.cells #[.int .i64 n1, .int .i64 n2, .int .i64 n3, .int .i64 n4, .int .i64 n5] 73)):=(Turned.refl [] wr).alloc _
   have hgl:g < wr.heap.size:=ownsRow_lt HRR.out g (by simp [Value.ownBlock])
   obtain⟨fn,tmps,assign,body,hy,hR⟩:=HY.out (L.zipIdx.take k) ((n1,n2,n3,n4,n5),k) (wr.alloc (.cells #[.int .i64 n1, .int .i64 n2, .int .i64 n3, .int .i64 n4, .int .i64 n5] 73)) (HJ.out _ _ _ HJ0.out ta) (by rw [←htk];exact List.take_prefix _ _)
   have HTK:=xhd htk
   have i1:(k:Int) < L.length:=by omega
   have i0:(0:Int)≤k:=by omega
   clear hnd htk ta
   (try dsimp only at hy)
   gi_wp2
   refine hR.mono ?_
   rintro e W3 ⟨hs,hz,⟨rfl,hj3⟩ |⟨rfl,hx3⟩⟩
   ·have J3:=xhd hj3
    have R3:=xhd (ownsRow_same HRR.out (fun j hj hl=>by
     have h1:=hs j hj
     rw [h1]
     exact Below.heap_alloc _ _ _ hl))
    clear hj3 hs hz
    gi_wp2
    go_roundw
    case rel=>exact⟨k+1,by omega,by simp,by rw [HTK.out];exact J3,R3⟩
    case measure=>simp [intOf];omega
   ·have J3:=xhd hx3
    clear hx3 hs hz
    gi_wp2
    refine bodyPost_ret (results_none rfl _ _ _) rfl ?_
    exact⟨⟨_,rfl⟩, .inr ⟨_,by rw [←HTK.out];exact List.take_prefix _ _,J3.out⟩⟩
  ·obtain rfl:k=L.length:=by omega
   gi_wp2
   go_end0
   have hj:=HJ0.out
   rw [List.take_of_length_le (by rw [List.length_zipIdx];exact Nat.le_refl _)] at hj
   exact⟨⟨_,rfl⟩, .inl (by first|exact hj|exact⟨_,rfl,hj⟩)⟩
end Go.Proofs.YtbnhnnccioljhaaGreatDoor
namespace Go.Proofs.YtbnhnnccioljhaaGreatDoor
open Go.RowKit
def AcsP (L:List Wd) (A:Except Bad (List Ac×Nat)) (w:World) (b:Nat) (ao:Option Addr) (cap:Nat) (r:Ending) (w':World):Prop:=
 ∃(v:Value) (out:List Ac) (c:Nat) (e:Int),r= .returned v∧w'.heap[b]?=some (.cells (rdC ao L.length cap c e) 116 (0,0))∧Turned [b] w w'∧ARow w.heap.size w' v out∧c≤L.length∧
  ((e=0∧A= .ok (out,c))∨(e≠0∧A= .error (c,e)))
structure AcsW (L:List Wd) (A:Except Bad (List Ac×Nat)) (w wr:World) (b:Nat) (ao:Option Addr) (cap c:Nat) (e:Int) (out:List Ac) (v:Value):Prop where
 st:AcsI L A c e out
 rd:wr.heap[b]?=some (.cells (rdC ao L.length cap c e) 116 (0,0))
 tur:Turned [b] w wr
 row:ARow w.heap.size wr v out
 le:c≤L.length
 bw:b < w.heap.size
theorem AcsW.below {L:List Wd} {A:Except Bad (List Ac×Nat)} {w wr wr':World} {b:Nat} {ao:Option Addr} {cap c:Nat} {e:Int} {out:List Ac} {v:Value} (h:AcsW L A w wr b ao cap c e out v) (hb:Below wr.heap.size wr wr'):AcsW L A w wr' b ao cap c e out v:=
 ⟨h.st,(hb.block _ (lt_of_block h.rd)).trans h.rd,h.tur.trans (turned_below hb [b]) (Newer.refl _ _),row_below h.row hb,h.le,h.bw⟩
theorem arow_turned {w w':World} {b base:Nat} {e:TypeId} {size:Nat} {v:Value} {n:Nat} {xs:List Value} (h:w.ownsRow base e size v n xs) (t:Turned [b] w w') (hb:b < base):w'.ownsRow base e size v n xs:=
 row_same h fun k hk hl=>t.block k hl (by simp;omega)
theorem AcsW.push {L:List Wd} {A:Except Bad (List Ac×Nat)} {w wr w1 w4:World} {b:Nat} {ao:Option Addr} {cap c c':Nat} {e e':Int} {out:List Ac} {v v':Value} {o:Ac} (h:AcsW L A w wr b ao cap c e out v)
  (t:Turned [b] wr w1) (hr:w1.heap[b]?=some (.cells (rdC ao L.length cap c' e') 116 (0,0))) (hst:AcsI L A c' e' (out++[o])) (hle:c'≤L.length)
  (hown:w4.ownsRow w.heap.size 73 5 v' (out.length+1) (acsC out++acC o)) (hg:w1.grownBy w4 v.ownBlock):AcsW L A w w4 b ao cap c' e' (out++[o]) v':=by
 have hrow1:=arow_turned h.row t h.bw
 have hb:Below w.heap.size w1 w4:=app_below (Below.refl _ _) (Nat.le_trans h.tur.size t.size) (Nat.le_refl _) hrow1 hg
 have t2:=h.tur.trans t (Newer.refl _ _)
 refine⟨hst,(hb.block _ h.bw).trans hr,⟨hb.os.trans t2.os,hb.tape.trans t2.tape,hb.output.trans t2.output,Nat.le_trans t2.size hb.size,fun k hk hx=>(hb.block k hk).trans (t2.block k hk hx)⟩,?_,hle,h.bw⟩
 unfold ARow
 rw [acsC_snoc,List.length_append,List.length_singleton]
 exact hown
theorem AcsW.fin {L:List Wd} {A:Except Bad (List Ac×Nat)} {w wr:World} {b:Nat} {ao:Option Addr} {cap c:Nat} {e:Int} {out:List Ac} {v:Value} (h:AcsW L A w wr b ao cap c e out v)
  (he:(e=0∧A= .ok (out,c))∨(e≠0∧A= .error (c,e))):AcsP L A w b ao cap (.returned v) wr:=
 ⟨v,out,c,e,rfl,h.rd,h.tur,h.row,h.le,he⟩
theorem act_at (w:World) (a b c d e:Value):∀j u,([a,b,c,d,e]:List Value)[j]?=some u→(w.alloc (.cells #[a,b,c,d,e] 73)).cell? ((⟨w.heap.size,0,none⟩:Addr).add j)=some u:=by
 intro j u hu
 have h:=heap_alloc_new w (.cells #[a,b,c,d,e] 73)
 have hj:j < 5:=by
  have:=(List.getElem?_eq_some_iff.1 hu).1
  simpa using this
 rw [Addr.add_lit,Nat.zero_add]
 simp only [World.cell?,h]
 simpa using hu
def lenA:Value→Nat
 | .slice _ n _=>n
 |_=>0
theorem acts_gen {A:Except Bad (List Ac×Nat)} {w:World} {b:Nat} {ao:Option Addr} {bw off cap:Nat} {L:List Wd} {c0:Nat} {e0:Int} (h:RdI w b ao bw off cap L c0 e0) (hL:Clean L) (hN:In9 L) (hA:AcsI L A c0 e0 []):
  Calls Tryz.prog 68 #[.pointer (some ⟨b,0,none⟩)] w (AcsP L A w b ao cap):=by
 obtain⟨i0,hi0,hz0,hz1,hz2⟩:=info_parts act_info
 have HRT:=xhd (fun V c' e' (t:Turned [b] w V) hr hc=>h.turned (c':=c') (e':=e') t hr hc)
 have HCL:=xhd hL
 have HIN:=xhd hN
 have HST:Hid (AcsW L A w w b ao cap c0 e0 [] (.slice none 0 0)):=⟨hA,h.rd,Turned.refl _ _,World.ownsRow_nil _ _ _ _,h.le,lt_of_block h.rd⟩
 clear hA h hL hN
 go_enter Tryz.func68,Tryz.ntmps68
 go_wp2_with fail
 go_loopw [3] (fun l' wr=>∃(c:Nat) (e:Int) (out:List Ac),Hid (AcsW L A w wr b ao cap c e out l')) (fun l' _=>4001 - lenA l')
 case atStart=>exact⟨c0,e0,[],HST⟩
 case round=>
  obtain⟨c,e,out,HW⟩:=hrel
  obtain⟨aov,capv,hv,_⟩:=ownsRow_shape HW.out.row
  subst hv
  obtain⟨m,hm⟩:∃m,out.length=m:=⟨_,rfl⟩
  have HM:=xhd hm
  obtain⟨hl1,hl0⟩:=HW.out.st.len
  rw [hm] at HW hl1 hl0 ⊢
  by_cases he:e=0
  ·subst he
   have hl0:=hl0 rfl
   have HRI:=xhd (fun V (hb:Below wr.heap.size wr V)=>HRT.out V c 0 (HW.out.below hb).tur (HW.out.below hb).rd HW.out.le)
   have HGL:=xhd (goes_live HW.out.rd)
   by_cases hc:c < L.length
   ·have hen:=ends_any (HRI.out wr (Below.refl _ _))
    rw [decide_eq_false (by omega)] at hen
    have HEN:=xhd hen
    have HNX:=xhd (fun V (hb:Below wr.heap.size wr V)=>next_any (HRI.out V hb))
    have hkd:=fun W=>akindof_any (nextR L c) W
    obtain⟨kq,hkq⟩:∃kq,kindA (nextR L c)=kq:=⟨_,rfl⟩
    simp only [hkq] at hkd
    obtain⟨yv,hyv⟩:∃yv,wdV (nextR L c)=yv:=⟨_,rfl⟩
    simp only [hyv] at HNX hkd
    have HKD:=xhd hkd
    have hstep:=fun e1 (he:e1=if out.length=4000∧kindA (nextR L c)≠0 then (6:Int) else 0)=>HW.out.st.step HCL.out HIN.out hc he
    rw [HM.out,hkq] at hstep
    have HQL:=xhd (fun e1=>acQ_le (L:=L) (c:=c) (e:=e1) HW.out.le)
    have HOP:=xhd (fun V e1 (hV:RdI V b ao bw off cap L c e1)=>act_any hV HCL.out HIN.out)
    have hlive:∀(hx:¬(m=4000∧kq≠0)),∃c' e' o1 o2 o3 o4 o5,c'≤L.length∧AcsI L A c' e' (out++[(o1,o2,o3,o4,o5)])∧(∀V,RdI V b ao bw off cap L c 0→Calls Tryz.prog 139 #[.pointer (some ⟨b,0,none⟩)] V (StepP (.agg #[.int .i64 o1, .int .i64 o2, .int .i64 o3, .int .i64 o4, .int .i64 o5]) V b ao L.length cap c' e')):=fun hx=>by
     have hs:=hstep 0 (by rw [if_neg hx])
     have hq:=HQL.out 0
     have ho:=fun V hV=>HOP.out V 0 hV
     obtain⟨⟨⟨o1,o2,o3,o4,o5⟩,c',e'⟩,hoq⟩:∃x,acQ L c 0=x:=⟨_,rfl⟩
     rw [hoq] at hs hq
     simp only [hoq] at ho
     exact⟨c',e',o1,o2,o3,o4,o5,hq,hs,ho⟩
    have hdead:(m=4000∧kq≠0)→∃c' e' o1 o2 o3 o4 o5,c'≤L.length∧AcsI L A c' e' (out++[(o1,o2,o3,o4,o5)])∧(∀V,RdI V b ao bw off cap L c 6→Calls Tryz.prog 139 #[.pointer (some ⟨b,0,none⟩)] V (StepP (.agg #[.int .i64 o1, .int .i64 o2, .int .i64 o3, .int .i64 o4, .int .i64 o5]) V b ao L.length cap c' e')):=fun hx=>by
     have hs:=hstep 6 (by rw [if_pos hx])
     have hq:=HQL.out 6
     have ho:=fun V hV=>HOP.out V 6 hV
     obtain⟨⟨⟨o1,o2,o3,o4,o5⟩,c',e'⟩,hoq⟩:∃x,acQ L c 6=x:=⟨_,rfl⟩
     rw [hoq] at hs hq
     simp only [hoq] at ho
     exact⟨c',e',o1,o2,o3,o4,o5,hq,hs,ho⟩
    clear hstep hkd hen hyv hkq hm
    by_cases h4:m=4000
    ·by_cases hk0:kq≠0
     ·obtain⟨c',e',o1,o2,o3,o4,o5,hqx,hsx,hox⟩:=hdead ⟨h4,hk0⟩
      have HQX:=xhd hqx
      have HSX:=xhd hsx
      have HOX:=xhd hox
      clear hlive hdead hqx hsx hox
      have kb:(((kq:Nat):Int) != 0)=true:=by simp;omega
      subst h4
      go_wp2_with fail
      with_reducible refine HGL.out.mono ?_
      rintro r wr ⟨rfl,rfl⟩
      go_wp2_with fail
      with_reducible refine HEN.out.mono ?_
      rintro r w0 ⟨rfl,ne,hwe⟩
      have HB0:Hid (Below wr.heap.size wr w0):=xhd (by rw [hwe];exact below_drewN (Below.refl _ _) ne)
      clear hwe
      go_wp2_with fail
      with_reducible refine (HNX.out _ HB0.out).mono ?_
      rintro r w3 ⟨rfl,hb3⟩
      have HB3:=xhd (HB0.out.trans (hb3.mono HB0.out.size))
      clear hb3
      go_wp2_with fail
      with_reducible refine (HKD.out _).mono ?_
      rintro r w4 ⟨rfl,hb4⟩
      have HB4:=xhd (HB3.out.trans (hb4.mono HB3.out.size))
      clear hb4
      have HFL:=xhd (fail_live (HW.out.below HB4.out).rd 6)
      go_wp2_with fail
      with_reducible refine HFL.out.mono ?_
      rintro r w7 ⟨rfl,hr,ht⟩
      have HT7:=xhd ((turned_below HB4.out [b]).trans ht (Newer.refl _ _))
      have HR7:=xhd (HRT.out _ c 6 (HW.out.tur.trans HT7.out (Newer.refl _ _)) hr HW.out.le)
      clear hr ht
      go_wp2_with fail
      with_reducible refine (HOX.out _ HR7.out).mono ?_
      rintro r w5 ⟨rfl,hr,ht⟩
      have HR5:=xhd hr
      have HT5:=xhd ht
      clear hr ht
      have HT6:=xhd (HT7.out.trans HT5.out (Newer.refl _ _))
      go_wp2_with (at_builtin;refine wpList_append_own _ rfl _ _ 27 rfl w.heap.size 73 i0 (.agg #[.int .i64 0, .int .i64 0, .int .i64 0, .int .i64 0, .int .i64 0]) 5 40 Tryz.underlying27 hi0 hz0 hz1 hz2 rfl (by decide) _ _ _ rfl (row_below (arow_turned HW.out.row HT6.out HW.out.bw) ((Below.refl _ _).alloc (Nat.le_refl _) _)) ⟨_,0,none⟩ 1 1 [.int .i64 o1, .int .i64 o2, .int .i64 o3, .int .i64 o4, .int .i64 o5] rfl rfl ?c1 ?c2 ?c3 ?c4 ?c5 ?_)
      case c1=>exact act_at _ _ _ _ _ _
      case c2=>exact acC_one (o1,o2,o3,o4,o5)
      case c3=>(have:=HM.out;unfold maxLen;omega)
      case c4=>(have:=HM.out;omega)
      case c5=>exact Nat.le_trans (Nat.le_trans HW.out.tur.size HT6.out.size) (by simp)
      intro v' w6 hown hgrow _
      obtain⟨ao4,cap4,hv4,_⟩:=ownsRow_shape hown
      subst hv4
      have HP:=xhd (AcsW.push HW.out (HT6.out.alloc (.cells #[.int .i64 o1, .int .i64 o2, .int .i64 o3, .int .i64 o4, .int .i64 o5] 73)) ((Below.heap_alloc _ _ _ (lt_of_block HR5.out)).trans HR5.out) HSX.out HQX.out hown hgrow)
      clear hown hgrow
      go_wp2
      go_roundw
      case rel=>exact⟨_,_,_,HP⟩
      case measure=>(have:=HM.out;simp [lenA];omega)
     ·obtain⟨c',e',o1,o2,o3,o4,o5,hqx,hsx,hox⟩:=hlive (fun h=>hk0 h.2)
      have HQX:=xhd hqx
      have HSX:=xhd hsx
      have HOX:=xhd hox
      clear hlive hdead hqx hsx hox
      have k0:kq=0:=by simpa using hk0
      subst k0
      subst h4
      clear hk0
      go_wp2_with fail
      with_reducible refine HGL.out.mono ?_
      rintro r wr ⟨rfl,rfl⟩
      go_wp2_with fail
      with_reducible refine HEN.out.mono ?_
      rintro r w0 ⟨rfl,ne,hwe⟩
      have HB0:Hid (Below wr.heap.size wr w0):=xhd (by rw [hwe];exact below_drewN (Below.refl _ _) ne)
      clear hwe
      go_wp2_with fail
      with_reducible refine (HNX.out _ HB0.out).mono ?_
      rintro r w3 ⟨rfl,hb3⟩
      have HB3:=xhd (HB0.out.trans (hb3.mono HB0.out.size))
      clear hb3
      go_wp2_with fail
      with_reducible refine (HKD.out _).mono ?_
      rintro r w4 ⟨rfl,hb4⟩
      have HB4:=xhd (HB3.out.trans (hb4.mono HB3.out.size))
      clear hb4
      have HT7:=xhd (turned_below HB4.out [b])
      go_wp2_with fail
      with_reducible refine (HOX.out _ (HRI.out _ HB4.out)).mono ?_
      rintro r w5 ⟨rfl,hr,ht⟩
      have HR5:=xhd hr
      have HT5:=xhd ht
      clear hr ht
      have HT6:=xhd (HT7.out.trans HT5.out (Newer.refl _ _))
      go_wp2_with (at_builtin;refine wpList_append_own _ rfl _ _ 27 rfl w.heap.size 73 i0 (.agg #[.int .i64 0, .int .i64 0, .int .i64 0, .int .i64 0, .int .i64 0]) 5 40 Tryz.underlying27 hi0 hz0 hz1 hz2 rfl (by decide) _ _ _ rfl (row_below (arow_turned HW.out.row HT6.out HW.out.bw) ((Below.refl _ _).alloc (Nat.le_refl _) _)) ⟨_,0,none⟩ 1 1 [.int .i64 o1, .int .i64 o2, .int .i64 o3, .int .i64 o4, .int .i64 o5] rfl rfl ?c1 ?c2 ?c3 ?c4 ?c5 ?_)
      case c1=>exact act_at _ _ _ _ _ _
      case c2=>exact acC_one (o1,o2,o3,o4,o5)
      case c3=>(have:=HM.out;unfold maxLen;omega)
      case c4=>(have:=HM.out;omega)
      case c5=>exact Nat.le_trans (Nat.le_trans HW.out.tur.size HT6.out.size) (by simp)
      intro v' w6 hown hgrow _
      obtain⟨ao4,cap4,hv4,_⟩:=ownsRow_shape hown
      subst hv4
      have HP:=xhd (AcsW.push HW.out (HT6.out.alloc (.cells #[.int .i64 o1, .int .i64 o2, .int .i64 o3, .int .i64 o4, .int .i64 o5] 73)) ((Below.heap_alloc _ _ _ (lt_of_block HR5.out)).trans HR5.out) HSX.out HQX.out hown hgrow)
      clear hown hgrow
      go_wp2
      go_roundw
      case rel=>exact⟨_,_,_,HP⟩
      case measure=>(have:=HM.out;simp [lenA];omega)
    ·obtain⟨c',e',o1,o2,o3,o4,o5,hqx,hsx,hox⟩:=hlive (fun h=>h4 h.1)
     have HQX:=xhd hqx
     have HSX:=xhd hsx
     have HOX:=xhd hox
     clear hlive hdead hqx hsx hox
     have h4b:((m:Int) == 4000)=false:=by simp;omega
     go_wp2_with fail
     with_reducible refine HGL.out.mono ?_
     rintro r wr ⟨rfl,rfl⟩
     go_wp2_with fail
     with_reducible refine HEN.out.mono ?_
     rintro r w0 ⟨rfl,ne,hwe⟩
     have HB0:Hid (Below wr.heap.size wr w0):=xhd (by rw [hwe];exact below_drewN (Below.refl _ _) ne)
     clear hwe
     have HT7:=xhd (turned_below HB0.out [b])
     go_wp2_with fail
     with_reducible refine (HOX.out _ (HRI.out _ HB0.out)).mono ?_
     rintro r w5 ⟨rfl,hr,ht⟩
     have HR5:=xhd hr
     have HT5:=xhd ht
     clear hr ht
     have HT6:=xhd (HT7.out.trans HT5.out (Newer.refl _ _))
     go_wp2_with (at_builtin;refine wpList_append_own _ rfl _ _ 27 rfl w.heap.size 73 i0 (.agg #[.int .i64 0, .int .i64 0, .int .i64 0, .int .i64 0, .int .i64 0]) 5 40 Tryz.underlying27 hi0 hz0 hz1 hz2 rfl (by decide) _ _ _ rfl (row_below (arow_turned HW.out.row HT6.out HW.out.bw) ((Below.refl _ _).alloc (Nat.le_refl _) _)) ⟨_,0,none⟩ 1 1 [.int .i64 o1, .int .i64 o2, .int .i64 o3, .int .i64 o4, .int .i64 o5] rfl rfl ?c1 ?c2 ?c3 ?c4 ?c5 ?_)
     case c1=>exact act_at _ _ _ _ _ _
     case c2=>exact acC_one (o1,o2,o3,o4,o5)
     case c3=>(have:=HM.out;unfold maxLen;omega)
     case c4=>(have:=HM.out;omega)
     case c5=>exact Nat.le_trans (Nat.le_trans HW.out.tur.size HT6.out.size) (by simp)
     intro v' w6 hown hgrow _
     obtain⟨ao4,cap4,hv4,_⟩:=ownsRow_shape hown
     subst hv4
     have HP:=xhd (AcsW.push HW.out (HT6.out.alloc (.cells #[.int .i64 o1, .int .i64 o2, .int .i64 o3, .int .i64 o4, .int .i64 o5] 73)) ((Below.heap_alloc _ _ _ (lt_of_block HR5.out)).trans HR5.out) HSX.out HQX.out hown hgrow)
     clear hown hgrow
     go_wp2
     go_roundw
     case rel=>exact⟨_,_,_,HP⟩
     case measure=>(have:=HM.out;simp [lenA];omega)
   ·have hen:=ends_any (HRI.out wr (Below.refl _ _))
    rw [decide_eq_true (by omega)] at hen
    have HEN:=xhd hen
    have hA:=HW.out.st.last HW.out.le (by omega)
    have HA:=xhd hA
    clear hA hen hm
    go_wp2_with fail
    with_reducible refine HGL.out.mono ?_
    rintro r wr ⟨rfl,rfl⟩
    go_wp2_with fail
    with_reducible refine HEN.out.mono ?_
    rintro r w0 ⟨rfl,ne,hwe⟩
    have HB0:Hid (Below wr.heap.size wr w0):=xhd (by rw [hwe];exact below_drewN (Below.refl _ _) ne)
    clear hwe
    have HFIN:=xhd ((HW.out.below HB0.out).fin (.inl ⟨rfl,HA.out⟩))
    go_wp2
    go_ret
    exact HFIN.out
  ·have HGD:=xhd (goes_dead he HW.out.rd)
   have HFIN:=xhd (HW.out.fin (.inr ⟨he,HW.out.st.dead he⟩))
   clear he hm
   go_wp2_with fail
   with_reducible refine HGD.out.mono ?_
   rintro r wr ⟨rfl,rfl⟩
   go_wp2
   go_ret
   exact HFIN.out
def ParseAP (R:List Ac×Int×Int) (w:World) (e:Ending) (w':World):Prop:=
 ∃v,e= .returned (.tuple #[v, .int .i64 R.2.1, .int .i64 R.2.2])∧ARow w.heap.size w' v R.1∧Below w.heap.size w w'
theorem aparse_start {w:World} {ao:Option Addr} {b off cap:Nat} {L:List Wd} {a:Nat} {e0:Int} (h:WArg w ao b off L) (hm:L.length≤100000) (ha:a≤L.length):
  RdI (w.alloc (.cells (rdC ao L.length cap a e0) 116)) w.heap.size ao b off cap L a e0:=by
 have hb:Below w.heap.size w (w.alloc (.cells (rdC ao L.length cap a e0) 116)):=(Below.refl _ w).alloc (Nat.le_refl _) _
 exact⟨heap_alloc_new w _,h.below hb,fun h0=>by have:=(h.at_ h0).2;omega,ha,hm⟩
theorem aparse_gen {A:Except Bad (List Ac×Nat)} (ao:Option Addr) (b off cap:Nat) (L:List Wd) (a:Nat) (e0:Int) (vs:Value) (iat:Value) (w:World) (h:WArg w ao b off L) (hm:L.length≤100000) (ha:a≤L.length) (hL:Clean L) (hN:In9 L) (hA:AcsI L A a e0 [])
  (hread:∀w,Calls Tryz.prog 27 #[vs,iat] w fun r w'=>r= .returned (.pointer (some ⟨w.heap.size,0,none⟩))∧w'=w.alloc (.cells (rdC ao L.length cap a e0) 116))
  (R:List Ac×Int×Int) (hR:∀out c e,((e=0∧A= .ok (out,c))∨(e≠0∧A= .error (c,e)))→(e=0∧R=(out,(c:Int),0))∨(e≠0∧R=([],(c:Int),e))):
  Calls Tryz.prog 31 #[vs,iat] w (ParseAP R w):=by
 have hp:=acts_gen (aparse_start (cap:=cap) (e0:=e0) h hm ha) hL hN hA
 unfold AcsP at hp
 have HR:=xhd hR
 obtain⟨n,hn⟩:∃n,L.length=n:=⟨_,rfl⟩
 rw [hn] at hp hread
 have HP:=xhd hp
 have HRD:=xhd (hread w)
 clear hp hR hn h ha hm hread hL hN hA
 go_enter Tryz.func31,Tryz.ntmps31
 go_wp2_with fail
 with_reducible refine HRD.out.mono ?_
 rintro r w1 ⟨rfl,rfl⟩
 go_wp2_with fail
 refine HP.out.mono ?_
 rintro r w2 ⟨v,out,c,e,rfl,hr,ht,hrow, -,hq⟩
 have hb2:Below w.heap.size w w2:=(turned_box rfl ht).below (by simp) (Nat.le_refl _)
 have HB2:=xhd hb2
 have HROW:=xhd (row_base hrow (by simp:w.heap.size≤_))
 have HQ:=xhd (HR.out _ _ _ hq)
 have HMT:=xhd (met_any hr)
 obtain⟨aov,capv,hv,_⟩:=ownsRow_shape hrow
 subst hv
 clear hr ht hrow hq hb2
 go_wp2_with fail
 with_reducible refine HMT.out.mono ?_
 rintro r V ⟨rfl,q,hV⟩
 have HBV:Hid (Below w2.heap.size w2 V):=xhd (by rw [hV];exact below_drewN (Below.refl _ _) q)
 clear hV
 have HB3:=xhd (HB2.out.trans (HBV.out.mono HB2.out.size))
 have HROW3:=xhd (row_below HROW.out HBV.out)
 by_cases he:e=0
 ·subst he
  have hR:R=(out,(c:Int),0):=by
   rcases HQ.out with⟨_,h⟩ |⟨h,_⟩
   ·exact h
   ·exact absurd rfl h
  subst hR
  go_wp2
  go_ret3
  exact⟨_,rfl,HROW3.out,HB3.out⟩
 ·have hR:R=([],(c:Int),e):=by
    rcases HQ.out with⟨h,_⟩ |⟨_,h⟩
    ·exact absurd h he
    ·exact h
  subst hR
  have he1:(e != 0)=true:=by simpa using he
  clear he
  go_wp2
  go_ret3
  exact⟨_,rfl,World.ownsRow_nil _ _ _ _,HB3.out⟩
theorem aparse_any (ao:Option Addr) (b off cap:Nat) (L:List Wd) (at_:Int) (w:World) (h:WArg w ao b off L) (hm:L.length≤100000) (hL:Clean L) (hN:In9 L):
  Calls Tryz.prog 31 #[.slice ao L.length cap, .int .i64 at_] w (ParseAP (parseAc L at_) w):=by
 by_cases hout:at_ < 0∨(L.length:Int) < at_
 ·refine aparse_gen (A:= .error (0,5)) none 0 0 0 [] 0 5 _ _ w ⟨fun h=>absurd h (by simp),fun i hi=>by simp at hi⟩ (by simp) (Nat.le_refl _) clean_nil (fun x hx=>by cases hx) (.inr ⟨by decide,by simp,rfl⟩) (fun w=>pread_out ao L.length cap at_ w hout) _ ?_
  intro out c e hq
  rcases hq with⟨_,hq⟩ |⟨he,hq⟩
  ·cases hq
  ·injection hq with hq
   injection hq with h1 h2
   subst h1
   subst h2
   refine .inr ⟨he,?_⟩
   unfold parseAc
   rw [if_pos hout]
   rfl
 ·obtain⟨a,rfl⟩:∃a:Nat,at_=a:=⟨at_.toNat,by omega⟩
  refine aparse_gen (A:=acsP L (L.length+1) a []) ao b off cap L a 0 _ _ w h hm (by omega) hL hN (AcsI.start L a) (fun w=>pread_in ao L.length cap a w (by omega)) _ ?_
  intro out c e hq
  unfold parseAc
  rw [if_neg hout,Int.toNat_natCast]
  rcases hq with⟨he,hq⟩ |⟨he,hq⟩
  ·rw [hq]
   exact .inl ⟨he,rfl⟩
  ·rw [hq]
   exact .inr ⟨he,rfl⟩
theorem byteof_any (s:ByteArray) (ao:Option Addr) (b off cap:Nat) (L:List Wd) (k:Nat) (w:World) (h:WArg w ao b off L):
  Calls Tryz.prog 33 #[.string s, .slice ao L.length cap, .int .i64 k] w fun e w'=>e= .returned (.int .i64 (placeSc s.data.toList L k))∧w'=w:=by
 by_cases hk:k < L.length
 ·have e:placeSc s.data.toList L k=L[k].2.2.2:=by
    unfold placeSc
    rw [Int.toNat_natCast,List.getElem?_eq_getElem hk]
  rw [e]
  obtain⟨y0,y1,y2,y3⟩:=h.cells k hk
  obtain⟨hao,hlt⟩:=h.at_ (by omega)
  subst hao
  obtain⟨z,hz⟩:∃z,L[k].2.2.2=z:=⟨_,rfl⟩
  rw [hz] at y3 ⊢
  obtain⟨n,hn⟩:∃n,L.length=n:=⟨_,rfl⟩
  rw [hn] at hk ⊢
  have h0:(0:Int)≤k:=by omega
  have h1:¬(n:Int)≤k:=by omega
  have h2:(k:Int) < n:=by omega
  clear h hn hz e y0 y1 y2
  go_enter Tryz.func33,Tryz.ntmps33
  go_wp2
  go_ret
  exact⟨rfl,rfl⟩
 ·have e:placeSc s.data.toList L k=s.size:=by
    unfold placeSc
    rw [Int.toNat_natCast,List.getElem?_eq_none (by omega),Lib.size_eq]
  rw [e]
  have h1:(L.length:Int)≤k:=by omega
  clear h e
  go_enter Tryz.func33,Tryz.ntmps33
  go_wp2
  go_ret
  exact⟨rfl,rfl⟩
theorem rplace_any (s:ByteArray) (ao:Option Addr) (b off cap:Nat) (L:List Wd) (k:Nat) (w:World) (h:WArg w ao b off L):
  Calls Tryz.prog 39 #[.string s, .slice ao L.length cap, .int .i64 k] w fun e w'=>e= .returned (.int .i64 (placeSc s.data.toList L k))∧w'=w:=by
 by_cases hk:k < L.length
 ·have e:placeSc s.data.toList L k=L[k].2.2.2:=by
    unfold placeSc
    rw [Int.toNat_natCast,List.getElem?_eq_getElem hk]
  rw [e]
  obtain⟨y0,y1,y2,y3⟩:=h.cells k hk
  obtain⟨hao,hlt⟩:=h.at_ (by omega)
  subst hao
  obtain⟨z,hz⟩:∃z,L[k].2.2.2=z:=⟨_,rfl⟩
  rw [hz] at y3 ⊢
  obtain⟨n,hn⟩:∃n,L.length=n:=⟨_,rfl⟩
  rw [hn] at hk ⊢
  have h0:(0:Int)≤k:=by omega
  have h2:(k:Int) < n:=by omega
  clear h hn hz e y0 y1 y2
  go_enter Tryz.func39,Tryz.ntmps39
  go_wp2
  go_ret
  exact⟨rfl,rfl⟩
 ·have e:placeSc s.data.toList L k=s.size:=by
    unfold placeSc
    rw [Int.toNat_natCast,List.getElem?_eq_none (by omega),Lib.size_eq]
  rw [e]
  have h1:¬(k:Int) < L.length:=by omega
  clear h e
  go_enter Tryz.func39,Tryz.ntmps39
  go_wp2
  go_ret
  exact⟨rfl,rfl⟩
end Go.Proofs.YtbnhnnccioljhaaGreatDoor
namespace Go.Proofs.YtbnhnnccioljhaaGreatDoor
theorem fieldS_le {L:List Wd} {s:Rd} (h:s.1≤L.length) (name:List By) (most:Int):(fieldS L s name most).2.1≤L.length:=numS_le (needS_le h _ _) _
theorem lockS_le {L:List Wd} {s:Rd} (h:s.1≤L.length) (sh:Bool):(lockS L s sh).2.1≤L.length:=by
 unfold lockS
 have h1:=fieldS_le (fieldS_le h sliceB 16) critB 32
 cases sh
 ·exact needS_le h1 _ _
 ·exact needS_le (fieldS_le (fieldS_le h1 _ _) _ _) _ _
theorem is_ltS {L:List Wd} {s:Rd} {k:Int} {t:List By} (h:isS L s k t=true):s.1 < L.length:=by
 unfold isS at h
 simp only [Bool.and_eq_true,decide_eq_true_eq] at h
 exact is_lt h.2
theorem groupsS_le {L:List Wd} :∀(n:Nat) (s:Rd) (gs:List Int),s.1≤L.length→(groupsS L n s gs).2.1≤L.length
 |0,s,gs,h=>h
 |n+1,s,gs,h=>by
  unfold groupsS
  split
  ·split
   ·exact h
   ·exact groupsS_le n _ _ (needS_le (fieldS_le h _ _) _ _)
  ·exact h
theorem locksS_le {L:List Wd} :∀(n:Nat) (s:Rd) (ls:List Lk),s.1≤L.length→(locksS L n s ls).2.1≤L.length
 |0,s,ls,h=>h
 |n+1,s,ls,h=>by
  unfold locksS
  split
  ·next hi=>
   split
   ·exact h
   ·refine locksS_le n _ _ (lockS_le ?_ _)
    rcases hi with hi|hi<;>exact is_ltS hi
  ·exact h
theorem progsS_le {L:List Wd} :∀(n:Nat) (s:Rd) (ps:List (Prg×Nat)),s.1≤L.length→(∀x ∈ ps,x.2≤L.length)→(progsS L n s ps).2.1≤L.length∧∀x ∈ (progsS L n s ps).1,x.2≤L.length
 |0,s,ps,h,hp=>⟨h,hp⟩
 |n+1,s,ps,h,hp=>by
  unfold progsS
  split
  ·split
   ·exact⟨h,hp⟩
   ·obtain⟨k,hk,hl⟩:=parse_place (L:=L) h
    refine progsS_le n _ _ (by rw [hk];simpa using hl) (fun x hx=>?_)
    rcases List.mem_append.1 hx with hx|hx
    ·exact hp x hx
    ·simp only [List.mem_singleton] at hx
     subst hx
     exact h
  ·exact⟨h,hp⟩
theorem unfitS_le {L:List Wd} {locks:List Lk} {n:Int} {e:Rd} :∀ {ps:List (Prg×Nat)},(∀x ∈ ps,x.2≤L.length)→unfitS locks n ps=some e→e.1≤L.length
 |[],_,h=>by cases h
 |x::ps,hp,h=>by
  unfold unfitS at h
  split at h
  ·exact unfitS_le (fun y hy=>hp y (by simp [hy])) h
  ·injection h with h
   subst h
   exact hp x (by simp)
theorem parseS_place {L:List Wd} {a:Nat} (ha:a≤L.length):∃n:Nat,(parseS L a).2.1=n∧n≤L.length:=by
 have hh:(headS L a).2.2.1≤L.length:=needS_le (fieldS_le (needS_le (fieldS_le (s:=(a,0)) ha _ _) _ _) _ _) _ _
 have hg:=groupsS_le 6 (headS L a).2.2 [] hh
 have hl:=locksS_le 10 (groupsS L 6 (headS L a).2.2 []).2 [] hg
 have hp:=progsS_le 10 (locksS L 10 (groupsS L 6 (headS L a).2.2 []).2 []).2 [] hl (fun x hx=>by cases hx)
 unfold parseS
 rw [if_neg (by omega),Int.toNat_natCast]
 simp only
 split
 ·exact⟨_,rfl,hp.1⟩
 ·split
  ·next e he=>exact⟨_,rfl,unfitS_le hp.2 he⟩
  ·exact⟨_,rfl,hp.1⟩
theorem nums_place {L:List Wd} :∀(n c:Nat) (out:List Int),c≤L.length→placeE L (numsP L n c out)
 |0,c,out,h=>h
 |n+1,c,out,h=>by
  unfold numsP
  split
  ·next x hx=>
   have:=(List.getElem?_eq_some_iff.1 hx).1
   split
   ·exact nums_place n _ _ this
   ·exact h
  ·exact h
theorem ac_place {L:List Wd} {c:Nat} (h:c≤L.length) (k:Int):placeE L (acP L c k):=by
 have hn:=nums_place (acMany k) c [] h
 unfold acP
 cases e:numsP L (acMany k) c [] with
 |error x=>
  rw [e] at hn
  exact hn
 |ok x=>
  obtain⟨ns,c1⟩:=x
  rw [e] at hn
  simp only
  split
  ·next hi=>exact is_lt hi
  ·exact hn
theorem acs_place {L:List Wd} :∀(n c:Nat) (out:List Ac),c≤L.length→placeE L (acsP L n c out)
 |0,c,out,h=>h
 |n+1,c,out,h=>by
  unfold acsP
  split
  ·exact h
  ·next hlt=>
   split
   ·exact h
   ·split
    ·exact h
    ·have ha:=ac_place (L:=L) (c:=c+1) (by omega) (acKind L c)
     cases e:acP L (c+1) (acKind L c) with
     |error x=>
      rw [e] at ha
      exact ha
     |ok x=>
      rw [e] at ha
      exact acs_place n _ _ ha
theorem parseAc_place {L:List Wd} {a:Nat} (ha:a≤L.length):∃n:Nat,(parseAc L a).2.1=n∧n≤L.length:=by
 have h:=acs_place (L:=L) (L.length+1) a [] ha
 unfold parseAc
 rw [if_neg (by omega),Int.toNat_natCast]
 cases e:acsP L (L.length+1) a [] with
 |error x=>
  rw [e] at h
  exact⟨x.1,rfl,h⟩
 |ok x=>
  rw [e] at h
  exact⟨x.2,rfl,h⟩
structure ScanSt (L:List By) (k q:Nat) (ws:List Wd):Prop where
 le:k≤L.length
 qk:q≤k
 len:ws.length≤q
 eq:scanR L 0 false=prepR ws (scanR (L.drop k) k (decide (k=q)&&lastB ws))
 head:L.drop k=[]∨∃c t,L.drop k=c::t∧isBl c=false∧¬c.toNat=35
theorem ScanSt.step {L:List By} {q:Nat} {ws:List Wd} (hq:q≤L.length) (hl:ws.length≤q) (h:scanR L 0 false=prepR ws (scanR (L.drop q) q (lastB ws))):ScanSt L (q+skipN (L.drop q)) q ws:=by
 have hs:=skip_le _ (L.drop q) (Nat.le_refl _)
 rw [List.length_drop] at hs
 refine⟨by omega,by omega,hl,?_,?_⟩
 ·rw [h,scan_skip _ (L.drop q) q _ (Nat.le_refl _),List.drop_drop]
  congr 2
  rw [Bool.and_comm]
  congr 1
  rw [Bool.eq_iff_iff]
  simp
 ·rw [←List.drop_drop]
  exact skip_at _ _ (Nat.le_refl _)
theorem ScanSt.start (L:List By):ScanSt L (0+skipN (L.drop 0)) 0 []:=ScanSt.step (by omega) (by simp) (by rw [prepR_nil,List.drop_zero,lastB_nil])
theorem ScanSt.here {L:List By} {k q:Nat} {ws:List Wd} (h:ScanSt L k q ws) (hk:k < L.length):∃c t,L.drop k=c::t∧isBl c=false∧¬c.toNat=35:=by
 rcases h.head with h1|h1
 ·have:=congrArg List.length h1
  rw [List.length_drop] at this
  simp at this
  omega
 ·exact h1
theorem ScanSt.bad {L:List By} {k q:Nat} {ws:List Wd} (h:ScanSt L k q ws) (hk:k < L.length) (h0:(cutP (L.drop k)).2=0):scanR L 0 false= .error k:=by
 obtain⟨c,t,e,h1,h2⟩:=h.here hk
 rw [h.eq,e]
 rw [e,cut_one] at h0
 rw [scan_bad h1 h2 t k _ (by
  rw [one_place]
  cases ho:(oneR c t 0).2.2 with
  |false=>rfl
  |true=>rw [ho,if_pos rfl] at h0;simp at h0)]
 rfl
theorem ScanSt.clash {L:List By} {k q:Nat} {ws:List Wd} (h:ScanSt L k q ws) (hk:k < L.length) (hq:k=q) (hc:(lastB ws&&!decide ((cutP (L.drop k)).1.1=3))=true) (h0:¬(cutP (L.drop k)).2=0):scanR L 0 false= .error k:=by
 obtain⟨c,t,e,h1,h2⟩:=h.here hk
 rw [h.eq,e]
 rw [e,cut_one] at h0 hc
 have ho:(oneR c t 0).2.2=true:=by
  cases ho:(oneR c t 0).2.2 with
  |false=>rw [ho] at h0;simp at h0
  |true=>rfl
 rw [ho,if_pos rfl] at hc
 simp at hc
 rw [scan_bad h1 h2 t k _ (by
  rw [one_place]
  simp [placed,hq,hc.1,hc.2])]
 rfl
theorem ScanSt.next {L:List By} {k q:Nat} {ws:List Wd} (h:ScanSt L k q ws) (hk:k < L.length) (h0:¬(cutP (L.drop k)).2=0) (hc:(decide (k=q)&&(lastB ws&&!decide ((cutP (L.drop k)).1.1=3)))=false):
  k+(cutP (L.drop k)).2≤L.length∧ScanSt L (k+(cutP (L.drop k)).2+skipN (L.drop (k+(cutP (L.drop k)).2))) (k+(cutP (L.drop k)).2) (ws++[placed (cutP (L.drop k)).1 k]):=by
 obtain⟨c,t,e,h1,h2⟩:=h.here hk
 have hl:=congrArg List.length e
 rw [List.length_drop,List.length_cons] at hl
 have ho:(oneR c t 0).2.2=true:=by
  cases ho:(oneR c t 0).2.2 with
  |false=>rw [e,cut_one,ho] at h0;simp at h0
  |true=>rfl
 have hcut:cutP (L.drop k)=((oneR c t 0).1,1+(oneR c t 0).2.1):=by rw [e,cut_one,ho,if_pos rfl]
 have h1t:=one_le c t 0
 rw [hcut] at hc ⊢
 simp only at hc ⊢
 have hle:k+(1+(oneR c t 0).2.1)≤L.length:=by omega
 refine⟨hle,ScanSt.step hle (by have:=h.len;have:=h.qk;simp;omega) ?_⟩
 have e2:L.drop (k+(1+(oneR c t 0).2.1))=t.drop (oneR c t 0).2.1:=by
  rw [←List.drop_drop,e,Nat.add_comm 1,List.drop_succ_cons]
 rw [h.eq,e,scan_word h1 h2 t k _ (by
  rw [one_place]
  show (!(oneR c t 0).2.2||(decide (k=q)&&lastB ws&&!decide ((oneR c t 0).1.1=3)))=false
  rw [ho,Bool.and_assoc]
  exact hc),one_place,prepR_prepR,lastB_snoc,e2]
 simp only [placed]
 rw [show k+1+(oneR c t 0).2.1=k+(1+(oneR c t 0).2.1) by omega]
theorem ScanSt.done {L:List By} {k q:Nat} {ws:List Wd} (h:ScanSt L k q ws) (hk:¬k < L.length):scanR L 0 false= .ok ws:=by
 rw [h.eq,List.drop_eq_nil_of_le (by omega),scan_nil]
 simp [prepR]
end Go.Proofs.YtbnhnnccioljhaaGreatDoor
namespace Go.Proofs.YtbnhnnccioljhaaGreatDoor
open Go.RowKit
theorem clash_nil (a:Option Addr) (cap:Nat) (k m p:Int) (tx:ByteArray) (w:World):
  Calls Tryz.prog 65 #[.slice a 0 cap, .agg #[.int .i64 k, .string tx, .int .i64 m, .int .i64 p]] w fun e w'=>e= .returned (.bool false)∧Below w.heap.size w w':=by
 go_enter Tryz.func65,Tryz.ntmps65
 go_wp2
 go_ret
 exact⟨rfl,(Below.refl _ _).alloc (Nat.le_refl _) _⟩
theorem clash_at (g j cap:Nat) (q k m p:Int) (tx:ByteArray) (w:World) (hg:g < w.heap.size) (hj:j≤8000) (hc:w.cell? ⟨g,j*4,none⟩=some (.int .i64 q)):
  Calls Tryz.prog 65 #[.slice (some ⟨g,0,none⟩) (j+1) cap, .agg #[.int .i64 k, .string tx, .int .i64 m, .int .i64 p]] w fun e w'=>e= .returned (.bool ((q != 3)&&(k != 3)))∧Below w.heap.size w w':=by
 cases hq:(q != 3)
 all_goals
  go_enter Tryz.func65,Tryz.ntmps65
  go_wp2
  go_ret
  exact⟨rfl,(Below.refl _ _).alloc (Nat.le_refl _) _⟩
theorem clash_any {base:Nat} {w:World} {v:Value} {ws:List Wd} (h:WRow base w v ws) (hl:ws.length≤8000) (k m p:Int) (tx:ByteArray):
  Calls Tryz.prog 65 #[v, .agg #[.int .i64 k, .string tx, .int .i64 m, .int .i64 p]] w fun e w'=>e= .returned (.bool (lastB ws&&!decide (k=3)))∧Below w.heap.size w w':=by
 rcases List.eq_nil_or_concat ws with rfl|⟨ys,y,hws⟩
 ·obtain⟨a,cap,rfl,_⟩:=ownsRow_shape h
  rw [lastB_nil,Bool.false_and]
  exact clash_nil a cap k m p tx w
 ·try rw [List.concat_eq_append] at hws
  subst hws
  simp only [List.length_append,List.length_cons,List.length_nil] at hl
  obtain⟨g,cap,rfl,_,_⟩:=ownsRow_pos h (by simp)
  have hg:=(h.lt g (by simp [Value.ownBlock])).2
  have hc:=(row_word h ys.length (by simp)).1
  rw [List.getElem_concat_length rfl] at hc
  rw [lastB_snoc, ←ne3, ←ne3]
  have e:(ys++[y]).length=ys.length+1:=by simp
  rw [e]
  exact clash_at g ys.length cap y.1 k m p tx w hg (by omega) hc
theorem pdig_z (z:Int) (w:World):Calls Tryz.prog 123 #[.int .u8 z] w fun e w'=>e= .returned (.bool (decide (48≤z)&&decide (z≤57)))∧w'=w:=by
 cases h0:(decide (48≤z))
 all_goals
  go_enter Tryz.func123,Tryz.ntmps123
  go_wp2
  go_ret
  exact⟨rfl,rfl⟩
theorem pdig_any (c:By) (w:World):Calls Tryz.prog 123 #[.int .u8 c.toNat] w fun e w'=>e= .returned (.bool (isDig c))∧w'=w:=by
 have h:=pdig_z (c.toNat:Int) w
 rw [show decide ((48:Int)≤(c.toNat:Int))=decide (48≤c.toNat) from geb c 48,show decide ((c.toNat:Int)≤(57:Int))=decide (c.toNat≤57) from leb c 57] at h
 exact h
theorem pbl_z (z:Int) (w:World):Calls Tryz.prog 119 #[.int .u8 z] w fun e w'=>e= .returned (.bool ((z == 32)||((z == 9)||((z == 10)))))∧w'=w:=by
 cases h0:(z == 32)<;>cases h1:(z == 9)
 all_goals
  go_enter Tryz.func119,Tryz.ntmps119
  go_wp2
  go_ret
  exact⟨rfl,rfl⟩
theorem pbl_any (c:By) (w:World):Calls Tryz.prog 119 #[.int .u8 c.toNat] w fun e w'=>e= .returned (.bool (isBl c))∧w'=w:=by
 have h:=pbl_z (c.toNat:Int) w
 rw [show ((c.toNat:Int) == (32:Int))=decide (c.toNat=32) from eqb c 32,show ((c.toNat:Int) == (9:Int))=decide (c.toNat=9) from eqb c 9,show ((c.toNat:Int) == (10:Int))=decide (c.toNat=10) from eqb c 10] at h
 exact h
theorem prem_z (z:Int) (w:World):Calls Tryz.prog 121 #[.int .u8 z] w fun e w'=>e= .returned (.bool (z != 10))∧w'=w:=by
 go_enter Tryz.func121,Tryz.ntmps121
 go_wp2
 go_ret
 exact⟨rfl,rfl⟩
theorem prem_any (c:By) (w:World):Calls Tryz.prog 121 #[.int .u8 c.toNat] w fun e w'=>e= .returned (.bool (not10 c))∧w'=w:=by
 have h:=prem_z (c.toNat:Int) w
 rw [show ((c.toNat:Int) != (10:Int))=!decide (c.toNat=10) from neb c 10] at h
 exact h
end Go.Proofs.YtbnhnnccioljhaaGreatDoor
