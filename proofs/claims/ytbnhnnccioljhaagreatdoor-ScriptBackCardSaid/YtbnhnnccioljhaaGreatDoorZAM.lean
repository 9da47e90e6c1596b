/-
  The program's Join.
  The program's actWords.
  The program's Words of acts. (Made by gen_acwds.py.)
-/
import Derived.Test.YtbnhnnccioljhaaGreatDoorZAL
import Derived.Test.YtbnhnnccioljhaaGreatDoorZAK
import Derived.Test.YtbnhnnccioljhaaGreatDoorZAI
import Derived.Test.YtbnhnnccioljhaaGreatDoorZAH
import Derived.Test.YtbnhnnccioljhaaGreatDoorZAE
import Derived.Deep.RegionHeld3
import Derived.Deep.RegionLaw
import Derived.Test.YtbnhnnccioljhaaGreatDoorZAl
set_option maxRecDepth 100000
set_option maxHeartbeats 25600000
namespace Go.Proofs.YtbnhnnccioljhaaGreatDoor
open Go.RowKit
theorem addR_ge (out s:List By):out.length≤(addR out s).length:=by
 unfold addR
 split<;>simp
theorem join_over {L:List Wd} {out:List By} (h:joinF L []=some out) (hl:8000 < out.length) {w w':World} (hb:Below w.heap.size w w'):JoinPost L w (.returned (.tuple #[.string ⟨#[]⟩, .int .i64 6])) w':=by
 unfold JoinPost joinA
 rw [h]
 simp only
 rw [if_pos hl]
 exact⟨rfl,hb⟩
theorem join_long (ao:Option Addr) (b off cap:Nat) (L:List Wd) (w:World) (h:WArg w ao b off L) (hL:L.length≤1000000) (hx:∀x ∈ L,x.2.1.length≤40) (hT:TabOk w):
  Calls Tryz.prog 19 #[.slice ao L.length cap] w (JoinPost L w):=by
 have HA:=xhd h
 have HX:=xhd hx
 have HT:=xhd hT
 obtain⟨n,hn⟩:∃n,L.length=n:=⟨_,rfl⟩
 have HN:=xhd hn
 rw [hn] at hL ⊢
 clear h hx hT hn
 go_enter Tryz.func19,Tryz.ntmps19
 go_wp2
 go_loopw [4,11] (fun v i' wr=>∃(i:Nat) (out outT:List By),i'= .int .i64 i∧i≤n∧Hid (joinF L []=joinF (L.drop i) outT)∧Hid (BRow w.heap.size wr v out)∧Hid (Below w.heap.size w wr)∧Hid (out.length≤8041∧(out=outT∨8000 < out.length∧8000 < outT.length))) (fun _ i' _=>n - (intOf i').toNat)
 case atStart=>exact⟨0,[],[],rfl,Nat.zero_le _,rfl,World.ownsRow_nil _ _ _ _,Below.refl _ _,xhd ⟨Nat.zero_le _, .inl rfl⟩⟩
 case round=>
  obtain⟨i,out,outT,rfl,hi,HE,HO,HB,HL⟩:=hrel
  obtain⟨av,cv,rfl,_,_⟩:=ownsRow_shape HO.out
  by_cases hlt:i < n
  ·have hlt':i < L.length:=by rw [HN.out];exact hlt
   have ha:=HA.out.below HB.out
   obtain⟨rfl,hbl⟩:=ha.at_ (by omega)
   obtain⟨c0,c1,c2,c3⟩:=ha.cells i hlt'
   have hd:L.drop i=L[i]::L.drop (i+1):=List.drop_eq_getElem_cons hlt'
   have hx:=HX.out L[i] (List.getElem_mem hlt')
   obtain⟨⟨k,l,m,p⟩,hxe⟩:∃x,L[i]=x:=⟨_,rfl⟩
   rw [hxe] at c0 c1 c2 c3 hd hx
   simp only at c0 c1 c2 c3 hx
   have hsz:(⟨l.toArray⟩:ByteArray).size=l.length:=by rw [Lib.size_eq]
   have HTX:=xhd (fun W hW=>text_any k ⟨l.toArray⟩ m p W (by rw [hsz];unfold maxLen;omega) hW)
   have hn2:=HE.out
   rw [hd,joinF_cons] at hn2
   have hle:=HB.out.size
   have HC:=xhd (show TabOk (wr.alloc (.cells #[.int .i64 k, .string ⟨l.toArray⟩, .int .i64 m, .int .i64 p] 95)) from (HT.out.below HB.out).below ((Below.refl _ _).alloc (Nat.le_refl _) _))
   obtain⟨tx,htx⟩:∃tx:ByteArray,⟨l.toArray⟩=tx:=⟨_,rfl⟩
   rw [htx] at c1 HTX HC
   have hlx:∀s,textR (k,l,m,p)=some s→s.length≤40:=fun s hs=>textR_len hs hx
   cases hs:textR (k,l,m,p) with
   |none=>
    have e:textA (k,l,m,p)=([],1):=by unfold textA;rw [hs]
    rw [hs] at hn2
    rw [show tx.data.toList=l by rw [←htx],e] at HTX
    have HJ:=xhd hn2
    clear e hs hn2 hd hxe hx hlx htx hsz ha hlt'
    go_wp2_with fail
    with_reducible refine (HTX.out _ HC.out).mono ?_
    rintro e w2 ⟨rfl,hb2⟩
    have HB2:=xhd hb2
    clear hb2
    go_wp2
    go_ret2
    exact join_none HJ.out ((HB.out.alloc hle _).trans (HB2.out.mono (by simp;omega)))
   |some s=>
    have e:textA (k,l,m,p)=(s,0):=by unfold textA;rw [hs]
    rw [hs] at hn2
    rw [show tx.data.toList=l by rw [←htx],e] at HTX
    have HJ:=xhd hn2
    have h40:=hlx s hs
    have HD:Hid (∃r:ByteArray,(⟨s.toArray⟩:ByteArray)=r∧r.data.toList=s∧r.size=s.length):=⟨_,rfl,rfl,by rw [Lib.size_eq]⟩
    obtain⟨r,hr1,hr2,hr3⟩:=HD.out
    simp only at HTX
    rw [hr1] at HTX
    by_cases h8:out.length≤8000
    ·obtain rfl:out=outT:=by
       rcases HL.out.2 with h|h
       ·exact h
       ·omega
     have HADD:=xhd (fun (W:World) (v:Value) (h:BRow w.heap.size W v out) (hw:w.heap.size≤W.heap.size)=>add_any h hw r (by omega))
     have HR2:=xhd hr2
     have HR3:=xhd hr3
     clear e hs hn2 hd hxe hx hlx htx hsz ha hlt' HD hr1 hr2 hr3
     go_wp2_with fail
     with_reducible refine (HTX.out _ HC.out).mono ?_
     rintro e w2 ⟨rfl,hb2⟩
     have hs2:=hb2.size
     have HB2:=xhd (((Below.refl wr.heap.size wr).alloc (Nat.le_refl _) (.cells #[.int .i64 k, .string tx, .int .i64 m, .int .i64 p] 95)).trans (hb2.mono (by simp)))
     clear hb2
     go_wp2_with fail
     with_reducible refine (HADD.out _ _ (row_below HO.out HB2.out) (Nat.le_trans hle HB2.out.size)).mono ?_
     rintro e w3 ⟨v3,rfl,hr3,hb3⟩
     rw [HR2.out] at hr3
     have HO3:=xhd hr3
     have HB3:=xhd ((HB.out.trans (HB2.out.mono hle)).trans hb3)
     have HL3:Hid ((addR out s).length≤8041):=by
      unfold Hid
      have:=addR_len out s
      omega
     clear hr3 hb3
     go_wp2
     go_roundw
     case rel=>exact⟨i+1,addR out s,addR out s,by go_num,by omega,HJ,HO3,HB3,xhd ⟨HL3.out, .inl rfl⟩⟩
     case measure=>simp [intOf];omega
    ·have g8:¬((out.length:Nat):Int)≤8000:=by omega
     have HL3:Hid (out.length≤8041∧(out=addR outT s∨8000 < out.length∧8000 < (addR outT s).length)):=by
      have h1:=HL.out
      have h2:=addR_ge outT s
      refine xhd ⟨h1.1, .inr ⟨by omega,?_⟩⟩
      rcases h1.2 with h|h
      ·rw [←h] at h2
       rw [←h]
       omega
      ·omega
     clear e hs hn2 hd hxe hx hlx htx hsz ha hlt' HD hr1 hr2 hr3
     go_wp2_with fail
     with_reducible refine (HTX.out _ HC.out).mono ?_
     rintro e w2 ⟨rfl,hb2⟩
     have HB2:=xhd (((Below.refl wr.heap.size wr).alloc (Nat.le_refl _) (.cells #[.int .i64 k, .string tx, .int .i64 m, .int .i64 p] 95)).trans (hb2.mono (by simp)))
     have HO3:=xhd (row_below HO.out HB2.out)
     have HB3:=xhd (HB.out.trans (HB2.out.mono hle))
     clear hb2
     go_wp2
     go_roundw
     case rel=>exact⟨i+1,out,addR outT s,by go_num,by omega,HJ,HO3,HB3,HL3⟩
     case measure=>simp [intOf];omega
  ·obtain rfl:i=n:=by omega
   have hE:=HE.out
   rw [List.drop_eq_nil_of_le (by rw [HN.out];exact Nat.le_refl _)] at hE
   have HJ:=xhd (show joinF L []=some outT from hE)
   by_cases h8:out.length≤8000
   ·obtain rfl:out=outT:=by
      rcases HL.out.2 with h|h
      ·exact h
      ·omega
    have hcv:=conv_back HO.out
    clear hE
    go_wp2
    go_ret2
    exact join_some HJ.out h8 HB.out
   ·have g8:(8000:Int) < (out.length:Nat):=by omega
    have hT8:8000 < outT.length:=by
     rcases HL.out.2 with h|h
     ·rw [←h]
      omega
     ·omega
    clear hE
    go_wp2
    go_ret2
    exact join_over HJ.out hT8 HB.out
structure AWI (w wr:World) (S:Nat) (nm:Array Value) (v:Value) (ws:List Wd):Prop where
 row:WRow w.heap.size wr v ws
 bel:Below w.heap.size w wr
 num:wr.heap[S]?=some (.cells nm 162 (0,0))
theorem AWI.more {w wr wr':World} {S:Nat} {nm:Array Value} {v:Value} {ws:List Wd} (h:AWI w wr S nm v ws) (hb:Below wr.heap.size wr wr'):AWI w wr' S nm v ws:=
 ⟨row_below h.row hb,h.bel.trans (hb.mono h.bel.size),(hb.block _ (lt_of_block h.num)).trans h.num⟩
theorem AWI.push {w wx w4:World} {S:Nat} {nm:Array Value} {v v':Value} {ws:List Wd} {x:Wd} (h:AWI w wx S nm v ws)
  (hown:w4.ownsRow w.heap.size 95 4 v' (ws.length+1) (wdsC ws++wdC x)) (hg:wx.grownBy w4 v.ownBlock):AWI w w4 S nm v' (ws++[x]):=by
 have hb:Below w.heap.size wx w4:=app_below (Below.refl _ _) h.bel.size (Nat.le_refl _) h.row hg
 refine⟨?_,h.bel.trans hb,(hg.block _ (lt_of_block h.num) (block_off h.num h.row (by decide))).trans h.num⟩
 unfold WRow
 rw [wdsC_snoc,List.length_append,List.length_singleton]
 exact hown
theorem AWI.start {w w2 w3:World} {S:Nat} {nm:Array Value} (hb:Below w.heap.size w w2) (hs:w2.heap[S]?=some (.cells nm 162 (0,0))) (h3:Below w2.heap.size w2 w3) {p q r t:Value} {x:Wd} (hx:wdC x=[p,q,r,t]):
  AWI w (w3.alloc (.cells #[p,q,r,t] 95)) S nm (.slice (some ⟨w3.heap.size,0,none⟩) 1 1) [x]:=by
 have h4:Below w2.heap.size w2 (w3.alloc (.cells #[p,q,r,t] 95)):=h3.alloc h3.size _
 exact⟨first_row w3 _ (Nat.le_trans hb.size h3.size) _ _ _ _ _ hx,hb.trans (h4.mono hb.size),(h4.block _ (lt_of_block hs)).trans hs⟩
theorem xn_nums (k x0 x1 x2 x3:Int) {i:Nat} (hi:i < 4):(acNums (k,x0,x1,x2,x3))[i]?=some (xN x0 x1 x2 x3 i):=by
 have:i=0∨i=1∨i=2∨i=3:=by omega
 rcases this with rfl|rfl|rfl|rfl<;>rfl
theorem nums_take (k x0 x1 x2 x3:Int) {i:Nat} (hi:i < 4):((acNums (k,x0,x1,x2,x3)).take (i+1)).map numW=((acNums (k,x0,x1,x2,x3)).take i).map numW++[(2,[],xN x0 x1 x2 x3 i,0)]:=by
 rw [List.take_add_one,xn_nums k x0 x1 x2 x3 hi,List.map_append]
 rfl
theorem actw_any (k x0 x1 x2 x3:Int) (w:World):Calls Tryz.prog 48 #[.agg #[.int .i64 k, .int .i64 x0, .int .i64 x1, .int .i64 x2, .int .i64 x3]] w (WordsP (acW (k,x0,x1,x2,x3)) w):=by
 obtain⟨i0,hi0,hz0,hz1,hz2⟩:=info_parts word_info
 have h:=fun W=>ashape_any k W
 obtain⟨s,m0,e,hs,hm⟩:=ashape_let k
 subst hm
 simp only [e] at h
 have hx:wdC (1,acName k,0,0)=[.int .i64 1, .string s, .int .i64 0, .int .i64 0]:=by
  unfold wdC
  rw [←hs,Lib.mk_data]
 have hm4:=many_four k
 have hW:acW (k,x0,x1,x2,x3)=(1,acName k,0,0)::(((acNums (k,x0,x1,x2,x3)).take (acMany k)).map numW++[semiW]):=rfl
 rw [hW]
 obtain⟨m,hm⟩:∃m,acMany k=m:=⟨_,rfl⟩
 rw [hm] at h hm4 ⊢
 obtain⟨xw,hxw⟩:∃x:Wd,(1,acName k,0,0)=x:=⟨_,rfl⟩
 rw [hxw] at hx ⊢
 have H:=xhd h
 have HX:=xhd hx
 have HNO:=xhd (fun W=>numbersof_any k x0 x1 x2 x3 W)
 have HNM:=xhd (fun W=>pname_any s W)
 have HMK:=xhd (fun W=>pmark_any ⟨#[59]⟩ W)
 have HPN:=xhd (fun n W=>pnum_any n W)
 have HTK:=xhd (fun i (hi:i < 4)=>nums_take k x0 x1 x2 x3 hi)
 obtain⟨F,hF⟩:∃F:Nat→List Wd,(fun i=>((acNums (k,x0,x1,x2,x3)).take i).map numW)=F:=⟨_,rfl⟩
 have HF:=xhd hF
 have hFt:∀i,i < 4→F (i+1)=F i++[(2,[],xN x0 x1 x2 x3 i,0)]:=by
  intro i hi
  rw [←hF]
  exact nums_take k x0 x1 x2 x3 hi
 have hF0:F 0=[]:=by rw [←hF];rfl
 have hFm:((acNums (k,x0,x1,x2,x3)).take m).map numW=F m:=by rw [←hF]
 have hFl:∀i,i≤4→(F i).length=i:=by
  intro i
  induction i with
  |zero=>intro _;rw [hF0];rfl
  |succ i ih=>intro hi;rw [hFt i (by omega),List.length_append,ih (by omega)];rfl
 rw [hFm]
 have HFT:=xhd hFt
 have HFL:=xhd hFl
 have HF0:=xhd hF0
 clear h e hs hm hx hxw hW hF hFt hF0 hFm hFl HTK HF
 go_enter Tryz.func48,Tryz.ntmps48
 go_wp2_with fail
 with_reducible refine (H.out _).mono ?_
 rintro e w1 ⟨rfl,hb⟩
 have HI1:=xhd (MaI.start (sh:= #[.string s, .int .i64 (m:Nat)]) hb)
 have HW:Hid (∃W,w1.alloc (.cells #[.string s, .int .i64 (m:Nat)] 160)=W):=⟨_,rfl⟩
 obtain⟨c0,c1,c2,c3,c4⟩:=act_cells (box_kept hb).1
 have hl1:=lt_of_block (box_kept hb).1
 have HS:Hid (∃S,w1.heap.size=S):=⟨_,rfl⟩
 clear hb
 go_wp2_with fail
 obtain⟨S,hS⟩:=HS.out
 rw [hS] at HI1 ⊢
 obtain⟨W,hW⟩:=HW.out
 rw [hW] at HI1 ⊢
 clear hW HW hS HS c0 c1 c2 c3 c4 hl1
 with_reducible refine (HNO.out _).mono ?_
 rintro e w2 ⟨rfl,hb⟩
 have HI2:=xhd (HI1.out.below hb)
 have HB3:=xhd (HI2.out.below ((Below.refl _ w2).alloc (Nat.le_refl _) (.cells #[.int .i64 x0, .int .i64 x1, .int .i64 x2, .int .i64 x3] 162)))
 have HN3:=xhd (heap_alloc_new w2 (.cells #[.int .i64 x0, .int .i64 x1, .int .i64 x2, .int .i64 x3] 162))
 have HW3:Hid (∃W3,w2.alloc (.cells #[.int .i64 x0, .int .i64 x1, .int .i64 x2, .int .i64 x3] 162)=W3):=⟨_,rfl⟩
 have HQ:Hid (∃Q,w2.heap.size=Q):=⟨_,rfl⟩
 obtain⟨d0,d1⟩:=two_cells HI2.out.shp
 have hl2:=lt_of_block HI2.out.shp
 clear hb
 go_wp2_with fail
 obtain⟨Q,hQ⟩:=HQ.out
 obtain⟨W3,hW3⟩:=HW3.out
 rw [hW3] at HB3 HN3 ⊢
 rw [hQ] at HN3 ⊢
 clear hQ HQ hW3 HW3 d0 d1 hl2
 with_reducible refine (HNM.out _).mono ?_
 rintro e w4 ⟨rfl,hb⟩
 have HA5:=xhd (AWI.start HB3.out.bel HN3.out hb HX.out)
 have hs4:=(hb.block _ (lt_of_block HB3.out.shp)).trans HB3.out.shp
 obtain⟨d0,d1⟩:=two_cells hs4
 have hl4:=lt_of_block hs4
 clear hb hs4
 have hm0:(0:Int)≤m:=by omega
 have hm1:(m:Int)≤4:=by omega
 go_wp2_with fail
 clear d0 d1 hl4
 go_loopw [5,21] (fun v' i' wr=>∃(i:Nat) (ws:List Wd),i'= .int .i64 i∧i≤m∧Hid (AWI w wr Q #[.int .i64 x0, .int .i64 x1, .int .i64 x2, .int .i64 x3] v' ws)∧Hid (ws=xw::F i)) (fun _ i' _=>m - (intOf i').toNat)
 case atStart=>exact⟨0,[xw],rfl,Nat.zero_le _,HA5,xhd (by rw [HF0.out])⟩
 case round=>
  obtain⟨i,ws,rfl,hi,HA,HWS⟩:=hrel
  obtain⟨av,vcap,hv,_⟩:=ownsRow_shape HA.out.row
  subst hv
  have HLN:Hid (ws.length≤5):=xhd (by rw [HWS.out,List.length_cons,HFL.out i (by omega)];omega)
  by_cases hlt:i < m
  ·have i0':(0:Int)≤i:=by omega
   have i1:(i:Int) < m:=by omega
   have i2:IntKind.i64.wrap ((i:Int)+1)=(i:Int)+1:=by rw [IntKind.wrap_i64];omega
   have q0:=acell_at HA.out.num (k:=i) (by show i < 4;omega)
   have hq:(#[Value.int .i64 x0, .int .i64 x1, .int .i64 x2, .int .i64 x3]:Array Value)[i]'(by show i < 4;omega)= .int .i64 (xN x0 x1 x2 x3 i):=by
    have:i=0∨i=1∨i=2∨i=3:=by omega
    rcases this with rfl|rfl|rfl|rfl<;>rfl
   rw [hq] at q0
   obtain⟨xi,hxi⟩:∃xi,xN x0 x1 x2 x3 i=xi:=⟨_,rfl⟩
   rw [hxi] at q0
   have HWS2:Hid (ws++[(2,[],xi,0)]=xw::F (i+1)):=xhd (by rw [HWS.out,HFT.out i (by omega),hxi];rfl)
   clear hq hxi
   go_wp2_with fail
   with_reducible refine (HPN.out _ _).mono ?_
   rintro r w6 ⟨rfl,hb⟩
   have HA6:=xhd (HA.out.more hb)
   clear hb q0
   go_wp2_with (at_builtin;refine wpList_append_own _ rfl _ _ 50 rfl w.heap.size 95 i0 (.agg #[.int .i64 0, .string ⟨#[]⟩, .int .i64 0, .int .i64 0]) 4 40 Tryz.underlying50 hi0 hz0 hz1 hz2 rfl (by decide) _ _ _ rfl (row_below HA6.out.row ((Below.refl _ _).alloc (Nat.le_refl _) _)) ⟨_,0,none⟩ 1 1 [.int .i64 2, .string ⟨#[]⟩, .int .i64 xi, .int .i64 0] rfl rfl ?c1 ?c2 ?c3 ?c4 ?c5 ?_)
   case c1=>first|exact word_new _ _ _ _ _ _|exact word_at (by simp) _ _ _ _ _
   case c2=>exact word_ones _ _ _ _
   case c3=>(have:=HLN.out;unfold maxLen;omega)
   case c4=>(have:=HLN.out;omega)
   case c5=>exact Nat.le_trans HA6.out.bel.size (by simp)
   intro v7 w7 hown hgrow _
   obtain⟨ao7,cap7,hv7,_⟩:=ownsRow_shape hown
   subst hv7
   have HA7:=xhd ((HA6.out.more ((Below.refl _ _).alloc (Nat.le_refl _) _)).push (x:=(2,[],xi,0)) hown hgrow)
   clear hown hgrow
   go_wp2
   go_roundw
   case rel=>exact⟨i+1,_,by go_num,by omega,HA7,HWS2⟩
   case measure=>simp [intOf];omega
  ·obtain rfl:i=m:=by omega
   have HWE:Hid (ws++[semiW]=xw::(F i++[semiW])):=xhd (by rw [HWS.out];rfl)
   go_wp2_with fail
   with_reducible refine (HMK.out _).mono ?_
   rintro r w8 ⟨rfl,hb⟩
   have HA8:=xhd (HA.out.more hb)
   clear hb
   go_wp2_with (at_builtin;refine wpList_append_own _ rfl _ _ 50 rfl w.heap.size 95 i0 (.agg #[.int .i64 0, .string ⟨#[]⟩, .int .i64 0, .int .i64 0]) 4 40 Tryz.underlying50 hi0 hz0 hz1 hz2 rfl (by decide) _ _ _ rfl (row_below HA8.out.row ((Below.refl _ _).alloc (Nat.le_refl _) _)) ⟨_,0,none⟩ 1 1 [.int .i64 3, .string ⟨#[59]⟩, .int .i64 0, .int .i64 0] rfl rfl ?c1 ?c2 ?c3 ?c4 ?c5 ?_)
   case c1=>first|exact word_new _ _ _ _ _ _|exact word_at (by simp) _ _ _ _ _
   case c2=>exact word_ones _ _ _ _
   case c3=>(have:=HLN.out;unfold maxLen;omega)
   case c4=>(have:=HLN.out;omega)
   case c5=>exact Nat.le_trans HA8.out.bel.size (by simp)
   intro v9 w9 hown hgrow _
   have HA9:=xhd ((HA8.out.more ((Below.refl _ _).alloc (Nat.le_refl _) _)).push (x:=semiW) hown hgrow)
   clear hown hgrow
   go_wp2
   go_ret
   refine⟨_,rfl,?_,HA9.out.bel⟩
   rw [←HWE.out]
   exact HA9.out.row
end Go.Proofs.YtbnhnnccioljhaaGreatDoor
namespace Go.Proofs.YtbnhnnccioljhaaGreatDoor
open Go.RowKit Go.Maps Go.Shelf
attribute [local go_sem] Oper.semAt_some
structure ALI (w wr:World) (K:Nat) (v:Value) (ws:List Wd):Prop where
 row:WRow w.heap.size wr v ws
 t:Turned [] w wr
 lst:wr.heap[K]?=some (.cells #[v] 50 (0,0))
 kne:w.heap.size≤K
theorem ALI.more {w wr wr':World} {K:Nat} {v:Value} {ws:List Wd} (h:ALI w wr K v ws) (hb:Below wr.heap.size wr wr'):ALI w wr' K v ws:=
 ⟨row_below h.row hb,h.t.trans (turned_below0 hb) (Newer.refl _ _),(hb.block _ (lt_of_block h.lst)).trans h.lst,h.kne⟩
theorem ALI.drew {w wr:World} {K:Nat} {v:Value} {ws:List Wd} (h:ALI w wr K v ws):ALI w wr.drew K v ws:=⟨h.row.drew,h.t.drew,h.lst,h.kne⟩
theorem ALI.mild {w A B:World} {K N:Nat} {v:Value} {ws:List Wd} (h:ALI w A K v ws) (m:Mild [] N A B) (hN:w.heap.size≤N):ALI w B K v ws:=by
 refine⟨ownsRow_same h.row (fun k hk _=>?_),h.t.mild m hN (by simp),m.cells h.lst (by simp),h.kne⟩
 obtain⟨cur,hc⟩:=ownsRow_type h.row k hk
 rw [m.cells hc (by simp),hc]
theorem arow_up {w:World} {base:Nat} {e:TypeId} {size:Nat} {v:Value} {n:Nat} {xs:List Value} (h:w.ownsRow 0 e size v n xs) (hb:∀g ∈ v.ownBlock.toList,base≤g):w.ownsRow base e size v n xs:=by
 refine⟨h.1,?_⟩
 rcases h.2 with h2|⟨g,cap,cur,rfl,_,rest⟩
 ·exact .inl h2
 ·exact .inr ⟨g,cap,cur,rfl,hb g (by simp [Value.ownBlock]),rest⟩
theorem arow_up0 {w:World} {base:Nat} {e:TypeId} {size:Nat} {v:Value} {n:Nat} {xs:List Value} (h:w.ownsRow base e size v n xs):w.ownsRow 0 e size v n xs:=row_base h (Nat.zero_le _)
theorem ALI.grown {w wx w4:World} {K:Nat} {v:Value} {ws:List Wd} (h:ALI w wx K v ws) (hg:wx.grownBy w4 v.ownBlock):
  w4.heap[K]?=some (.cells #[v] 50 (0,0))∧Turned [] w w4:=
 ⟨(hg.block _ (lt_of_block h.lst) (block_off h.lst h.row (by decide))).trans h.lst,h.t.grown hg (fun k hk=> .inr ((h.row.lt k hk).1))⟩
theorem ALI.push {w wx w4:World} {K:Nat} {v v':Value} {ws xs:List Wd} {m:Nat} (h:ALI w wx K v ws) (hm:xs.length=m)
  (hown:w4.ownsRow 0 95 4 v' (ws.length+m) (wdsC ws++wdsC xs)) (hg:wx.grownBy w4 v.ownBlock) (hnew:∀g ∈ v'.ownBlock.toList,g ∈ v.ownBlock.toList∨wx.heap.size≤g):ALI w (w4.setCell ⟨K,0,none⟩ v') K v' (ws++xs):=by
 obtain⟨g2,g3⟩:=h.grown hg
 have hrow:WRow w.heap.size w4 v' (ws++xs):=by
  unfold WRow
  rw [List.length_append,hm,wdsC,List.flatMap_append]
  refine arow_up hown (fun g hx=>?_)
  rcases hnew g hx with h1|h1
  ·exact (h.row.lt g (by simpa using h1)).1
  ·exact Nat.le_trans h.t.size h1
 have hk:=h.kne
 have hoff:=block_off g2 hrow (by decide)
 refine⟨ownsRow_same hrow (fun k hk2 _=>Below.heap_setCell _ _ _ _ ?_),g3.setCell (.inr (by show w.heap.size≤K;omega)) _,?_,hk⟩
 ·show k≠K
  rintro rfl
  exact hoff (by simpa using hk2:v'.ownBlock=some k).symm
 ·rw [heap_setCell_same _ _ _ _ _ _ g2]
  rfl
theorem ALI.start {w w1:World} (hb:Below w.heap.size w w1):ALI w (w1.alloc (.cells #[.slice none 0 0] 50)) w1.heap.size (.slice none 0 0) []:=
 ⟨World.ownsRow_nil _ _ _ _,turned_below0 (hb.alloc hb.size _),heap_alloc_new w1 _,hb.size⟩
structure ALJ (w W:World) (K N n₀:Nat) (v:Value) (ws:List Wd):Prop where
 i:ALI w W K v ws
 g:∀g ∈ v.ownBlock.toList,g < n₀∨N≤g
 z:N≤W.heap.size
theorem ALJ.mild {w A B:World} {K N n₀ M:Nat} {v:Value} {ws:List Wd} (h:ALJ w A K N n₀ v ws) (m:Mild [] M A B) (hM:w.heap.size≤M):ALJ w B K N n₀ v ws:=
 ⟨h.i.mild m hM,h.g,Nat.le_trans h.z m.size⟩
theorem ALJ.round {w W V1 w4:World} {K N n₀:Nat} {v v':Value} {ws xs:List Wd} {m:Nat} (h:ALJ w W K N n₀ v ws) (hK:K < n₀) (hb:Below W.heap.size W V1) (hm:xs.length=m)
  (hown:w4.ownsRow 0 95 4 v' (ws.length+m) (wdsC ws++wdsC xs)) (hg:V1.grownBy w4 v.ownBlock) (hnew:∀g ∈ v'.ownBlock.toList,g ∈ v.ownBlock.toList∨V1.heap.size≤g):
  (∀B,KeepsFrom B W (w4.setCell ⟨K,0,none⟩ v'))∧(∀j,n₀≤j→j < N→(w4.setCell ⟨K,0,none⟩ v').heap[j]?=W.heap[j]?)∧ALJ w (w4.setCell ⟨K,0,none⟩ v') K N n₀ v' (ws++xs):=by
 have h1:=h.i.more hb
 have hz:=h.z
 refine⟨fun B=>(akeeps_below hb).trans (((KeepsOthers.of_grownBy hg (fun j o hj ho=>?_)).trans (KeepsOthers.setCell _ _ _)).from _),fun j h0 hN=>?_,h1.push hm hown hg hnew,fun g hx=>?_,?_⟩
 ·obtain⟨cur,hc⟩:=ownsRow_type h1.row j (by simp [hj])
  rw [hc] at ho
  cases ho
  rfl
 ·refine (Below.heap_setCell _ _ _ _ (by show j≠K;omega)).trans ((hg.block j (Nat.lt_of_lt_of_le (by omega) hb.size) (fun e=>?_)).trans (hb.block j (by omega)))
  rcases h.g j (by simp [←e]) with hh|hh<;>omega
 ·rcases hnew g hx with hh|hh
  ·exact h.g g hh
  ·have:=hb.size
   exact .inr (by omega)
 ·have:=hb.size
  have:=hg.size
  simp [World.setCell]
  omega
theorem awdsC_one (L:List Wd):∀u ∈ wdsC L,u.oneCell'=true:=by
 intro u hu
 obtain⟨x,_,hx⟩:=List.mem_flatMap.1 hu
 simp [wdC] at hx
 rcases hx with rfl|rfl|rfl|rfl<;>rfl
theorem azip_len {L:List Ac} {pre:List (Ac×Nat)} {x:Ac×Nat} (h:(pre++[x]) <+:L.zipIdx):pre.length+1≤L.length:=by
 have:=h.length_le
 simpa [List.length_zipIdx] using this
theorem acw_len (a:Ac):(acW a).length≤6:=by
 have h1:=many_four a.1
 have h2:=many_le a
 unfold acW acTail
 simp only [List.length_cons,List.length_append,List.length_map,List.length_take,List.length_nil]
 omega
theorem aflat_len:∀pre:List (Ac×Nat),(pre.flatMap (fun x:Ac×Nat=>acW x.1)).length≤pre.length*6
 |[]=>Nat.le_refl _
 |x::pre=>by
  have h1:=aflat_len pre
  have h2:=acw_len x.1
  simp only [List.flatMap_cons,List.length_append,List.length_cons] at h1 ⊢
  omega
theorem aflat_zip (L:List Ac):L.zipIdx.flatMap (fun x:Ac×Nat=>acW x.1)=L.flatMap acW:=by
 have h:∀(L:List Ac) (k:Nat),(L.zipIdx k).flatMap (fun x:Ac×Nat=>acW x.1)=L.flatMap acW:=fun L=>by
  induction L with
  |nil=>intro k;rfl
  |cons x L ih=>
   intro k
   rw [List.zipIdx_cons,List.flatMap_cons,List.flatMap_cons,ih]
 exact h L 0
def WordsAP (R:List Wd×Int) (w:World) (e:Ending) (w':World):Prop:=
 ∃v,e= .returned (.tuple #[v, .int .i64 R.2])∧WRow w.heap.size w' v R.1∧Below w.heap.size w w'
theorem awords_yes (ao:Option Addr) (b off cap:Nat) (L:List Ac) (w:World) (h:AArg w ao b off L) (hq:acsMay L=true) (hl:L.length≤4000):
  Calls Tryz.prog 18 #[.slice ao L.length cap] w (WordsAP (L.flatMap acW,0) w):=by
 obtain⟨i0,hi0,hz0,hz1,hz2⟩:=info_parts word_info
 refine callsIn_wide.1 (?_:CallsIn Fence.wide 20 _ _ _ _ _)
 refine callsIn_of_wp_marks Tryz.func18 rfl trivial ?_ rfl
 simp only [Tryz.ntmps18,List.size_toArray,List.length_cons,List.length_nil,Nat.reduceAdd,Nat.reduceSub,Array.replicate_succ,Array.replicate_zero,List.push_toArray,List.append_toArray,List.nil_append,List.cons_append]
 refine wpIn_wide.2 ?_
 have hm:=mayeach_any ao b off cap L w h (by omega)
 rw [hq] at hm
 have HMAY:=xhd hm
 have HA:=xhd h
 obtain⟨n,hn⟩:∃n,L.length=n:=⟨_,rfl⟩
 have HN:=xhd hn
 rw [hn] at HMAY hl ⊢
 have g4:¬(4000:Int) < n:=by omega
 clear h hm hn hq
 go_wp2_with fail
 refine HMAY.out.mono ?_
 rintro e w1 ⟨rfl,hb1⟩
 have HI8':=xhd (ALI.start hb1)
 have HW8:Hid (∃W8,w1.alloc (.cells #[.slice none 0 0] 50)=W8):=⟨_,rfl⟩
 have HK8:Hid (∃K,w1.heap.size=K):=⟨_,rfl⟩
 have HE0:=xhd (fun V (hV:Below w.heap.size w V)=>aeach_any ao b off cap L V (HA.out.below hV) (by have:=HN.out;omega))
 rw [HN.out] at HE0
 clear hb1 HMAY
 go_wp2_with fail
 obtain⟨W8,hW8⟩:=HW8.out
 obtain⟨K,hK⟩:=HK8.out
 rw [hW8,hK] at HI8'
 rw [hW8,hK]
 have HI8:=HI8'
 have HE:=xhd (HE0.out W8 (HI8.out.t.below (by simp) (Nat.le_refl _)))
 have hz9:=lt_of_block HI8.out.lst
 clear hW8 hK HW8 HK8 HE0
 refine HE.out.mono ?_
 rintro e W9 ⟨B,rfl,hKO,hb9⟩
 obtain⟨Yb,hY,hseq⟩:=aeach1_seq (n:=19) (by omega) hKO (by have:=HN.out;omega)
 have HY:=xhd hY
 have HSEQ:=xhd hseq
 have HJ0:Hid (ALJ w W9 K W9.heap.size W8.heap.size (.slice none 0 0) (([]:List (Ac×Nat)).flatMap (fun x:Ac×Nat=>acW x.1))):=xhd ⟨HI8.out.more hb9,fun g hg=>by simp [Value.ownBlock] at hg,Nat.le_refl _⟩
 have HKN:Hid (K < W8.heap.size):=xhd hz9
 have hz10:=hb9.size
 have hzk:=HI8.out.kne
 clear hY hseq hKO hb9 HE
 go_wp2_with fail
 refine (wpIn_wide (n:=20)).1 ?_
 refine range_turns_boxed rfl (by omega) (gf:=98) (lb:= #[.pointer (some ⟨B,0,none⟩)]) rfl trivial (enters_of Tryz.func98 (by kernel_rfl) rfl)
  (X:=[]) (Y:=Yb) (by simp) (fun k hk=>(HY.out k hk).2) HSEQ.out (fun _=>rfl) (fun _ _ _ h _=>h) (fun _ _ _ h _=>h)
  (fun pre V=>∃v,ALJ w V K W9.heap.size W8.heap.size v (pre.flatMap (fun x:Ac×Nat=>acW x.1)))
  (fun c pre V=>False)
  (fun xs A B h mm=>h.elim fun v h=>⟨v,h.mild mm (by omega)⟩) (fun c xs A B h mm=>h) ⟨_,HJ0.out⟩ (fun xs V h=>h.elim fun v h=>h.z)
  73 (fun x=> #[.int .i64 x.1.1, .int .i64 x.1.2.1, .int .i64 x.1.2.2.1, .int .i64 x.1.2.2.2.1, .int .i64 x.1.2.2.2.2]) ?a1 ?assign ?body ?done ?stop
 case stop=>exact fun D c xs V hD hsx h hK=>h.elim
 case assign=>
  intro l x Bk V K' hBk hK
  gi_wp2
  exact hK
 case body=>
  rintro l pre ⟨⟨x1,x2,x3,x4,x5⟩,j⟩ Bk V hk hbk ⟨v,hJ⟩ hsp
  simp only at hk
  obtain⟨k0,k1,k2,k3,k4⟩:=act_cells hk
  obtain⟨av,cv,hv,_,_⟩:=ownsRow_shape hJ.i.row
  subst hv
  obtain⟨wl,hwl⟩:∃m,(pre.flatMap (fun x:Ac×Nat=>acW x.1)).length=m:=⟨_,rfl⟩
  have HWL:=xhd hwl
  rw [hwl] at hJ
  have HJ:=xhd hJ
  have HBK:=xhd hk
  have HOW:=xhd (fun V=>actw_any x1 x2 x3 x4 x5 V)
  have hlen:wl+(acW (x1,x2,x3,x4,x5)).length≤30000:=by
   have h1:=azip_len hsp
   have h2:=aflat_len pre
   have h3:=acw_len (x1,x2,x3,x4,x5)
   have h4:=HN.out
   omega
  have HLEN:=xhd hlen
  have HPOS:Hid (0 < (acW (x1,x2,x3,x4,x5)).length):=xhd (by have:=acw_pos (x1,x2,x3,x4,x5);omega)
  obtain⟨aw,haw⟩:∃aw,acW (x1,x2,x3,x4,x5)=aw:=⟨_,rfl⟩
  have HAW:=xhd haw
  rw [haw] at HOW HLEN HPOS
  clear hJ hk hsp hwl hlen haw
  have e2:=cell1 HJ.out.i.lst
  have hmix:Tryz.prog.follows .mixedOrders=true:=by kernel_rfl
  gi_wp2_with fail
  refine wpRound_last (fun V=>V.cell? ⟨K,0,none⟩=some (.slice av wl cv)∧V.cell? ⟨Bk,0,none⟩=some (.int .i64 x1)∧V.cell? ⟨Bk,1,none⟩=some (.int .i64 x2)∧V.cell? ⟨Bk,2,none⟩=some (.int .i64 x3)∧V.cell? ⟨Bk,3,none⟩=some (.int .i64 x4)∧V.cell? ⟨Bk,4,none⟩=some (.int .i64 x5)) 4 (by kernel_rfl) ?_ hmix ⟨e2,k0,k1,k2,k3,k4⟩ (fun hS0=>?_)
  ·rintro ⟨_,_,h⟩;exact h
  refine wpAnyE_take (i:=0) (v:=?_) rfl (by kernel_rfl) (by kernel_rfl) (fun _ _ _ h=>h) (by kernel_rfl) (by kernel_rfl) (Or.inl ⟨by rfl,?hy⟩) (by assumption) ?_
  case hy=>
   intro w hSw
   (try dsimp only at hSw)
   obtain⟨s0,s1,s2,s3,s4,s5⟩:=hSw
   go_simp
   try with_reducible rfl
  try simp only [xga];try simp only [xgs];try simp only [xgz];try simp only [Act.put];try simp only [xsa];try simp only [xss];try simp only [xsz]
  refine wpAnyE_take (i:=1) (v:=?_) rfl (by kernel_rfl) (by kernel_rfl) (fun _ _ _ h=>h) (by kernel_rfl) (by kernel_rfl) (Or.inl ⟨by rfl,?hy⟩) (by assumption) ?_
  case hy=>
   intro w hSw
   (try dsimp only at hSw)
   obtain⟨s0,s1,s2,s3,s4,s5⟩:=hSw
   go_simp
   try with_reducible rfl
  try simp only [xga];try simp only [xgs];try simp only [xgz];try simp only [Act.put];try simp only [xsa];try simp only [xss];try simp only [xsz]
  refine wpAnyE_ready (rs:=[2]) (by kernel_rfl) (by simp) ?_
  refine ReadyE.cons rfl (fun K' hK=>?_) ReadyE.nil
  go_simp
  with_reducible refine (HOW.out _).mono ?_
  rintro e u2 ⟨vo,rfl,hro,hbu⟩
  have hiu:=HJ.out.i.drew.more hbu
  have HIU2:=xhd hiu
  have eu2:=cell1 hiu.lst
  have hk2:=(hbu.block _ (lt_of_block HBK.out)).trans HBK.out
  obtain⟨k0u,k1u,k2u,k3u,k4u⟩:=act_cells hk2
  obtain⟨go,co,hvo,_,_⟩:=ownsRow_pos hro HPOS.out
  subst hvo
  have HRO:=xhd hro
  have HK2:=xhd hk2
  have HBU:=xhd hbu
  clear hbu hiu hro hk2
  go_wp2_with fail
  refine hK.out _ _ (.inr ?_) ?_
  ·exact⟨eu2,k0u,k1u,k2u,k3u,k4u⟩
  clear hK K'
  try simp only [xga];try simp only [xgs];try simp only [xgz];try simp only [Act.put];try simp only [xsa];try simp only [xss];try simp only [xsz]
  refine wpAnyE_ready (rs:=[3]) (by kernel_rfl) (by simp) ?_
  refine ReadyE.cons rfl (fun K' hK=>?_) ReadyE.nil
  refine step_append_any _ rfl (.tmp 17) (.tmp 19) 50 rfl 95 i0 (.agg #[.int .i64 0, .string ⟨#[]⟩, .int .i64 0, .int .i64 0]) 4 40 Tryz.underlying50 hi0 hz0 hz1 hz2 rfl (by decide) (.slice av wl cv) wl (wdsC (pre.flatMap (fun x:Ac×Nat=>acW x.1))) rfl (by have hq:=arow_up0 HIU2.out.row;rw [HWL.out] at hq;exact hq) (some ⟨go,0,none⟩) aw.length co (wdsC aw) rfl (by rw [wdsC_len]) (by intro h;cases h) (by intro ad had;cases had;exact HRO.out.cells (g:=go) rfl) (awdsC_one _) (by unfold maxLen;have:=HLEN.out;omega) (by have:=HLEN.out;omega) ?_
  intro a2 c2 g2 hown hg hnew
  have hgg:=HIU2.out.grown hg
  have eg2:=cell1 hgg.1
  have fg2:=not_frozen hgg.1 0
  have hk3:=(hg.block _ (lt_of_block HK2.out) (block_off HK2.out HIU2.out.row (by decide))).trans HK2.out
  obtain⟨k0g,k1g,k2g,k3g,k4g⟩:=act_cells hk3
  clear hk3
  refine hK.out _ _ (.inr ?_) ?_
  ·exact⟨eg2,k0g,k1g,k2g,k3g,k4g⟩
  have hin:=ALJ.round (v':= .slice a2 (wl+aw.length) c2) (w4:=g2) (V1:=u2) (xs:=aw) (m:=aw.length) HJ.out HKN.out (((Below.refl _ V).drew).trans HBU.out) rfl (by rw [HWL.out];exact hown) hg hnew
  have HIN:=xhd hin
  clear hown hg hnew hgg hK K' hin
  try simp only [xga];try simp only [xgs];try simp only [xgz];try simp only [Act.put];try simp only [xsa];try simp only [xss];try simp only [xsz]
  refine wpAnyE_ready (rs:=[4]) (by kernel_rfl) (by simp) ?_
  refine ReadyE.cons rfl (fun K' hK=>?_) ReadyE.nil
  go_simp
  refine hK.out _ _ (.inl rfl) ?_
  clear hK K'
  refine wpAnyE_done (by kernel_rfl) ?_ _
  try simp only [xga];try simp only [xgs];try simp only [xgz];try simp only [Act.put];try simp only [xsa];try simp only [xss];try simp only [xsz]
  refine⟨HIN.out.1 _,fun j hj=>HIN.out.2.1 j (HY.out j hj).1 (HY.out j hj).2, .slice a2 (wl+aw.length) c2,?_⟩
  rw [List.flatMap_append,List.flatMap_cons,List.flatMap_nil,List.append_nil,HAW.out]
  exact HIN.out.2.2
 case done=>
  rintro D xs V hD rfl ⟨v,hJ⟩ hKD
  rw [aflat_zip] at hJ
  obtain⟨av,cv,hv,_,_⟩:=ownsRow_shape hJ.i.row
  obtain⟨ws3,hws3⟩:∃l,L.flatMap acW=l:=⟨_,rfl⟩
  rw [hws3] at hJ
  have HWS3:=xhd hws3
  have HI3:=xhd hJ.i
  have HKD:=xhd hKD
  have e3:=cell1 HI3.out.lst
  clear hJ hKD hws3 hv
  go_wp2
  refine⟨by simp, .inl ⟨_,_,rfl,run_takeDeferred HKD.out,?_⟩⟩
  have hoff:∀k,v.ownBlock=some k→k≠D:=by
   rintro k hk rfl
   obtain⟨cur,hc⟩:=ownsRow_type HI3.out.row k (by simp [hk])
   rw [HKD.out] at hc
   cases hc
  refine⟨.tuple #[v, .int .i64 0],?res,_,rfl,?_,?_⟩
  case res=>first|(go_simp;done) |(simp [results,go_sem];done) |kernel_rfl|trace_state
  ·have hrow:=HI3.out.row
   rw [←HWS3.out] at hrow
   exact ownsRow_same hrow (fun k hk _=>World.putObj_heap_other (hoff k (by simpa using hk)))
  ·exact (HI3.out.t.put (by omega) _).below (by simp) (Nat.le_refl _)
theorem awords_no (ao:Option Addr) (b off cap:Nat) (L:List Ac) (w:World) (h:AArg w ao b off L) (hm:L.length≤100000) (hq:acsMay L=true→4000 < L.length):
  Calls Tryz.prog 18 #[.slice ao L.length cap] w (WordsAP (([]:List Wd),if acsMay L then 6 else 1) w):=by
 have hm:=mayeach_any ao b off cap L w h hm
 obtain⟨n,hn⟩:∃n,L.length=n:=⟨_,rfl⟩
 rw [hn] at hm hq ⊢
 cases hx:acsMay L with
 |false=>
  rw [hx] at hm
  have HM:=xhd hm
  clear hm hx hn h hq
  go_enter Tryz.func18,Tryz.ntmps18
  go_wp2_with fail
  with_reducible refine HM.out.mono ?_
  rintro e w1 ⟨rfl,hb⟩
  have HB:=xhd hb
  clear hb
  go_wp2
  go_ret2
  exact⟨_,rfl,World.ownsRow_nil _ _ _ _,HB.out⟩
 |true=>
  rw [hx] at hm
  have hq2:=hq hx
  have g4:(4000:Int) < n:=by omega
  have HM:=xhd hm
  clear hm hx hn h hq hq2
  go_enter Tryz.func18,Tryz.ntmps18
  go_wp2_with fail
  with_reducible refine HM.out.mono ?_
  rintro e w1 ⟨rfl,hb⟩
  have HB:=xhd hb
  clear hb
  go_wp2
  go_ret2
  exact⟨_,rfl,World.ownsRow_nil _ _ _ _,HB.out⟩
theorem awords_any (ao:Option Addr) (b off cap:Nat) (L:List Ac) (w:World) (h:AArg w ao b off L) (hm:L.length≤100000):
  Calls Tryz.prog 18 #[.slice ao L.length cap] w (WordsAP (wordsAc L) w):=by
 unfold wordsAc
 by_cases hq:acsMay L=true
 ·by_cases h4:4000 < L.length
  ·have hx:=awords_no ao b off cap L w h hm (fun _=>h4)
   rw [if_pos hq] at hx
   rw [if_pos hq,if_pos h4]
   exact hx
  ·rw [if_pos hq,if_neg h4]
   exact awords_yes ao b off cap L w h hq (by omega)
 ·have hx:=awords_no ao b off cap L w h hm (fun h=>absurd h hq)
  rw [if_neg hq] at hx
  rw [if_neg hq]
  exact hx
end Go.Proofs.YtbnhnnccioljhaaGreatDoor
