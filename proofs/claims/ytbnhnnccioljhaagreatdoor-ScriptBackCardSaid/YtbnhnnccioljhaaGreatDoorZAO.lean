/-
  The document's Words of acts. (Made by gen_rawds.py.)
  The document's digits of a number.
  Kinds of bytes, for the document.
-/
import Derived.Test.YtbnhnnccioljhaaGreatDoorZAN
import Derived.Test.YtbnhnnccioljhaaGreatDoorZAM
import Derived.Test.YtbnhnnccioljhaaGreatDoorZAA
import Derived.Deep.RegionWith
import Derived.Test.YtbnhnnccioljhaaGreatDoorZAl
set_option maxRecDepth 100000
set_option maxHeartbeats 25600000
namespace Go.Proofs.YtbnhnnccioljhaaGreatDoor
open Go.RowKit
structure RwW (w wr:World) (v:Value) (ws:List Wd):Prop where
 row:WRow w.heap.size wr v ws
 bel:Below w.heap.size w wr
theorem RwW.more {w wr wr':World} {v:Value} {ws:List Wd} (h:RwW w wr v ws) (hb:Below wr.heap.size wr wr'):RwW w wr' v ws:=
 ⟨row_below h.row hb,h.bel.trans (hb.mono h.bel.size)⟩
theorem RwW.push {w wx w4:World} {v v':Value} {ws:List Wd} {x:Wd} (h:RwW w wx v ws)
  (hown:w4.ownsRow w.heap.size 95 4 v' (ws.length+1) (wdsC ws++wdC x)) (hg:wx.grownBy w4 v.ownBlock):RwW w w4 v' (ws++[x]):=by
 have hb:Below w.heap.size wx w4:=app_below (Below.refl _ _) h.bel.size (Nat.le_refl _) h.row hg
 refine⟨?_,h.bel.trans hb⟩
 unfold WRow
 rw [wdsC_snoc,List.length_append,List.length_singleton]
 exact hown
theorem acts_flat (L:List Ac):(L.flatMap acW).length≤L.length*6:=by
 have h:=aflat_len L.zipIdx
 rw [aflat_zip,List.length_zipIdx] at h
 exact h
theorem rawords_any (ao:Option Addr) (b off cap:Nat) (L:List Ac) (w:World) (h:AArg w ao b off L) (hm:L.length≤5000):
  Calls Tryz.prog 21 #[.slice ao L.length cap] w (WordsAP (wordsAc L) w):=by
 obtain⟨i0,hi0,hz0,hz1,hz2⟩:=info_parts word_info
 have HA:=xhd h
 have hno:∀i (hi:i < L.length),acMay L[i]=false→wordsAc L=([],1):=fun i hi hq=>by
  unfold wordsAc
  rw [if_neg]
  intro hc
  have:=List.all_eq_true.1 hc L[i] (List.getElem_mem hi)
  rw [hq] at this
  cases this
 have hyes:(∀j (hj:j < L.length),acMay L[j]=true)→wordsAc L=if 4000 < L.length then ([],6) else (L.flatMap acW,0):=fun hq=>by
  unfold wordsAc
  rw [if_pos]
  refine List.all_eq_true.2 fun x hx=>?_
  obtain⟨j,hj,rfl⟩:=List.getElem_of_mem hx
  exact hq j hj
 obtain⟨R,hR⟩:∃R,wordsAc L=R:=⟨_,rfl⟩
 rw [hR] at hno hyes ⊢
 have hfl:∀i,((L.take i).flatMap acW).length≤30000:=fun i=>by
  have h1:=acts_flat (L.take i)
  have h2:(L.take i).length≤L.length:=by rw [List.length_take];omega
  omega
 obtain⟨n,hn⟩:∃n,L.length=n:=⟨_,rfl⟩
 have HN:=xhd hn
 have HNO:=xhd hno
 have HYES:=xhd hyes
 have HFL:=xhd hfl
 have HST:Hid (RwW w w (.slice none 0 0) []):=xhd ⟨World.ownsRow_nil _ _ _ _,Below.refl _ _⟩
 rw [hn] at hm ⊢
 clear h hno hyes hR hfl hn
 go_enter Tryz.func21,Tryz.ntmps21
 go_wp2_with fail
 go_loopw [4,5] (fun v' i' wr=>∃(i:Nat) (ws:List Wd),i'= .int .i64 i∧i≤n∧Hid (RwW w wr v' ws)∧Hid (ws=(L.take i).flatMap acW)∧Hid (∀j (hj:j < L.length),j < i→acMay L[j]=true)) (fun _ i' _=>n - (intOf i').toNat)
 case atStart=>exact⟨0,[],rfl,Nat.zero_le _,HST,xhd rfl,fun j _ hj=>absurd hj (Nat.not_lt_zero _)⟩
 case round=>
  obtain⟨i,ws,rfl,hi,HW,HWS,HO⟩:=hrel
  rename World=>wo
  obtain⟨av,vcap,hv,_⟩:=ownsRow_shape HW.out.row
  subst hv
  by_cases hlt:i < n
  ·have hiL:i < L.length:=by rw [HN.out];exact hlt
   have i0':(0:Int)≤i:=by omega
   have i1:(i:Int) < n:=by omega
   have i2:IntKind.i64.wrap ((i:Int)+1)=(i:Int)+1:=by rw [IntKind.wrap_i64];omega
   have hA:=HA.out.below HW.out.bel
   obtain⟨rfl,hbl⟩:=hA.at_ (by omega)
   have hcells:=fun V (hV:Below w.heap.size w V)=>(HA.out.below hV).cells i hiL
   have HLN:Hid (ws.length≤30000):=xhd (by rw [HWS.out];exact HFL.out i)
   have htk:(L.take (i+1)).flatMap acW=(L.take i).flatMap acW++acW L[i]:=by
    rw [List.take_succ_eq_append_getElem hiL,List.flatMap_append,List.flatMap_cons,List.flatMap_nil,List.append_nil]
   have hno:=HNO.out i hiL
   have hok:∀h:acMay L[i]=true,∀j (hj:j < L.length),j < i+1→acMay L[j]=true:=fun h j hj hji=>by
    rcases Nat.lt_or_ge j i with h1|h1
    ·exact HO.out j hj h1
    ·obtain rfl:j=i:=by omega
     exact h
   obtain⟨⟨k,x0,x1,x2,x3⟩,hx⟩:∃x,L[i]=x:=⟨_,rfl⟩
   rw [hx] at hno hok htk
   simp only [hx] at hcells
   have HCE:=xhd hcells
   have HNI:=xhd hno
   have HOK:=xhd hok
   have HTK:=xhd htk
   have hone:=fun W=>raone_any k x0 x1 x2 x3 W
   obtain⟨q,hq⟩:∃q,acMay (k,x0,x1,x2,x3)=q:=⟨_,rfl⟩
   have HQ:=xhd hq
   simp only [hq] at hone
   have HONE:=xhd hone
   obtain⟨c0,c1,c2,c3,c4⟩:=HCE.out wo HW.out.bel
   clear hA hcells hno hok htk hx hone hq
   cases q with
   |false=>
    have HR:=xhd (HNI.out HQ.out)
    go_wp2_with fail
    with_reducible refine (HONE.out _).mono ?_
    rintro e w2 ⟨rfl,hb⟩
    have HW2:=xhd (HW.out.more hb)
    clear hb
    go_wp2
    go_ret2
    rw [HR.out]
    exact⟨_,rfl,World.ownsRow_nil _ _ _ _,HW2.out.bel⟩
   |true=>
    have hkn:acName k≠[]:=by
     have h:=HQ.out
     simp only [acMay,Bool.and_eq_true,Bool.not_eq_true',decide_eq_false_iff_not] at h
     exact h.1
    have hk:=ac_kinds hkn
    have hmy:=fun W=>ramany_any k (by omega) (by omega) W
    have hm4:=many_four k
    have hnm:=fun W=>raname_any k W
    obtain⟨s,hs⟩:∃s:ByteArray,⟨(acName k).toArray⟩=s:=⟨_,rfl⟩
    simp only [hs] at hnm
    have hwx:wdC (1,acName k,0,0)=[.int .i64 1, .string s, .int .i64 0, .int .i64 0]:=by rw [←hs];rfl
    have hW:acW (k,x0,x1,x2,x3)=(1,acName k,0,0)::(((acNums (k,x0,x1,x2,x3)).take (acMany k)).map numW++[semiW]):=rfl
    obtain⟨m,hm'⟩:∃m,acMany k=m:=⟨_,rfl⟩
    rw [hm'] at hm4 hW
    simp only [hm'] at hmy
    obtain⟨xw,hxw⟩:∃x:Wd,(1,acName k,0,0)=x:=⟨_,rfl⟩
    rw [hxw] at hwx hW
    obtain⟨F,hF⟩:∃F:Nat→List Wd,(fun i=>((acNums (k,x0,x1,x2,x3)).take i).map numW)=F:=⟨_,rfl⟩
    have hFt:∀i,i < 4→F (i+1)=F i++[(2,[],xN x0 x1 x2 x3 i,0)]:=by
     intro i hi
     rw [←hF]
     exact nums_take k x0 x1 x2 x3 hi
    have hF0:F 0=[]:=by rw [←hF];rfl
    have hFm:((acNums (k,x0,x1,x2,x3)).take m).map numW=F m:=by rw [←hF]
    have hFl:∀i,i≤4→(F i).length=i:=by
     intro i
     induction i with
     |zero=>intro _;rw [hF0];rfl
     |succ i ih=>intro hi;rw [hFt i (by omega),List.length_append,ih (by omega)];rfl
    rw [hFm] at hW
    have HMY:=xhd hmy
    have HNM:=xhd hnm
    have HGT:=xhd (fun (j:Nat) W=>raget_any k x0 x1 x2 x3 j W)
    have HWX:=xhd hwx
    have HWW:=xhd hW
    have HFT:=xhd hFt
    have HFN:=xhd hFl
    have HF0:=xhd hF0
    have HOK2:=xhd (HOK.out HQ.out)
    clear hkn hk hmy hnm hs hwx hW hm' hxw hF hFt hF0 hFm hFl
    go_wp2_with fail
    with_reducible refine (HONE.out _).mono ?_
    rintro e w2 ⟨rfl,hb⟩
    have HW2:=xhd (HW.out.more hb)
    clear hb c0 c1 c2 c3 c4
    obtain⟨c0,c1,c2,c3,c4⟩:=HCE.out w2 HW2.out.bel
    go_wp2_with fail
    with_reducible refine (HNM.out _).mono ?_
    rintro e w3 ⟨rfl,hb⟩
    have HW3:=xhd (HW2.out.more hb)
    clear hb c0 c1 c2 c3 c4
    go_wp2_with (at_builtin;refine wpList_append_own _ rfl _ _ 50 rfl w.heap.size 95 i0 (.agg #[.int .i64 0, .string ⟨#[]⟩, .int .i64 0, .int .i64 0]) 4 40 Tryz.underlying50 hi0 hz0 hz1 hz2 rfl (by decide) _ _ _ rfl (row_below HW3.out.row ((Below.refl _ _).alloc (Nat.le_refl _) _)) ⟨_,0,none⟩ 1 1 [.int .i64 1, .string s, .int .i64 0, .int .i64 0] rfl rfl ?c1 ?c2 ?c3 ?c4 ?c5 ?_)
    case c1=>first|exact word_new _ _ _ _ _ _|exact word_at (by simp) _ _ _ _ _
    case c2=>exact word_ones _ _ _ _
    case c3=>(have:=HLN.out;unfold maxLen;omega)
    case c4=>(have:=HLN.out;omega)
    case c5=>exact Nat.le_trans HW3.out.bel.size (by simp)
    intro v4 w4 hown hgrow _
    obtain⟨ao4,cap4,hv4,_⟩:=ownsRow_shape hown
    subst hv4
    have HW4:=xhd ((HW3.out.more ((Below.refl _ _).alloc (Nat.le_refl _) _)).push (x:=xw) (by rw [HWX.out];exact hown) hgrow)
    clear hown hgrow
    go_wp2_with fail
    go_loopw [4,6] (fun v' j' wr=>∃(j:Nat) (ws2:List Wd),j'= .int .i64 j∧j≤m∧Hid (RwW w wr v' ws2)∧Hid (ws2=ws++(xw::F j))) (fun _ j' _=>m - (intOf j').toNat)
    case atStart=>exact⟨0,_,rfl,Nat.zero_le _,HW4,xhd (by rw [HF0.out])⟩
    case round=>
     obtain⟨j,ws2,rfl,hj,HW,HWS2⟩:=hrel
     rename World=>wr
     have HLN2:Hid (ws2.length≤30005):=xhd (by
      have h1:=HLN.out
      have h2:=HFN.out j (by omega)
      rw [HWS2.out,List.length_append,List.length_cons,h2]
      omega)
     have HLN:=HLN2
     obtain⟨av2,vcap2,hv2,_⟩:=ownsRow_shape HW.out.row
     subst hv2
     obtain⟨c0,c1,c2,c3,c4⟩:=HCE.out wr HW.out.bel
     by_cases hjm:j < m
     ·have j0:(0:Int)≤j:=by omega
      have j1:(j:Int) < m:=by omega
      have j2:IntKind.i64.wrap ((j:Int)+1)=(j:Int)+1:=by rw [IntKind.wrap_i64];omega
      have hgt:=fun W=>HGT.out j W
      have hft:=HFT.out j (by omega)
      obtain⟨xj,hxj⟩:∃xj,xN x0 x1 x2 x3 j=xj:=⟨_,rfl⟩
      rw [hxj] at hft
      simp only [hxj] at hgt
      have HGJ:=xhd hgt
      have HWS3:Hid (ws2++[(2,[],xj,0)]=ws++(xw::F (j+1))):=xhd (by rw [HWS2.out,hft];simp)
      clear hgt hft hxj
      go_wp2_with fail
      with_reducible refine (HMY.out _).mono ?_
      rintro e w5 ⟨rfl,hb⟩
      have HW5:=xhd (HW.out.more hb)
      clear hb c0 c1 c2 c3 c4
      obtain⟨c0,c1,c2,c3,c4⟩:=HCE.out w5 HW5.out.bel
      go_wp2_with fail
      with_reducible refine (HGJ.out _).mono ?_
      rintro e w6 ⟨rfl,hb⟩
      have HW6:=xhd (HW5.out.more hb)
      clear hb c0 c1 c2 c3 c4
      go_wp2_with (at_builtin;refine wpList_append_own _ rfl _ _ 50 rfl w.heap.size 95 i0 (.agg #[.int .i64 0, .string ⟨#[]⟩, .int .i64 0, .int .i64 0]) 4 40 Tryz.underlying50 hi0 hz0 hz1 hz2 rfl (by decide) _ _ _ rfl (row_below HW6.out.row ((Below.refl _ _).alloc (Nat.le_refl _) _)) ⟨_,0,none⟩ 1 1 [.int .i64 2, .string ⟨#[]⟩, .int .i64 xj, .int .i64 0] rfl rfl ?c1 ?c2 ?c3 ?c4 ?c5 ?_)
      case c1=>first|exact word_new _ _ _ _ _ _|exact word_at (by simp) _ _ _ _ _
      case c2=>exact word_ones _ _ _ _
      case c3=>(have:=HLN.out;unfold maxLen;omega)
      case c4=>(have:=HLN.out;omega)
      case c5=>exact Nat.le_trans HW6.out.bel.size (by simp)
      intro v7 w7 hown hgrow _
      obtain⟨ao7,cap7,hv7,_⟩:=ownsRow_shape hown
      subst hv7
      have HW7:=xhd ((HW6.out.more ((Below.refl _ _).alloc (Nat.le_refl _) _)).push (x:=(2,[],xj,0)) hown hgrow)
      clear hown hgrow
      go_wp2
      go_roundw
      case rel=>exact⟨j+1,_,by go_num,by omega,HW7,HWS3⟩
      case measure=>simp [intOf];omega
     ·obtain rfl:j=m:=by omega
      have hjn:¬(j:Int) < j:=by omega
      have HWE:Hid (ws2++[semiW]=(L.take (i+1)).flatMap acW):=xhd (by rw [HWS2.out,HTK.out,HWW.out,HWS.out];simp)
      go_wp2_with fail
      with_reducible refine (HMY.out _).mono ?_
      rintro e w5 ⟨rfl,hb⟩
      have HW5:=xhd (HW.out.more hb)
      clear hb c0 c1 c2 c3 c4
      go_wp2_with (at_builtin;refine wpList_append_own _ rfl _ _ 50 rfl w.heap.size 95 i0 (.agg #[.int .i64 0, .string ⟨#[]⟩, .int .i64 0, .int .i64 0]) 4 40 Tryz.underlying50 hi0 hz0 hz1 hz2 rfl (by decide) _ _ _ rfl (row_below HW5.out.row ((Below.refl _ _).alloc (Nat.le_refl _) _)) ⟨_,0,none⟩ 1 1 [.int .i64 3, .string ⟨#[59]⟩, .int .i64 0, .int .i64 0] rfl rfl ?c1 ?c2 ?c3 ?c4 ?c5 ?_)
      case c1=>first|exact word_new _ _ _ _ _ _|exact word_at (by simp) _ _ _ _ _
      case c2=>exact word_ones _ _ _ _
      case c3=>(have:=HLN.out;unfold maxLen;omega)
      case c4=>(have:=HLN.out;omega)
      case c5=>exact Nat.le_trans HW5.out.bel.size (by simp)
      intro v7 w7 hown hgrow _
      obtain⟨ao7,cap7,hv7,_⟩:=ownsRow_shape hown
      subst hv7
      have HW7:=xhd ((HW5.out.more ((Below.refl _ _).alloc (Nat.le_refl _) _)).push (x:=semiW) hown hgrow)
      clear hown hgrow
      go_wp2
      go_roundw
      case rel=>exact⟨i+1,_,by go_num,by omega,HW7,HWE,HOK2⟩
      case measure=>simp [intOf];omega
  ·have hin:i=n:=by omega
   have hR:=HYES.out (fun j hj=>HO.out j hj (by have:=HN.out;omega))
   have hws:ws=L.flatMap acW:=by rw [HWS.out,List.take_of_length_le (by have:=HN.out;omega)]
   rw [HN.out] at hR
   have HR:=xhd hR
   have HWE:=xhd hws
   have ni:¬(i:Int) < n:=by omega
   clear hR hws
   by_cases h4:4000 < n
   ·have g4:(4000:Int) < n:=by omega
    go_wp2
    go_ret2
    rw [HR.out,if_pos h4]
    exact⟨_,rfl,World.ownsRow_nil _ _ _ _,HW.out.bel⟩
   ·have g4:¬(4000:Int) < n:=by omega
    go_wp2
    go_ret2
    rw [HR.out,if_neg h4, ←HWE.out]
    exact⟨_,rfl,HW.out.row,HW.out.bel⟩
theorem conv_one (W:World) (B:Nat) (d:Nat) (hd:d < 10) (h:W.cell? ⟨B,0,none⟩=some (.int .u8 (48+(d:Int)))):
  (convert 93 9 (.slice (some ⟨B,0,none⟩) 1 1)).run Tryz.prog W= .ok (.string ⟨[UInt8.ofNat (48+d)].toArray⟩) W:=by
 refine run_convert_bytes_back W _ _ 5 ⟨B,0,none⟩ 1 [UInt8.ofNat (48+d)] Tryz.underlying93 Tryz.underlying5 Tryz.underlying9 fun j hj=>?_
 obtain rfl:j=0:=by simpa using hj
 rw [Addr.add_lit,h]
 simp only [List.getElem_cons_zero,digit_nat hd]
 rfl
theorem rdig_small (n:Nat) (hn:n < 10) (w:World):Calls Tryz.prog 108 #[.int .i64 n] w fun e w'=>e= .returned (.string ⟨(digitsR n).toArray⟩)∧Below w.heap.size w w':=by
 rw [digits_small hn]
 have hw:IntKind.u8.wrap (48+(n:Int))=48+(n:Int):=by rw [IntKind.wrap_u8];omega
 have hcv:=conv_one (w.alloc (.cells #[.int .u8 (48+(n:Int))] 5)) w.heap.size n hn (one_cell w _ _)
 obtain⟨r,hr⟩:∃r:ByteArray,⟨[UInt8.ofNat (48+n)].toArray⟩=r:=⟨_,rfl⟩
 rw [hr] at hcv ⊢
 clear hr
 go_enter Tryz.func108,Tryz.ntmps108
 go_wp2
 go_ret
 exact⟨rfl,(Below.refl _ _).alloc (Nat.le_refl _) _⟩
theorem rdig_great (n:Nat) (hn:¬n < 10) (h9:n≤999999999) (ih:∀w,Calls Tryz.prog 108 #[.int .i64 (n / 10:Nat)] w fun e w'=>e= .returned (.string ⟨(digitsR (n / 10)).toArray⟩)∧Below w.heap.size w w') (w:World):
  Calls Tryz.prog 108 #[.int .i64 n] w fun e w'=>e= .returned (.string ⟨(digitsR n).toArray⟩)∧Below w.heap.size w w':=by
 rw [digits_great hn]
 have hm:=Nat.mod_lt n (show 0 < 10 by omega)
 have hlen:=digits_len 8 (n / 10) (by omega)
 have hq:((n / 10:Nat):Int)=(n:Int) / 10:=by omega
 have hr:((n % 10:Nat):Int)=(n:Int) % 10:=by omega
 have hcv:=fun W B=>conv_one W B (n % 10) hm
 have hadd:=fun W=>str_add (digitsR (n / 10)) [UInt8.ofNat (48+n % 10)] (by simp;omega) W
 obtain⟨r,hr1⟩:∃r:ByteArray,⟨[UInt8.ofNat (48+n % 10)].toArray⟩=r:=⟨_,rfl⟩
 obtain⟨x,hx1⟩:∃x:ByteArray,⟨(digitsR (n / 10)).toArray⟩=x:=⟨_,rfl⟩
 obtain⟨y,hy1⟩:∃y:ByteArray,⟨(digitsR (n / 10)++[UInt8.ofNat (48+n % 10)]).toArray⟩=y:=⟨_,rfl⟩
 rw [hr1] at hcv hadd
 rw [hx1] at hadd ih
 rw [hy1] at hadd ⊢
 rw [hq] at ih
 rw [hr] at hcv
 have IH:=xhd ih
 have b1:0≤(n:Int) % 10:=by omega
 have b2:(n:Int) % 10≤9:=by omega
 have hw:IntKind.u8.wrap (48+(n:Int) % 10)=48+(n:Int) % 10:=by rw [IntKind.wrap_u8];omega
 have hw2:IntKind.i64.wrap (48+(n:Int) % 10)=48+(n:Int) % 10:=IntWalk.i64_in _ (by omega)
 have hw3:IntKind.i64.wrap ((n:Int) / 10)=(n:Int) / 10:=IntWalk.i64_in _ (by omega)
 have ht:(n:Int).tmod 10=(n:Int) % 10:=Int.tmod_eq_emod_of_nonneg (by omega)
 have hn10:decide ((n:Int) < 10)=false:=by simp;omega
 clear hr1 hx1 hy1 hq hr hm hlen ih
 go_enter Tryz.func108,Tryz.ntmps108
 go_wp2_with fail
 go_region_with ((go_at_call 108;with_reducible refine (IH.out _).mono ?_;rintro e w1 ⟨rfl,hb⟩;obtain⟨hc,hf⟩:=bcell hb))
 all_goals
  simp only [List.getElem_toArray,List.getElem_cons_succ,List.getElem_cons_zero,Act.put,List.setIfInBounds_toArray]
  simp only [List.set_cons_succ,List.set_cons_zero]
  have HB:=xhd hb
  clear hb hc hf
  go_wp2
  go_ret
  refine⟨rfl,?_⟩
  first
   |exact ((Below.refl _ w).drew.trans HB.out).alloc HB.out.size _
   |exact ((Below.refl _ w).drew.alloc (Nat.le_refl _) _).trans (HB.out.mono (by simp))
theorem rdigits_any:∀(n:Nat),n≤999999999→∀w:World,Calls Tryz.prog 108 #[.int .i64 n] w fun e w'=>e= .returned (.string ⟨(digitsR n).toArray⟩)∧Below w.heap.size w w'
 |n,h9,w=>by
  by_cases hn:n < 10
  ·exact rdig_small n hn w
  ·exact rdig_great n hn h9 (fun W=>rdigits_any (n / 10) (by omega) W) w
termination_by n=>n
decreasing_by omega
theorem rlet_z (z:Int) (w:World):Calls Tryz.prog 141 #[.int .u8 z] w fun e w'=>e= .returned (.bool (decide (97≤z)&&decide (z≤122)))∧w'=w:=by
 cases h0:(decide (97≤z))
 all_goals
  go_enter Tryz.func141,Tryz.ntmps141
  go_wp2
  go_ret
  exact⟨rfl,rfl⟩
theorem rlet_any (c:By) (w:World):Calls Tryz.prog 141 #[.int .u8 c.toNat] w fun e w'=>e= .returned (.bool (isLet c))∧w'=w:=by
 have h:=rlet_z (c.toNat:Int) w
 rw [show decide ((97:Int)≤(c.toNat:Int))=decide (97≤c.toNat) from geb c 97,show decide ((c.toNat:Int)≤(122:Int))=decide (c.toNat≤122) from leb c 122] at h
 exact h
theorem rdig_z (z:Int) (w:World):Calls Tryz.prog 142 #[.int .u8 z] w fun e w'=>e= .returned (.bool (decide (48≤z)&&decide (z≤57)))∧w'=w:=by
 cases h0:(decide (48≤z))
 all_goals
  go_enter Tryz.func142,Tryz.ntmps142
  go_wp2
  go_ret
  exact⟨rfl,rfl⟩
theorem rdig_any (c:By) (w:World):Calls Tryz.prog 142 #[.int .u8 c.toNat] w fun e w'=>e= .returned (.bool (isDig c))∧w'=w:=by
 have h:=rdig_z (c.toNat:Int) w
 rw [show decide ((48:Int)≤(c.toNat:Int))=decide (48≤c.toNat) from geb c 48,show decide ((c.toNat:Int)≤(57:Int))=decide (c.toNat≤57) from leb c 57] at h
 exact h
theorem rmk_z (z:Int) (w:World):Calls Tryz.prog 143 #[.int .u8 z] w fun e w'=>e= .returned (.bool ((z == 123)||((z == 125)||((z == 59)||((z == 46)||((z == 61)))))))∧w'=w:=by
 cases h0:(z == 123)<;>cases h1:(z == 125)<;>cases h2:(z == 59)<;>cases h3:(z == 46)
 all_goals
  go_enter Tryz.func143,Tryz.ntmps143
  go_wp2
  go_ret
  exact⟨rfl,rfl⟩
theorem rmk_any (c:By) (w:World):Calls Tryz.prog 143 #[.int .u8 c.toNat] w fun e w'=>e= .returned (.bool (isMk c))∧w'=w:=by
 have h:=rmk_z (c.toNat:Int) w
 rw [show ((c.toNat:Int) == (123:Int))=decide (c.toNat=123) from eqb c 123,show ((c.toNat:Int) == (125:Int))=decide (c.toNat=125) from eqb c 125,show ((c.toNat:Int) == (59:Int))=decide (c.toNat=59) from eqb c 59,show ((c.toNat:Int) == (46:Int))=decide (c.toNat=46) from eqb c 46,show ((c.toNat:Int) == (61:Int))=decide (c.toNat=61) from eqb c 61] at h
 exact h
end Go.Proofs.YtbnhnnccioljhaaGreatDoor
