/-
  The document's one: letters, digits.
  The document's one: a mark, or none; all of it.
-/
import Derived.Test.YtbnhnnccioljhaaGreatDoorZAO
import Derived.Test.YtbnhnnccioljhaaGreatDoorZAA
import Derived.Deep.RegionWith
import Derived.Test.YtbnhnnccioljhaaGreatDoorZAl
set_option maxRecDepth 100000
set_option maxHeartbeats 25600000
namespace Go.Proofs.YtbnhnnccioljhaaGreatDoor
open Go.RowKit
theorem one_let (s:ByteArray) (p:Nat) (c:By) (t:List By) (w:World) (hp:p < s.size) (hs:s.size≤140737488355328) (hd:s.data.toList.drop p=c::t) (hl:isLet c=true):
  Calls Tryz.prog 74 #[.string s, .int .i64 p] w fun e w'=>e= .returned (.tuple #[wdV (oneR c t p).1, .int .i64 (p+1+(oneR c t p).2.1:Nat), .bool (oneR c t p).2.2])∧Below w.heap.size w w':=by
 have e:oneR c t p=((1,c::t.takeWhile isLet,0,(p:Int)),(t.takeWhile isLet).length,decide ((t.takeWhile isLet).length < 12)):=by unfold oneR;rw [if_pos hl]
 rw [e]
 have h0:=byte_drop s p hp
 rw [hd] at h0
 obtain⟨hc,_⟩:=List.cons.inj h0
 have HQ0:=xhd (fun W=>hl ▸ rlet_any c W)
 have HW:Hid ((s.data.toList.drop p).takeWhile isLet=c::t.takeWhile isLet):=by
  unfold Hid
  rw [hd,List.takeWhile_cons,if_pos hl]
 have HL:=xhd (fun c W=>rlet_any c W)
 obtain⟨m,hm⟩:∃m,(t.takeWhile isLet).length=m:=⟨_,rfl⟩
 have HM:=xhd hm
 have HR:Hid (wdV (1,c::t.takeWhile isLet,0,(p:Int))= .agg #[.int .i64 1, .string (s.extract p (p+1+m)), .int .i64 0, .int .i64 p]):=by
  unfold Hid wdV
  rw [Lib.extract_eq, ←HM.out]
  have:(s.data.toList.drop p).take (p+1+(t.takeWhile isLet).length - p)=c::t.takeWhile isLet:=by
   rw [←HW.out,show p+1+(t.takeWhile isLet).length - p=((s.data.toList.drop p).takeWhile isLet).length by rw [HW.out];simp;omega]
   exact take_takeWhile _
  rw [this]
 rw [hm]
 simp only
 rw [HR.out]
 have hc':s[p]=c:=hc.symm
 obtain⟨b,hb⟩:∃b,decide (m < 12)=b:=⟨_,rfl⟩
 rw [hb]
 obtain⟨T,hT⟩:∃T,p+1+m=T:=⟨_,rfl⟩
 rw [hT]
 have HTT:=xhd hT
 clear hT
 have HBB:=xhd hb
 clear e h0 hd hl hm HR hb
 clear hc
 go_enter Tryz.func74,Tryz.ntmps74
 go_wp2_with fail
 with_reducible refine (HQ0.out _).mono ?_
 rintro e w1 ⟨rfl,rfl⟩
 clear hc'
 go_wp2_with fail
 go_loop [7] (fun e=>∃k:Nat,p≤k∧k≤s.size∧e= .int .i64 k∧Hid (T=k+((s.data.toList.drop k).takeWhile isLet).length)) (fun e=>s.size - (intOf e).toNat)
 case atStart=>exact⟨p,Nat.le_refl _,by omega,rfl,by
  unfold Hid
  rw [HW.out,List.length_cons,HM.out, ←HTT.out]
  omega⟩
 case round=>
  obtain⟨k,hpk,hk,rfl,HK⟩:=hrel
  by_cases hlt:k < s.size
  ·have HD:=xhd (byte_drop s k hlt)
   have HQ:=xhd (fun W=>HL.out (s[k]) W)
   obtain⟨d,hd⟩:∃d,s[k]=d:=⟨_,rfl⟩
   rw [hd] at HD HQ
   cases hq:isLet d with
   |true=>
    rw [hq] at HQ
    have HE:=xhd hq
    clear hq
    go_wp2_with fail
    with_reducible refine (HQ.out _).mono ?_
    rintro e w1 ⟨rfl,rfl⟩
    go_wp2
    go_round
    case rel=>exact⟨k+1,by omega,by omega,by go_num,by
     have h:=HK.out
     rw [HD.out,List.takeWhile_cons,if_pos HE.out,List.length_cons] at h
     unfold Hid
     omega⟩
    case measure=>simp [intOf];omega
   |false=>
    rw [hq] at HQ
    have HE:=xhd hq
    clear hq
    have hkm:T=k:=by
     have h:=HK.out
     rw [HD.out,List.takeWhile_cons,if_neg (by rw [HE.out];decide)] at h
     simpa using h
    have d12:decide ((k:Int) - (p:Int)≤12)=b:=by
     have:=HTT.out
     rw [←HBB.out,Bool.eq_iff_iff]
     simp
     omega
    have HKM:=xhd hkm
    clear hkm
    go_wp2_with fail
    with_reducible refine (HQ.out _).mono ?_
    rintro e w1 ⟨rfl,rfl⟩
    go_wp2
    rw [HKM.out]
    exact bodyPost_ret (word_result2 rfl rfl rfl rfl (heap_alloc_new _ _)) rfl ⟨rfl,(Below.refl _ _).alloc (Nat.le_refl _) _⟩
  ·have hkm:T=k:=by
     have h:=HK.out
     rw [drop_end s k (by omega)] at h
     simpa using h
   have d12:decide ((k:Int) - (p:Int)≤12)=b:=by
    have:=HTT.out
    rw [←HBB.out,Bool.eq_iff_iff]
    simp
    omega
   have HKM:=xhd hkm
   clear hkm
   go_wp2
   rw [HKM.out]
   exact bodyPost_ret (word_result2 rfl rfl rfl rfl (heap_alloc_new _ _)) rfl ⟨rfl,(Below.refl _ _).alloc (Nat.le_refl _) _⟩
theorem digs_next (s:ByteArray) (p k:Nat) (h:p≤k) (hk:k < s.size):(s.data.toList.drop p).take (k+1 - p)=(s.data.toList.drop p).take (k - p)++[s[k]]:=by
 have hl:k - p < (s.data.toList.drop p).length:=by rw [List.length_drop, ←Lib.size_eq];omega
 rw [show k+1 - p=k - p+1 by omega,List.take_succ_eq_append_getElem hl,List.getElem_drop]
 congr 2
 simp only [show p+(k - p)=k by omega]
 rfl
theorem num_next (l:List By) (d:By):numR ((l++[d]).take 9)=if l.length < 9 then numR (l.take 9)*10+(d.toNat - 48) else numR (l.take 9):=by
 by_cases h:l.length < 9
 ·rw [if_pos h,List.take_of_length_le (by simp;omega),numR_snoc,List.take_of_length_le (by omega)]
 ·rw [if_neg h,List.take_append_of_le_length (by omega)]
theorem num_nine (l:List By) (h:∀c ∈ l,isDig c=true):numR (l.take 9) < 1000000000:=by
 have:=num_bound (l.take 9) (fun c hc=>h c (List.mem_of_mem_take hc))
 have h9:(l.take 9).length≤9:=List.length_take_le _ _
 exact Nat.lt_of_lt_of_le this (Nat.le_trans (Nat.pow_le_pow_right (by decide) h9) (by decide))
theorem one_dig (s:ByteArray) (p:Nat) (c:By) (t:List By) (w:World) (hp:p < s.size) (hs:s.size≤140737488355328) (hd:s.data.toList.drop p=c::t) (hl:isLet c=false) (hg:isDig c=true):
  Calls Tryz.prog 74 #[.string s, .int .i64 p] w fun e w'=>e= .returned (.tuple #[wdV (oneR c t p).1, .int .i64 (p+1+(oneR c t p).2.1:Nat), .bool (oneR c t p).2.2])∧Below w.heap.size w w':=by
 have e:oneR c t p=((2,[],((numR ((c::t.takeWhile isDig).take 9):Nat):Int),(p:Int)),(t.takeWhile isDig).length,decide ((t.takeWhile isDig).length < 9)&&(!decide (c.toNat=48)||decide ((t.takeWhile isDig).length=0))):=by unfold oneR;rw [if_neg (by simp [hl]),if_pos hg]
 rw [e]
 have h0:=byte_drop s p hp
 rw [hd] at h0
 obtain⟨hc,_⟩:=List.cons.inj h0
 have HQ0:=xhd (fun W=>hl ▸ rlet_any c W)
 have HQ1:=xhd (fun W=>hg ▸ rdig_any c W)
 have HW:Hid ((s.data.toList.drop p).takeWhile isDig=c::t.takeWhile isDig):=by
  unfold Hid
  rw [hd,List.takeWhile_cons,if_pos hg]
 have HL:=xhd (fun c W=>rdig_any c W)
 obtain⟨m,hm⟩:∃m,(t.takeWhile isDig).length=m:=⟨_,rfl⟩
 have HM:=xhd hm
 have HV:Hid (numR ((c::t.takeWhile isDig).take 9)=numR (((s.data.toList.drop p).take (p+1+m - p)).take 9)):=by
  unfold Hid
  rw [←HW.out, ←HM.out,show p+1+(t.takeWhile isDig).length - p=((s.data.toList.drop p).takeWhile isDig).length by rw [HW.out];simp;omega,take_takeWhile]
 rw [hm]
 unfold wdV
 simp only
 rw [HV.out]
 obtain⟨T,hT⟩:∃T,p+1+m=T:=⟨_,rfl⟩
 rw [hT]
 have HTT:=xhd hT
 clear hT
 have hc':s[p]=c:=hc.symm
 have HC:=xhd hc'
 clear e h0 hd hl hg hm hc
 go_enter Tryz.func74,Tryz.ntmps74
 go_wp2_with fail
 with_reducible refine (HQ0.out _).mono ?_
 rintro e w1 ⟨rfl,rfl⟩
 go_wp2_with fail
 with_reducible refine (HQ1.out _).mono ?_
 rintro e w1 ⟨rfl,rfl⟩
 clear hc'
 go_wp2_with fail
 go_loop [7,8] (fun e n=>∃k:Nat,p≤k∧k≤s.size∧e= .int .i64 k∧n= .int .i64 (numR (((s.data.toList.drop p).take (k - p)).take 9):Nat)∧Hid (T=k+((s.data.toList.drop k).takeWhile isDig).length)∧Hid (∀c ∈ (s.data.toList.drop p).take (k - p),isDig c=true)) (fun e _=>s.size - (intOf e).toNat)
 case atStart=>exact⟨p,Nat.le_refl _,by omega,rfl,by rw [Nat.sub_self];rfl,by
  unfold Hid
  rw [HW.out,List.length_cons,HM.out, ←HTT.out]
  omega,by unfold Hid;rw [Nat.sub_self];simp⟩
 case round=>
  obtain⟨k,hpk,hk,rfl,rfl,HK,HA⟩:=hrel
  have hv9:=num_nine _ HA.out
  have hlen:((s.data.toList.drop p).take (k - p)).length=k - p:=by rw [List.length_take,List.length_drop, ←Lib.size_eq];omega
  by_cases hlt:k < s.size
  ·have HD:=xhd (byte_drop s k hlt)
   have hnx:=digs_next s p k hpk hlt
   have HQ:=xhd (fun W=>HL.out (s[k]) W)
   obtain⟨d,hd⟩:∃d,s[k]=d:=⟨_,rfl⟩
   rw [hd] at HD HQ hnx
   cases hq:isDig d with
   |true=>
    rw [hq] at HQ
    have HE:=xhd hq
    have hd48:48≤d.toNat∧d.toNat≤57:=by simp [isDig] at hq;omega
    have HNX:=xhd (hnx ▸ num_next ((s.data.toList.drop p).take (k - p)) d)
    have HA2:Hid (∀c ∈ (s.data.toList.drop p).take (k+1 - p),isDig c=true):=by
     unfold Hid
     rw [hnx]
     intro x hx
     rcases List.mem_append.1 hx with hx|hx
     ·exact HA.out x hx
     ·rw [List.mem_singleton.1 hx];exact hq
    rw [hlen] at HNX
    obtain⟨v,hv⟩:∃v,numR (((s.data.toList.drop p).take (k - p)).take 9)=v:=⟨_,rfl⟩
    rw [hv] at HNX hv9 ⊢
    have hd1:=hd48.1
    have hd2:=hd48.2
    have HK2:Hid (T=k+1+((s.data.toList.drop (k+1)).takeWhile isDig).length):=by
     have h:=HK.out
     rw [HD.out,List.takeWhile_cons,if_pos HE.out,List.length_cons] at h
     unfold Hid
     omega
    clear hq hnx hlen hv hd48
    by_cases h9:k - p < 9
    ·have d9:decide ((k:Int) - (p:Int) < 9)=true:=by simp;omega
     have HN:=HNX.out
     rw [if_pos h9] at HN
     have HN2:=xhd HN
     clear h9 HN
     go_wp2_with fail
     with_reducible refine (HQ.out _).mono ?_
     rintro e w1 ⟨rfl,rfl⟩
     go_wp2
     go_round
     case rel=>exact⟨k+1,by omega,by omega,by go_num,by rw [HN2.out];congr 1;omega,HK2,HA2⟩
     case measure=>simp [intOf];omega
    ·have d9:decide ((k:Int) - (p:Int) < 9)=false:=by simp;omega
     have HN:=HNX.out
     rw [if_neg h9] at HN
     have HN2:=xhd HN
     clear h9 HN
     go_wp2_with fail
     with_reducible refine (HQ.out _).mono ?_
     rintro e w1 ⟨rfl,rfl⟩
     go_wp2
     go_round
     case rel=>exact⟨k+1,by omega,by omega,by go_num,by rw [HN2.out],HK2,HA2⟩
     case measure=>simp [intOf];omega
   |false=>
    rw [hq] at HQ
    have HE:=xhd hq
    clear hq hnx hlen
    have hkm:T=k:=by
     have h:=HK.out
     rw [HD.out,List.takeWhile_cons,if_neg (by rw [HE.out];decide)] at h
     simpa using h
    have HKM:=xhd hkm
    have e1:decide ((k:Int) - (p:Int)≤9)=decide (m < 9):=by
     have:=HTT.out
     rw [Bool.eq_iff_iff]
     simp
     omega
    have e2:((k:Int) == (p:Int)+1)=decide (m=0):=by
     have:=HTT.out
     rw [Bool.eq_iff_iff]
     simp
     omega
    have e3:((c.toNat:Int) != 48)=!decide (c.toNat=48):=neb c 48
    have hc':=HC.out
    clear hkm
    obtain⟨v,hv⟩:∃v,numR (((s.data.toList.drop p).take (k - p)).take 9)=v:=⟨_,rfl⟩
    rw [hv]
    have HHV:=xhd hv
    clear hv
    cases hb1:decide (m < 9)<;>cases hb2:decide (m=0)<;>cases hb3:decide (c.toNat=48)
    all_goals
     have HB1:=xhd hb1
     have HB2:=xhd hb2
     have HB3:=xhd hb3
     rw [hb1] at e1
     rw [hb2] at e2
     rw [hb3] at e3
     clear hb1 hb2 hb3
     go_wp2_with fail
     with_reducible refine (HQ.out _).mono ?_
     rintro e w1 ⟨rfl,rfl⟩
     go_wp2
     rw [HKM.out,HHV.out,HB1.out,HB2.out,HB3.out]
     exact bodyPost_ret (word_result2 rfl rfl rfl rfl (heap_alloc_new _ _)) rfl ⟨rfl,(Below.refl _ _).alloc (Nat.le_refl _) _⟩
  ·have hkm:T=k:=by
     have h:=HK.out
     rw [drop_end s k (by omega)] at h
     simpa using h
   have HKM:=xhd hkm
   have e1:decide ((k:Int) - (p:Int)≤9)=decide (m < 9):=by
    have:=HTT.out
    rw [Bool.eq_iff_iff]
    simp
    omega
   have e2:((k:Int) == (p:Int)+1)=decide (m=0):=by
    have:=HTT.out
    rw [Bool.eq_iff_iff]
    simp
    omega
   have e3:((c.toNat:Int) != 48)=!decide (c.toNat=48):=neb c 48
   have hc':=HC.out
   clear hkm
   obtain⟨v,hv⟩:∃v,numR (((s.data.toList.drop p).take (k - p)).take 9)=v:=⟨_,rfl⟩
   rw [hv]
   have HHV:=xhd hv
   clear hv
   cases hb1:decide (m < 9)<;>cases hb2:decide (m=0)<;>cases hb3:decide (c.toNat=48)
   all_goals
    have HB1:=xhd hb1
    have HB2:=xhd hb2
    have HB3:=xhd hb3
    rw [hb1] at e1
    rw [hb2] at e2
    rw [hb3] at e3
    clear hb1 hb2 hb3
    go_wp2
    rw [HKM.out,HHV.out,HB1.out,HB2.out,HB3.out]
    exact bodyPost_ret (word_result2 rfl rfl rfl rfl (heap_alloc_new _ _)) rfl ⟨rfl,(Below.refl _ _).alloc (Nat.le_refl _) _⟩
theorem one_mark (s:ByteArray) (p:Nat) (c:By) (t:List By) (w:World) (hp:p < s.size) (hs:s.size≤140737488355328) (hd:s.data.toList.drop p=c::t) (hl:isLet c=false) (hg:isDig c=false):
  Calls Tryz.prog 74 #[.string s, .int .i64 p] w fun e w'=>e= .returned (.tuple #[wdV (oneR c t p).1, .int .i64 (p+1+(oneR c t p).2.1:Nat), .bool (oneR c t p).2.2])∧Below w.heap.size w w':=by
 have e:oneR c t p=((3,[c],0,(p:Int)),0,isMk c):=by unfold oneR;rw [if_neg (by simp [hl]),if_neg (by simp [hg])]
 rw [e]
 have h0:=byte_drop s p hp
 rw [hd] at h0
 obtain⟨hc,_⟩:=List.cons.inj h0
 have HQ0:=xhd (fun W=>hl ▸ rlet_any c W)
 have HQ1:=xhd (fun W=>hg ▸ rdig_any c W)
 have hx:(⟨[c].toArray⟩:ByteArray)=s.extract p (p+1):=by
  rw [Lib.extract_eq,hd,show p+1 - p=1 by omega]
  rfl
 unfold wdV
 simp only
 rw [hx,Nat.add_zero,Int.natCast_add p 1]
 obtain⟨b,hb⟩:∃b,isMk c=b:=⟨_,rfl⟩
 have HQ2:=xhd (fun W=>hb ▸ rmk_any c W)
 rw [hb]
 have hc':s[p]=c:=hc.symm
 have hp1:p+1≤s.size:=hp
 obtain⟨x,hxx⟩:∃x,s.extract p (p+1)=x:=⟨_,rfl⟩
 rw [hxx]
 have hw:IntKind.i64.wrap ((p:Int)+1)=(p:Int)+1:=IntWalk.i64_in _ (by omega)
 have hsl:∀W,(Instr.slice 9 (.string s) (some (.int .i64 (p:Int))) (some (.int .i64 ((p:Int)+1))) none).run Tryz.prog W= .ok (.string x) W:=fun W=>by
  rw [run_slice_string W 9 s .i64 .i64 (p:Int) ((p:Int)+1) Tryz.underlying9 (by omega) (by omega) (by omega)]
  rw [show ((p:Int)+1).toNat=p+1 by omega,Int.toNat_natCast,hxx]
 clear e h0 hd hl hg hb hx hc hxx
 go_enter Tryz.func74,Tryz.ntmps74
 go_wp2_with fail
 with_reducible refine (HQ0.out _).mono ?_
 rintro e w1 ⟨rfl,rfl⟩
 go_wp2_with fail
 with_reducible refine (HQ1.out _).mono ?_
 rintro e w1 ⟨rfl,rfl⟩
 go_wp2_with fail
 go_region_with ((go_at_call 143;with_reducible refine (HQ2.out _).mono ?_;rintro e w1 ⟨rfl,rfl⟩))
 simp only [List.getElem_toArray,List.getElem_cons_succ,List.getElem_cons_zero,Act.put,List.setIfInBounds_toArray]
 simp only [List.set_cons_succ,List.set_cons_zero]
 go_wp2
 exact bodyPost_ret (word_result2 rfl rfl rfl rfl (heap_alloc_new w _)) rfl ⟨rfl,((Below.refl _ _).alloc (Nat.le_refl _) _).drew⟩
theorem one_any (s:ByteArray) (p:Nat) (c:By) (t:List By) (w:World) (hp:p < s.size) (hs:s.size≤140737488355328) (hd:s.data.toList.drop p=c::t):
  Calls Tryz.prog 74 #[.string s, .int .i64 p] w fun e w'=>e= .returned (.tuple #[wdV (oneR c t p).1, .int .i64 (p+1+(oneR c t p).2.1:Nat), .bool (oneR c t p).2.2])∧Below w.heap.size w w':=by
 cases hl:isLet c with
 |true=>exact one_let s p c t w hp hs hd hl
 |false=>
  cases hg:isDig c with
  |true=>exact one_dig s p c t w hp hs hd hl hg
  |false=>exact one_mark s p c t w hp hs hd hl hg
end Go.Proofs.YtbnhnnccioljhaaGreatDoor
