/-
  The document's Text.
  The document's Join.
-/
import Derived.Test.YtbnhnnccioljhaaGreatDoorZAO
import Derived.Test.YtbnhnnccioljhaaGreatDoorZAP
import Derived.Test.YtbnhnnccioljhaaGreatDoorZAL
import Derived.Test.YtbnhnnccioljhaaGreatDoorZAl
set_option maxRecDepth 100000
set_option maxHeartbeats 25600000
namespace Go.Proofs.YtbnhnnccioljhaaGreatDoor
open Go.RowKit
theorem rtext_num (tx:ByteArray) (n p:Int) (w:World):
  Calls Tryz.prog 57 #[.agg #[.int .i64 2, .string tx, .int .i64 n, .int .i64 p]] w fun e w'=>e= .returned (if (tx.data.toList == []&&decide (0≤n)&&decide (n≤999999999))=true then .tuple #[.string ⟨(digitsR n.toNat).toArray⟩, .int .i64 0] else .tuple #[.string ⟨#[]⟩, .int .i64 1])∧Below w.heap.size w w':=by
 rw [←Lib.toList_data]
 by_cases hx:tx.toList=[]
 ·by_cases h0:0≤n
  ·by_cases h9:n≤999999999
   ·rw [if_pos (by simp [hx,h0,h9])]
    obtain⟨m,rfl⟩:=Int.eq_ofNat_of_zero_le h0
    rw [Int.toNat_natCast]
    have HI:=xhd (rdigits_any m (by omega))
    obtain⟨r,hr⟩:∃r:ByteArray,⟨(digitsR m).toArray⟩=r:=⟨_,rfl⟩
    rw [hr] at HI ⊢
    clear hr
    go_enter Tryz.func57,Tryz.ntmps57
    go_wp2_with fail
    with_reducible refine (HI.out _).mono ?_
    rintro e w2 ⟨rfl,hb⟩
    have HB:=xhd hb
    clear hb
    go_wp2
    go_ret2
    exact⟨rfl,((Below.refl _ _).alloc (Nat.le_refl _) _).trans (HB.out.mono (by simp))⟩
   ·rw [if_neg (by simp [h9])]
    go_enter Tryz.func57,Tryz.ntmps57
    go_wp2
    go_ret2
    exact⟨rfl,(Below.refl _ _).alloc (Nat.le_refl _) _⟩
  ·rw [if_neg (by simp [h0])]
   go_enter Tryz.func57,Tryz.ntmps57
   go_wp2
   go_ret2
   exact⟨rfl,(Below.refl _ _).alloc (Nat.le_refl _) _⟩
 ·rw [if_neg (by simp [hx])]
  go_enter Tryz.func57,Tryz.ntmps57
  go_wp2
  go_ret2
  exact⟨rfl,(Below.refl _ _).alloc (Nat.le_refl _) _⟩
theorem rtext_none (k:Int) (tx:ByteArray) (n p:Int) (w:World) (h2:¬k=2) (h:¬n=0∨tx.toList=[]∨(¬k=1∧¬k=3)):
  Calls Tryz.prog 57 #[.agg #[.int .i64 k, .string tx, .int .i64 n, .int .i64 p]] w fun e w'=>e= .returned (.tuple #[.string ⟨#[]⟩, .int .i64 1])∧Below w.heap.size w w':=by
 have d2:(k == 2)=false:=by simpa using h2
 by_cases hn:n=0
 ·subst hn
  by_cases hx:tx.toList=[]
  ·clear h h2
   go_enter Tryz.func57,Tryz.ntmps57
   go_wp2
   go_ret2
   exact⟨rfl,(Below.refl _ _).alloc (Nat.le_refl _) _⟩
  ·have hk:¬k=1∧¬k=3:=by simpa [hx] using h
   have d1:(k != 1)=true:=by simpa using hk.1
   have d3:(k != 3)=true:=by simpa using hk.2
   clear h h2 hk
   go_enter Tryz.func57,Tryz.ntmps57
   go_wp2
   go_ret2
   exact⟨rfl,(Below.refl _ _).alloc (Nat.le_refl _) _⟩
 ·have dn:(n != 0)=true:=by simpa using hn
  clear h h2 hn
  go_enter Tryz.func57,Tryz.ntmps57
  go_wp2
  go_ret2
  exact⟨rfl,(Below.refl _ _).alloc (Nat.le_refl _) _⟩
theorem rtext_word (k:Int) (tx:ByteArray) (p:Int) (w:World) (hk:k=1∨k=3) (c:By) (t:List By) (hx:tx.data.toList=c::t) (hs:tx.size≤140737488355328):
  Calls Tryz.prog 57 #[.agg #[.int .i64 k, .string tx, .int .i64 0, .int .i64 p]] w fun e w'=>e= .returned (if (oneR c t 0).2.2=true∧(oneR c t 0).2.1=t.length∧(oneR c t 0).1.1=k then .tuple #[.string tx, .int .i64 0] else .tuple #[.string ⟨#[]⟩, .int .i64 1])∧Below w.heap.size w w':=by
 have hz:tx.size=t.length+1:=by rw [Lib.size_eq,hx];rfl
 have HC:=xhd (fun W=>one_any tx 0 c t W (by omega) hs (by rw [List.drop_zero];exact hx))
 obtain⟨⟨⟨a,b,cc,d⟩,m,ok⟩,ho⟩:∃x,oneR c t 0=x:=⟨_,rfl⟩
 rw [ho] at HC ⊢
 simp only [wdV] at HC
 rw [show ((0:Nat):Int)=0 from rfl] at HC
 obtain⟨ty,hty⟩:∃ty:ByteArray,⟨b.toArray⟩=ty:=⟨_,rfl⟩
 rw [hty] at HC
 obtain⟨T,hT⟩:∃T,0+1+m=T:=⟨_,rfl⟩
 rw [hT] at HC
 have hne:¬tx.toList=[]:=by rw [Lib.toList_data,hx];simp
 have hne2:tx.toList.isEmpty=false:=by simpa using hne
 have hm:m=t.length↔T=tx.size:=by omega
 have HM:=xhd hm
 have d2:(k == 2)=false:=by rcases hk with rfl|rfl<;>rfl
 have dk:(k != 1)=true→(k != 3)=false:=by rcases hk with rfl|rfl<;>decide
 clear ho hty hT hm hx hs hz hk
 cases ok with
 |false=>
  rw [if_neg (fun h=>absurd h.1 (by simp))]
  cases d1:(k != 1)
  case' true=>have d3:=dk d1
  all_goals
   clear dk
   go_enter Tryz.func57,Tryz.ntmps57
   go_wp2_with fail
   with_reducible refine (HC.out _).mono ?_
   rintro e w2 ⟨rfl,hb⟩
   obtain⟨hc,hf⟩:=bcell hb
   have HB:=xhd hb
   have hsz:=hb.size
   simp at hsz
   have hlt:w.heap.size < w2.heap.size:=by omega
   have hck:w2.cell? ⟨w.heap.size,0,none⟩=some (.int .i64 k):=by
    rw [hc _ _ (by simp)]
    simp
   clear hb hc hf
   go_wp2
   go_ret2
   exact⟨rfl,(((Below.refl _ _).alloc (Nat.le_refl _) _).trans (HB.out.mono (by simp))).alloc (by omega) _⟩
 |true=>
  by_cases hmt:m=t.length
  ·have hTz:=HM.out.1 hmt
   by_cases hak:a=k
   ·rw [if_pos ⟨rfl,hmt,hak⟩]
    have e1:((T:Int) != (tx.size:Int))=false:=by simp [hTz]
    have e2:(a != k)=false:=by simp [hak]
    clear hTz hak hmt
    cases d1:(k != 1)
    case' true=>have d3:=dk d1
    all_goals
     clear dk
     go_enter Tryz.func57,Tryz.ntmps57
     go_wp2_with fail
     with_reducible refine (HC.out _).mono ?_
     rintro e w2 ⟨rfl,hb⟩
     obtain⟨hc,hf⟩:=bcell hb
     have HB:=xhd hb
     have hsz:=hb.size
     simp at hsz
     have hlt:w.heap.size < w2.heap.size:=by omega
     have hck:w2.cell? ⟨w.heap.size,0,none⟩=some (.int .i64 k):=by
      rw [hc _ _ (by simp)]
      simp
     clear hb hc hf
     go_wp2
     go_ret2
     exact⟨rfl,(((Below.refl _ _).alloc (Nat.le_refl _) _).trans (HB.out.mono (by simp))).alloc (by omega) _⟩
   ·rw [if_neg (fun h=>hak h.2.2)]
    have e1:((T:Int) != (tx.size:Int))=false:=by simp [hTz]
    have e2:(a != k)=true:=by simp [hak]
    clear hTz hak hmt
    cases d1:(k != 1)
    case' true=>have d3:=dk d1
    all_goals
     clear dk
     go_enter Tryz.func57,Tryz.ntmps57
     go_wp2_with fail
     with_reducible refine (HC.out _).mono ?_
     rintro e w2 ⟨rfl,hb⟩
     obtain⟨hc,hf⟩:=bcell hb
     have HB:=xhd hb
     have hsz:=hb.size
     simp at hsz
     have hlt:w.heap.size < w2.heap.size:=by omega
     have hck:w2.cell? ⟨w.heap.size,0,none⟩=some (.int .i64 k):=by
      rw [hc _ _ (by simp)]
      simp
     clear hb hc hf
     go_wp2
     go_ret2
     exact⟨rfl,(((Below.refl _ _).alloc (Nat.le_refl _) _).trans (HB.out.mono (by simp))).alloc (by omega) _⟩
  ·rw [if_neg (fun h=>hmt h.2.1)]
   have e1:((T:Int) != (tx.size:Int))=true:=by
    rw [bne_iff_ne]
    intro h
    exact hmt (HM.out.2 (by omega))
   clear hmt
   cases d1:(k != 1)
   case' true=>have d3:=dk d1
   all_goals
    clear dk
    go_enter Tryz.func57,Tryz.ntmps57
    go_wp2_with fail
    with_reducible refine (HC.out _).mono ?_
    rintro e w2 ⟨rfl,hb⟩
    obtain⟨hc,hf⟩:=bcell hb
    have HB:=xhd hb
    have hsz:=hb.size
    simp at hsz
    have hlt:w.heap.size < w2.heap.size:=by omega
    have hck:w2.cell? ⟨w.heap.size,0,none⟩=some (.int .i64 k):=by
     rw [hc _ _ (by simp)]
     simp
    clear hb hc hf
    go_wp2
    go_ret2
    exact⟨rfl,(((Below.refl _ _).alloc (Nat.le_refl _) _).trans (HB.out.mono (by simp))).alloc (by omega) _⟩
theorem rtext_any (k:Int) (tx:ByteArray) (n p:Int) (w:World) (hs:tx.size≤140737488355328):
  Calls Tryz.prog 57 #[.agg #[.int .i64 k, .string tx, .int .i64 n, .int .i64 p]] w fun e w'=>e= .returned (.tuple #[.string ⟨(textA (k,tx.data.toList,n,p)).1.toArray⟩, .int .i64 (textA (k,tx.data.toList,n,p)).2])∧Below w.heap.size w w':=by
 by_cases h2:k=2
 ·subst h2
  rw [←text_eq]
  have e:textP (2,tx.data.toList,n,p)=if (tx.data.toList == []&&decide (0≤n)&&decide (n≤999999999))=true then (digitsR n.toNat,0) else ([],1):=by
   unfold textP
   rw [if_neg (show ¬(2:Int)=1 by decide),if_pos rfl]
  rw [e]
  have h:=rtext_num tx n p w
  split
  ·next hc=>rw [if_pos hc] at h;exact h
  ·next hc=>rw [if_neg hc] at h;exact h
 ·by_cases hn:n=0
  ·subst hn
   cases hx:tx.data.toList with
   |nil=>
    have e:textA (k,[],0,p)=([],1):=by unfold textA textR;simp [h2]
    rw [e]
    exact rtext_none k tx 0 p w h2 (.inr (.inl (by rw [Lib.toList_data];exact hx)))
   |cons c t=>
    by_cases hk:k=1∨k=3
    ·have h:=rtext_word k tx p w hk c t hx hs
     by_cases hc:(oneR c t 0).2.2=true∧(oneR c t 0).2.1=t.length∧(oneR c t 0).1.1=k
     ·have e:textA (k,c::t,0,p)=(c::t,0):=by
        unfold textA textR
        simp only
        rw [if_neg h2,if_neg (by simp),if_pos ⟨hk,hc⟩]
      rw [if_pos hc] at h
      rw [e, ←hx,Lib.mk_data]
      exact h
     ·have e:textA (k,c::t,0,p)=([],1):=by
        unfold textA textR
        simp only
        rw [if_neg h2,if_neg (by simp),if_neg (fun h=>hc h.2)]
      rw [if_neg hc] at h
      rw [e]
      exact h
    ·have e:textA (k,c::t,0,p)=([],1):=by
       unfold textA textR
       simp only
       rw [if_neg h2,if_neg (by simp),if_neg (fun h=>hk h.1)]
     rw [e]
     exact rtext_none k tx 0 p w h2 (.inr (.inr ⟨fun h=>hk (.inl h),fun h=>hk (.inr h)⟩))
  ·have e:textA (k,tx.data.toList,n,p)=([],1):=by
     unfold textA textR
     simp only
     rw [if_neg h2,if_pos (by simpa using hn)]
   rw [e]
   exact rtext_none k tx n p w h2 (.inl hn)
theorem rjoin_over {L:List Wd} {out:List By} (h:joinF L []=some out) (hl:8000 < out.length) {w w':World} (hb:Below w.heap.size w w'):JoinPost L w (.returned (.tuple #[.string ⟨#[]⟩, .int .i64 6])) w':=by
 unfold JoinPost joinA
 rw [h]
 simp only
 rw [if_pos hl]
 exact⟨rfl,hb⟩
theorem rjoin_long (ao:Option Addr) (b off cap:Nat) (L:List Wd) (w:World) (h:WArg w ao b off L) (hL:L.length≤24000) (hx:∀x ∈ L,x.2.1.length≤40):
  Calls Tryz.prog 22 #[.slice ao L.length cap] w (JoinPost L w):=by
 have HA:=xhd h
 have HX:=xhd hx
 obtain⟨n,hn⟩:∃n,L.length=n:=⟨_,rfl⟩
 have HN:=xhd hn
 rw [hn] at hL ⊢
 clear h hx hn
 go_enter Tryz.func22,Tryz.ntmps22
 go_wp2
 go_loopw [4,5] (fun v i' wr=>∃(i:Nat) (o:ByteArray),i'= .int .i64 i∧v= .string o∧i≤n∧Hid (joinF L []=joinF (L.drop i) o.data.toList)∧Hid (Below w.heap.size w wr)∧o.size≤41*i) (fun _ i' _=>n - (intOf i').toNat)
 case atStart=>exact⟨0,⟨#[]⟩,rfl,rfl,Nat.zero_le _,rfl,Below.refl _ _,Nat.le_refl _⟩
 case round=>
  obtain⟨i,o,rfl,rfl,hi,HE,HB,hol⟩:=hrel
  by_cases hlt:i < n
  ·have hlt':i < L.length:=by rw [HN.out];exact hlt
   have ha:=HA.out.below HB.out
   obtain⟨rfl,hbl⟩:=ha.at_ (by omega)
   obtain⟨c0,c1,c2,c3⟩:=ha.cells i hlt'
   have hd:L.drop i=L[i]::L.drop (i+1):=List.drop_eq_getElem_cons hlt'
   have hx:=HX.out L[i] (List.getElem_mem hlt')
   obtain⟨⟨k,l,m,p⟩,hxe⟩:∃x,L[i]=x:=⟨_,rfl⟩
   rw [hxe] at c0 c1 c2 c3 hd hx
   simp only at c0 c1 c2 c3 hx
   have hsz:(⟨l.toArray⟩:ByteArray).size=l.length:=by rw [Lib.size_eq]
   have HTX:=xhd (fun W=>rtext_any k ⟨l.toArray⟩ m p W (by rw [hsz];omega))
   have hn2:=HE.out
   rw [hd,joinF_cons] at hn2
   have hle:=HB.out.size
   obtain⟨tx,htx⟩:∃tx:ByteArray,⟨l.toArray⟩=tx:=⟨_,rfl⟩
   rw [htx] at c1 HTX
   have hlx:∀s,textR (k,l,m,p)=some s→s.length≤40:=fun s hs=>textR_len hs hx
   cases hs:textR (k,l,m,p) with
   |none=>
    have e:textA (k,l,m,p)=([],1):=by unfold textA;rw [hs]
    rw [hs] at hn2
    rw [show tx.data.toList=l by rw [←htx],e] at HTX
    have HJ:=xhd hn2
    clear e hs hn2 hd hxe hx hlx htx hsz ha hlt'
    go_wp2_with fail
    with_reducible refine (HTX.out _).mono ?_
    rintro e w2 ⟨rfl,hb2⟩
    have HB2:=xhd hb2
    clear hb2
    go_wp2
    go_ret2
    exact join_none HJ.out (HB.out.trans (HB2.out.mono hle))
   |some s=>
    have e:textA (k,l,m,p)=(s,0):=by unfold textA;rw [hs]
    rw [hs] at hn2
    rw [show tx.data.toList=l by rw [←htx],e] at HTX
    have HJ:=xhd hn2
    have h40:=hlx s hs
    have HD:Hid (∃r:ByteArray,(⟨s.toArray⟩:ByteArray)=r∧r.data.toList=s∧r.size=s.length):=⟨_,rfl,rfl,by rw [Lib.size_eq]⟩
    obtain⟨r,hr1,hr2,hr3⟩:=HD.out
    simp only at HTX
    rw [hr1] at HTX
    have hr4:r.size≤40:=by omega
    have HR2:=xhd hr2
    clear e hs hn2 hd hxe hx hlx htx hsz ha hlt' HD hr1 hr2 hr3 h40
    have hadd:∀(a:ByteArray) W,a.size≤990000→(Op.stringOp .add a r).run Tryz.prog W= .ok (.string (a++r)) W:=fun a W ha=>run_string_add_sum W a r (by omega)
    by_cases hcond:o.data.toList≠[]∧r.data.toList≠[59]
    ·have q1:o.toList.isEmpty=false:=by rw [Lib.toList_data];simpa using hcond.1
     have q0:¬o.toList=[]:=by rw [Lib.toList_data];exact hcond.1
     have q2:(r.toList == [59])=false:=by rw [Lib.toList_data];simpa using hcond.2
     have a1:∀W,(Op.stringOp .add o ⟨#[32]⟩).run Tryz.prog W= .ok (.string (o++⟨#[32]⟩)) W:=fun W=>run_string_add_sum W o _ (by have:(⟨#[32]⟩:ByteArray).size=1:=rfl;omega)
     have hz:(o++(⟨#[32]⟩:ByteArray)).size=o.size+1:=(ba_add _ _).2
     have a2:=fun W=>hadd (o++⟨#[32]⟩) W (by omega)
     have HP:Hid ((o++(⟨#[32]⟩:ByteArray)++r).data.toList=addR o.data.toList s∧(o++(⟨#[32]⟩:ByteArray)++r).size=o.size+1+r.size):=by
      constructor
      ·rw [(ba_add _ _).1,(ba_add _ _).1]
       unfold addR
       rw [if_pos (by rw [←HR2.out];exact hcond),HR2.out]
      ·rw [(ba_add _ _).2,hz]
     obtain⟨o1,ho1⟩:∃o1,o++(⟨#[32]⟩:ByteArray)=o1:=⟨_,rfl⟩
     rw [ho1] at a1 a2 HP
     obtain⟨o2,ho2⟩:∃o2,o1++r=o2:=⟨_,rfl⟩
     rw [ho2] at a2 HP
     clear hcond hadd ho1 ho2 hz
     go_wp2_with fail
     with_reducible refine (HTX.out _).mono ?_
     rintro e w2 ⟨rfl,hb2⟩
     have HB2:=xhd hb2
     clear hb2
     go_wp2
     go_roundw
     case rel=>exact⟨i+1,o2,by go_num,rfl,by omega,by rw [HP.out.1];exact HJ,HB.out.trans (HB2.out.mono hle),by have:=HP.out.2;omega⟩
     case measure=>simp [intOf];omega
    ·have hd:o.toList=[]∨(¬o.toList=[]∧(r.toList == [59])=true):=by
       rw [Lib.toList_data,Lib.toList_data]
       by_cases h0:o.data.toList=[]
       ·exact .inl h0
       ·right
        refine⟨h0,?_⟩
        have h59:r.data.toList=[59]:=Classical.byContradiction fun h=>hcond ⟨h0,h⟩
        simp [h59]
     have a2:=fun W=>hadd o W (by omega)
     have HP:Hid ((o++r).data.toList=addR o.data.toList s∧(o++r).size=o.size+r.size):=by
      constructor
      ·rw [(ba_add _ _).1]
       unfold addR
       rw [if_neg (by rw [←HR2.out];exact hcond),HR2.out]
      ·exact (ba_add _ _).2
     obtain⟨o2,ho2⟩:∃o2,o++r=o2:=⟨_,rfl⟩
     rw [ho2] at a2 HP
     clear hcond hadd ho2
     rcases hd with q0|⟨q0,q2⟩
     ·have q1:o.toList.isEmpty=true:=by rw [q0];rfl
      go_wp2_with fail
      with_reducible refine (HTX.out _).mono ?_
      rintro e w2 ⟨rfl,hb2⟩
      have HB2:=xhd hb2
      clear hb2
      go_wp2
      go_roundw
      case rel=>exact⟨i+1,o2,by go_num,rfl,by omega,by rw [HP.out.1];exact HJ,HB.out.trans (HB2.out.mono hle),by have:=HP.out.2;omega⟩
      case measure=>simp [intOf];omega
     ·have q1:o.toList.isEmpty=false:=by simpa using q0
      go_wp2_with fail
      with_reducible refine (HTX.out _).mono ?_
      rintro e w2 ⟨rfl,hb2⟩
      have HB2:=xhd hb2
      clear hb2
      go_wp2
      go_roundw
      case rel=>exact⟨i+1,o2,by go_num,rfl,by omega,by rw [HP.out.1];exact HJ,HB.out.trans (HB2.out.mono hle),by have:=HP.out.2;omega⟩
      case measure=>simp [intOf];omega
  ·obtain rfl:i=n:=by omega
   have hE:=HE.out
   rw [List.drop_eq_nil_of_le (by rw [HN.out];exact Nat.le_refl _)] at hE
   have HJ:=xhd (show joinF L []=some o.data.toList from hE)
   clear hE
   by_cases h8:o.size≤8000
   ·go_wp2
    go_ret2
    have h:=join_some HJ.out (by rw [←Lib.size_eq];exact h8) HB.out
    rw [Lib.mk_data] at h
    exact h
   ·have g8:(8000:Int) < o.size:=by omega
    go_wp2
    go_ret2
    exact rjoin_over HJ.out (by rw [←Lib.size_eq];omega) HB.out
end Go.Proofs.YtbnhnnccioljhaaGreatDoor
