/-
  The program's ledger: hold, Charge, Weigh. (Made by gen_lpset.py.)
  The program's ledger: Least. (Made by gen_lploop.py.)
-/
import Derived.Test.YtcgjbllmoglhfaaDoorZAD
import Derived.Test.YtcgjbllmoglhfaaDoorZAC
import Derived.Test.YtcgjbllmoglhfaaDoorZAl
set_option maxRecDepth 100000
set_option maxHeartbeats 25600000
namespace Go.Proofs.YtcgjbllmoglhfaaDoor
open Go.RowKit
section
variable {w w':World} {b:Nat} {X Y:List Nat} {l l':List Pty} {s c f:Int} {a:Nat} {g:Lg} {n:Int} {pa:Option Addr}
theorem modify_two {l:List Pty} {j:Nat} {x:Pty} (hx:l[j]?=some x) (F:Pty→Pty):l.modify j F=l.set j (F x):=by
 apply List.ext_getElem?
 intro i
 have hl:j < l.length:=(List.getElem?_eq_some_iff.1 hx).1
 rw [List.getElem?_modify,List.getElem?_set]
 by_cases e:j=i
 ·subst e
  rw [hx]
  simp [hl]
 ·simp [e]
theorem LpQ.at_ (h:LpQ w b X l s c f a) {r m cap j:Nat} {x:Pty} (hv:w.cell? ⟨b,0,none⟩=some (.slice (some ⟨r,0,none⟩) m cap)) (hx:l[j]?=some x):
  w.cell? ⟨r,j*3,none⟩=some (.int .i64 x.1)∧w.cell? ⟨r,j*3+1,none⟩=some (.int .u64 x.2.1)∧w.cell? ⟨r,j*3+2,none⟩=some (.int .i64 x.2.2.1)∧(∀i,w.frozen? ⟨r,i,none⟩=false)∧b≠r∧r ∈ X∧m=l.length:=by
 obtain⟨ao,cap',q0,_,_,_,_,_,_,hr⟩:=h.rows
 obtain⟨r',e,r0,r1,r2,fz,hbr,hrX⟩:=hr j x hx
 have e2:=Value.slice.inj (Option.some.inj (hv.symm.trans q0))
 rw [e] at e2
 obtain⟨e3,e4,_⟩:=e2
 cases e3
 exact⟨r0,r1,r2,fz,hbr,hrX,e4⟩
theorem LpQ.row (h:LpQ w b X l s c f a) {j:Nat} {x:Pty} (hx:l[j]?=some x):∃r cap,w.cell? ⟨b,0,none⟩=some (.slice (some ⟨r,0,none⟩) l.length cap):=by
 obtain⟨ao,cap,q0,_,_,_,_,_,_,hr⟩:=h.rows
 obtain⟨r,rfl,_⟩:=hr j _ hx
 exact⟨r,cap,q0⟩
theorem LpQ.fields (h:LpQ w b X l s c f a):w.cell? ⟨b,1,none⟩=some (.int .u64 (a:Int))∧w.cell? ⟨b,2,none⟩=some (.int .u64 f)∧w.cell? ⟨b,3,none⟩=some (.int .i64 s)∧w.cell? ⟨b,4,none⟩=some (.int .i64 c)∧∀i,w.frozen? ⟨b,i,none⟩=false:=by
 obtain⟨_,_,_,c1,c2,c3,c4,cf,_⟩:=h.rows
 exact⟨c1,c2,c3,c4,cf⟩
theorem lphold (h:LpQ w b X l s c f a) {r m cap j:Nat} {x:Pty} (hv:w.cell? ⟨b,0,none⟩=some (.slice (some ⟨r,0,none⟩) m cap)) (hx:l[j]?=some x) (hw:Word x.2.1) (hl:0≤x.2.2.1) (hl2:x.2.2.1≤10000):
  Calls Tryd.prog 30 #[.pointer (some ⟨r,j*3,none⟩)] w fun e w'=>e= .returned (.tuple #[])∧LpQ w' b X (l.modify j chargeP) s c f a∧Turned X w w':=by
 obtain⟨r0,r1,r2,fz,_,_,_⟩:=h.at_ hv hx
 have P1:=h.put hv (p:=j) hx (i:=1) (by omega) (u:= .int .u64 (satV (x.2.1+lockR x.1))) (y:=(x.1,satV (x.2.1+lockR x.1),x.2.2.1,x.2.2.2)) rfl
 have hx2:(l.set j (x.1,satV (x.2.1+lockR x.1),x.2.2.1,x.2.2.2))[j]?=some (x.1,satV (x.2.1+lockR x.1),x.2.2.1,x.2.2.2):=by
  rw [List.getElem?_set,if_pos rfl,if_pos (List.getElem?_eq_some_iff.1 hx).1]
 have P2:=P1.1.put P1.2.2 (p:=j) hx2 (i:=2) (by omega) (u:= .int .i64 (x.2.2.1+1)) (y:=chargeP x) rfl
 rw [List.set_set, ←modify_two hx] at P2
 have HP:=xhd (And.intro P2.1 (P1.2.1.trans P2.2.1 (Newer.refl _ _)))
 have HL:=xhd (fun V=>ulock_any x.1 V)
 have hlk:=lock_range x.1
 have HA:=xhd (fun V=>add_any x.2.1 (lockR x.1) hw (by unfold Word;omega) V)
 have hi:=hl
 have hw1:IntKind.i64.wrap (x.2.2.1+1)=x.2.2.1+1:=by rw [IntKind.wrap_i64];omega
 have A2:=P1.1.at_ P1.2.2 hx2
 have k2:=A2.2.2.1
 have kf:=A2.2.2.2.1
 obtain⟨W1,hW1⟩:∃W1,w.setCell ⟨r,j*3+1,none⟩ (.int .u64 (satV (x.2.1+lockR x.1)))=W1:=⟨_,rfl⟩
 rw [hW1] at HP k2 kf
 have HW1:=xhd hW1
 obtain⟨sv,hsv⟩:∃q,satV (x.2.1+lockR x.1)=q:=⟨_,rfl⟩
 obtain⟨se,hse⟩:∃q,satE (x.2.1+lockR x.1)=q:=⟨_,rfl⟩
 rw [hsv,hse] at HA
 rw [hsv] at HW1
 obtain⟨x0,h0⟩:∃q,x.1=q:=⟨_,rfl⟩
 obtain⟨x1,h1⟩:∃q,x.2.1=q:=⟨_,rfl⟩
 obtain⟨x2,h2⟩:∃q,x.2.2.1=q:=⟨_,rfl⟩
 rw [h0] at r0 HL HA
 rw [h1] at r1 HA
 rw [h2] at r2 k2 hw1 HP
 obtain⟨lk,hlk2⟩:∃q,lockR x0=q:=⟨_,rfl⟩
 rw [hlk2] at HL HA
 clear A2 P1 P2 hx2 hW1 hlk hi hl hl2 hsv hse h0 h1 h2 hlk2 h hw
 go_enter Tryd.func30,Tryd.ntmps30
 go_wp2_with fail
 have hmix:Tryd.prog.follows .mixedOrders=true:=by kernel_rfl
 refine wp_region_noPanic ?_
 refine wp_region_lastF (fun V=>V.cell? ⟨r,j*3,none⟩=some (.int .i64 x0)∧V.cell? ⟨r,j*3+1,none⟩=some (.int .u64 x1)∧V.frozen? ⟨r,j*3+1,none⟩=false) 16 hmix ⟨r0,r1,fz _⟩ (fun hS0=>?_)
 refine wpAnyF_free (i:=0) (v:=?_) rfl (by kernel_rfl) (by decide) (fun _ _ _ h=>h) (by kernel_rfl) (by kernel_rfl) (Or.inl ⟨by rfl,?hy⟩) (by assumption) ?_
 case hy=>
  intro w _
  go_simp
  try with_reducible rfl
 try simp only [xga];try simp only [xgs];try simp only [xgz];try simp only [Act.put];try simp only [xsa];try simp only [xss];try simp only [xsz]
 refine wpAnyF_free (i:=1) (v:=?_) rfl (by kernel_rfl) (by decide) (fun _ _ _ h=>h) (by kernel_rfl) (by kernel_rfl) (Or.inl ⟨by rfl,?hy⟩) (by assumption) ?_
 case hy=>
  intro w _
  go_simp
  try with_reducible rfl
 try simp only [xga];try simp only [xgs];try simp only [xgz];try simp only [Act.put];try simp only [xsa];try simp only [xss];try simp only [xsz]
 refine wpAnyF_free (i:=2) (v:=?_) rfl (by kernel_rfl) (by decide) (fun _ _ _ h=>h) (by kernel_rfl) (by kernel_rfl) (Or.inl ⟨by rfl,?hy⟩) (by assumption) ?_
 case hy=>
  intro w _
  go_simp
  try with_reducible rfl
 try simp only [xga];try simp only [xgs];try simp only [xgz];try simp only [Act.put];try simp only [xsa];try simp only [xss];try simp only [xsz]
 refine wpAnyF_free (i:=3) (v:=?_) rfl (by kernel_rfl) (by decide) (fun _ _ _ h=>h) (by kernel_rfl) (by kernel_rfl) (Or.inl ⟨by rfl,?hy⟩) (by assumption) ?_
 case hy=>
  intro w _
  go_simp
  try with_reducible rfl
 try simp only [xga];try simp only [xgs];try simp only [xgz];try simp only [Act.put];try simp only [xsa];try simp only [xss];try simp only [xsz]
 refine wpAnyF_free (i:=5) (v:=?_) rfl (by kernel_rfl) (by decide) (fun _ _ _ h=>h) (by kernel_rfl) (by kernel_rfl) (Or.inl ⟨by rfl,?hy⟩) (by assumption) ?_
 case hy=>
  intro w _
  go_simp
  try with_reducible rfl
 try simp only [xga];try simp only [xgs];try simp only [xgz];try simp only [Act.put];try simp only [xsa];try simp only [xss];try simp only [xsz]
 refine wpAnyF_free (i:=6) (v:=?_) rfl (by kernel_rfl) (by decide) (fun _ _ _ h=>h) (by kernel_rfl) (by kernel_rfl) (Or.inl ⟨by rfl,?hy⟩) (by assumption) ?_
 case hy=>
  intro w _
  go_simp
  try with_reducible rfl
 try simp only [xga];try simp only [xgs];try simp only [xgz];try simp only [Act.put];try simp only [xsa];try simp only [xss];try simp only [xsz]
 refine wpAnyF_free (i:=7) (v:=?_) rfl (by kernel_rfl) (by decide) (fun _ _ _ h=>h) (by kernel_rfl) (by kernel_rfl) (Or.inl ⟨by rfl,?hy⟩) (by assumption) ?_
 case hy=>
  intro w _
  go_simp
  try with_reducible rfl
 try simp only [xga];try simp only [xgs];try simp only [xgz];try simp only [Act.put];try simp only [xsa];try simp only [xss];try simp only [xsz]
 refine wpAnyF_take (i:=4) (v:=?_) rfl (by kernel_rfl) (by kernel_rfl) (fun _ _ _ h=>h) (by kernel_rfl) (by kernel_rfl) (by kernel_rfl) (Or.inl ⟨by rfl,?hy⟩) (by assumption) ?_
 case hy=>
  intro w hSw
  (try dsimp only at hSw)
  obtain⟨s0,s1,s2⟩:=hSw
  go_simp
  try with_reducible rfl
 try simp only [xga];try simp only [xgs];try simp only [xgz];try simp only [Act.put];try simp only [xsa];try simp only [xss];try simp only [xsz]
 refine wpAnyF_take (i:=8) (v:=?_) rfl (by kernel_rfl) (by kernel_rfl) (fun _ _ _ h=>h) (by kernel_rfl) (by kernel_rfl) (by kernel_rfl) (Or.inl ⟨by rfl,?hy⟩) (by assumption) ?_
 case hy=>
  intro w hSw
  (try dsimp only at hSw)
  obtain⟨s0,s1,s2⟩:=hSw
  go_simp
  try with_reducible rfl
 try simp only [xga];try simp only [xgs];try simp only [xgz];try simp only [Act.put];try simp only [xsa];try simp only [xss];try simp only [xsz]
 refine wpAnyF_ready (rs:=[9]) (by kernel_rfl) (by simp) ?_
 refine ReadyF.cons rfl (fun K' hK=>?_) ReadyF.nil
 go_simp
 with_reducible refine (HL.out _).mono ?_
 rintro e V ⟨rfl,rfl⟩
 go_wp2_with fail
 refine hK.out _ _ (.inr ?_) ?_
 ·exact hS0
 clear hK K'
 try simp only [xga];try simp only [xgs];try simp only [xgz];try simp only [Act.put];try simp only [xsa];try simp only [xss];try simp only [xsz]
 refine wpAnyF_ready (rs:=[10]) (by kernel_rfl) (by simp) ?_
 refine ReadyF.cons rfl (fun K' hK=>?_) ReadyF.nil
 go_simp
 with_reducible refine (HA.out _).mono ?_
 rintro e V ⟨rfl,hw⟩
 obtain rfl:=hw.symm
 go_wp2_with fail
 refine hK.out _ _ (.inr ?_) ?_
 ·exact hS0
 clear hK K'
 try simp only [xga];try simp only [xgs];try simp only [xgz];try simp only [Act.put];try simp only [xsa];try simp only [xss];try simp only [xsz]
 refine wpAnyF_free (i:=11) (v:=?_) rfl (by kernel_rfl) (by decide) (fun _ _ _ h=>h) (by kernel_rfl) (by kernel_rfl) (Or.inl ⟨by rfl,?hy⟩) (by assumption) ?_
 case hy=>
  intro w _
  go_simp
  try with_reducible rfl
 try simp only [xga];try simp only [xgs];try simp only [xgz];try simp only [Act.put];try simp only [xsa];try simp only [xss];try simp only [xsz]
 refine wpAnyF_free (i:=12) (v:=?_) rfl (by kernel_rfl) (by decide) (fun _ _ _ h=>h) (by kernel_rfl) (by kernel_rfl) (Or.inl ⟨by rfl,?hy⟩) (by assumption) ?_
 case hy=>
  intro w _
  go_simp
  try with_reducible rfl
 try simp only [xga];try simp only [xgs];try simp only [xgz];try simp only [Act.put];try simp only [xsa];try simp only [xss];try simp only [xsz]
 refine wpAnyF_free (i:=13) (v:=?_) rfl (by kernel_rfl) (by decide) (fun _ _ _ h=>h) (by kernel_rfl) (by kernel_rfl) (Or.inl ⟨by rfl,?hy⟩) (by assumption) ?_
 case hy=>
  intro w _
  go_simp
  try with_reducible rfl
 try simp only [xga];try simp only [xgs];try simp only [xgz];try simp only [Act.put];try simp only [xsa];try simp only [xss];try simp only [xsz]
 refine wpAnyF_free (i:=14) (v:=?_) rfl (by kernel_rfl) (by decide) (fun _ _ _ h=>h) (by kernel_rfl) (by kernel_rfl) (Or.inl ⟨by rfl,?hy⟩) (by assumption) ?_
 case hy=>
  intro w _
  go_simp
  try with_reducible rfl
 try simp only [xga];try simp only [xgs];try simp only [xgz];try simp only [Act.put];try simp only [xsa];try simp only [xss];try simp only [xsz]
 refine wpAnyF_free (i:=15) (v:=?_) rfl (by kernel_rfl) (by decide) (fun _ _ _ h=>h) (by kernel_rfl) (by kernel_rfl) (Or.inl ⟨by rfl,?hy⟩) (by assumption) ?_
 case hy=>
  intro w _
  go_simp
  try with_reducible rfl
 try simp only [xga];try simp only [xgs];try simp only [xgz];try simp only [Act.put];try simp only [xsa];try simp only [xss];try simp only [xsz]
 refine wpAnyF_ready (rs:=[16]) (by kernel_rfl) (by simp) ?_
 refine ReadyF.cons rfl (fun K' hK=>?_) ReadyF.nil
 go_simp
 refine hK.out _ _ (.inl (by kernel_rfl)) ?_
 clear hK K'
 try simp only [xga];try simp only [xgs];try simp only [xgz];try simp only [Act.put];try simp only [xsa];try simp only [xss];try simp only [xsz]
 refine wpAnyF_done (by kernel_rfl) ?_ _
 refine NoPanic.normal ?_
 try simp only [xga];try simp only [xgs];try simp only [xgz];try simp only [Act.put];try simp only [xsa];try simp only [xss];try simp only [xsz]
 rw [HW1.out]
 have k2':W1.drew.cell? ⟨r,j*3+2,none⟩=some (.int .i64 x2):=k2
 have kf':W1.drew.frozen? ⟨r,j*3+2,none⟩=false:=kf _
 clear k2 kf r0 r1 r2 fz hv
 go_wp2
 refine bodyPost_end (results_none rfl _ _ _) rfl ?_
 exact⟨rfl,HP.out.1,HP.out.2.drew⟩
theorem act_modify (l:List Pty) (j:Nat) (F:Pty→Pty) (hF:∀x,(F x).2.2.2=x.2.2.2):∀k,actTo (l.modify j F) k=actTo l k
 |0=>rfl
 |k+1=>by
  unfold actTo
  rw [act_modify l j F hF k,List.getElem?_modify]
  cases hx:l[k]? with
  |none=>simp
  |some x=>
   by_cases e:j=k
   ·simp [e,hF]
   ·simp [e]
theorem charge_active (g:Lg) (p:Int):(g.charge p).active=g.active:=by
 unfold Lg.charge
 split
 ·unfold Lg.active
  rw [List.length_modify]
  exact act_modify g.l p.toNat chargeP (fun _=>rfl) _
 ·rfl
theorem weigh_active (g:Lg) (p wt:Int):(g.weigh p wt).active=g.active:=by
 unfold Lg.weigh
 split
 ·unfold Lg.active
  rw [List.length_modify]
  refine act_modify g.l p.toNat (weighP g wt) (fun x=>?_) _
  unfold weighP
  split<;>rfl
 ·rfl
theorem lpcharge (h:LpAt w b X g) (ho:LgOk g n) (hn:n≤10000) (p:Int):
  Calls Tryd.prog 9 #[.pointer (some ⟨b,0,none⟩), .int .i64 p] w fun e w'=>e= .returned (.bool (isP g p))∧LpAt w' b X (g.charge p)∧Turned X w w':=by
 have HIS:=xhd (lpis h p)
 have ha:=charge_active g p
 unfold LpAt
 rw [ha]
 have hii:isL g.l.length p=isP g p:=rfl
 rw [hii] at HIS
 unfold Lg.charge
 cases hp:isP g p with
 |true=>
  rw [if_pos rfl]
  rw [hp] at HIS
  obtain⟨j,rfl,hj⟩:=isP_nat hp
  rw [Int.toNat_natCast]
  have hx:g.l[j]?=some g.l[j]:=List.getElem?_eq_getElem hj
  obtain⟨r,cap,q0⟩:=h.row hx
  have hh:=ho.held _ (List.getElem_mem hj)
  have HH:=xhd (lphold h q0 hx (ho.v _ (List.getElem_mem hj)) hh.1 (by omega))
  have i0:(0:Int)≤j:=by omega
  have i1:(j:Int) < g.l.length:=by omega
  obtain⟨m,hm⟩:∃m,g.l.length=m:=⟨_,rfl⟩
  rw [hm] at i1 q0
  clear hx ha hp hh hj hm hii h
  go_enter Tryd.func9,Tryd.ntmps9
  go_wp2_with fail
  with_reducible refine HIS.out.mono ?_
  rintro e w1 ⟨rfl,hw⟩
  obtain rfl:=hw.symm
  go_wp2_with fail
  with_reducible refine HH.out.mono ?_
  rintro e w2 ⟨rfl,h2⟩
  have H2:=xhd h2
  clear h2
  go_wp2
  go_ret
  exact⟨rfl,H2.out⟩
 |false=>
  rw [if_neg (by simp)]
  rw [hp] at HIS
  have HA:=xhd h
  clear h ha hp hii
  go_enter Tryd.func9,Tryd.ntmps9
  go_wp2_with fail
  with_reducible refine HIS.out.mono ?_
  rintro e w1 ⟨rfl,hw⟩
  obtain rfl:=hw.symm
  go_wp2
  go_ret
  exact⟨rfl,HA.out,Turned.refl _ _⟩
theorem lpcharge_nil (p:Int) (w:World):Calls Tryd.prog 9 #[.pointer none, .int .i64 p] w fun e w'=>e= .returned (.bool false)∧Turned [] w w':=by
 have HIS:=xhd (lpis_nil p w)
 rw [show isL 0 p=false by unfold isL;simp] at HIS
 go_enter Tryd.func9,Tryd.ntmps9
 go_wp2_with fail
 with_reducible refine HIS.out.mono ?_
 rintro e w1 ⟨rfl,hw⟩
 obtain rfl:=hw.symm
 go_wp2
 go_ret
 exact⟨rfl,Turned.refl _ _⟩
theorem lpweigh_nil (p wt:Int) (w:World):Calls Tryd.prog 13 #[.pointer none, .int .i64 p, .int .i64 wt] w fun e w'=>e= .returned (.bool false)∧Turned [] w w':=by
 have HIS:=xhd (lpis_nil p w)
 rw [show isL 0 p=false by unfold isL;simp] at HIS
 go_enter Tryd.func13,Tryd.ntmps13
 go_wp2_with fail
 with_reducible refine HIS.out.mono ?_
 rintro e w1 ⟨rfl,hw⟩
 obtain rfl:=hw.symm
 go_wp2
 go_ret
 exact⟨rfl,Turned.refl _ _⟩
theorem lpweigh (h:LpAt w b X g) (ho:LgOk g n) (p wt:Int):
  Calls Tryd.prog 13 #[.pointer (some ⟨b,0,none⟩), .int .i64 p, .int .i64 wt] w fun e w'=>e= .returned (.bool (isP g p))∧LpAt w' b X (g.weigh p wt)∧Turned X w w':=by
 have HIS:=xhd (lpis h p)
 have HW:=xhd (fun V=>lpwithin wt 16 (by decide) V)
 have ha:=weigh_active g p wt
 unfold LpAt
 rw [ha]
 have hii:isL g.l.length p=isP g p:=rfl
 rw [hii] at HIS
 unfold Lg.weigh
 cases hp:isP g p with
 |true=>
  rw [if_pos rfl]
  rw [hp] at HIS
  obtain⟨j,rfl,hj⟩:=isP_nat hp
  rw [Int.toNat_natCast]
  have hx:g.l[j]?=some g.l[j]:=List.getElem?_eq_getElem hj
  obtain⟨r,cap,q0⟩:=h.row hx
  obtain⟨r0,r1,r2,fz,hbr,hrX,hmm⟩:=h.at_ q0 hx
  clear hmm
  have hbk:=bring_range (n:=wt) (lo:=1) (hi:=16) (by decide)
  have hwp:weighP g wt g.l[j]=if bringR wt 1 16=g.l[j].1 then g.l[j] else (bringR wt 1 16,clampR g.l[j].2.1 g.f (lockR (bringR wt 1 16)*g.s),g.l[j].2.2.1,g.l[j].2.2.2):=rfl
  rw [modify_two hx,hwp]
  obtain⟨k,hk⟩:∃k,bringR wt 1 16=k:=⟨_,rfl⟩
  rw [hk] at HW hbk ⊢
  have i0:(0:Int)≤j:=by omega
  have i1:(j:Int) < g.l.length:=by omega
  by_cases he:k=g.l[j].1
  ·rw [if_pos he]
   have hid:g.l.set j g.l[j]=g.l:=by simp
   rw [hid]
   have HA:=xhd h
   rw [←he] at r0
   obtain⟨m,hm⟩:∃m,g.l.length=m:=⟨_,rfl⟩
   rw [hm] at i1 q0
   clear hx ha hp hj hm hii h r1 r2 hid he hbk hwp hk
   go_enter Tryd.func13,Tryd.ntmps13
   go_wp2_with fail
   with_reducible refine HIS.out.mono ?_
   rintro e w1 ⟨rfl,hw⟩
   obtain rfl:=hw.symm
   go_wp2_with fail
   with_reducible refine (HW.out _).mono ?_
   rintro e w1 ⟨rfl,hw⟩
   obtain rfl:=hw.symm
   go_wp2
   go_ret
   exact⟨rfl,HA.out,Turned.refl _ _⟩
  ·rw [if_neg he]
   have hlk:=lock_range k
   have HL:=xhd (fun V=>ulock_any k V)
   have hs:=ho.s
   have hpr:0≤lockR k*g.s∧lockR k*g.s≤23063040:=by
    refine⟨Int.mul_nonneg hlk.1 (by omega),?_⟩
    have h1:lockR k*g.s≤720720*32:=Int.mul_le_mul (by omega) hs.2 (by omega) (by decide)
    omega
   have HC:=xhd (fun V=>uclamp_any g.l[j].2.1 g.f (lockR k*g.s) ho.f (by unfold Word;omega) V)
   have P1:=h.put q0 (p:=j) hx (i:=0) (by omega) (u:= .int .i64 k) (y:=(k,g.l[j].2.1,g.l[j].2.2.1,g.l[j].2.2.2)) rfl
   have hx2:(g.l.set j (k,g.l[j].2.1,g.l[j].2.2.1,g.l[j].2.2.2))[j]?=some (k,g.l[j].2.1,g.l[j].2.2.1,g.l[j].2.2.2):=by
    rw [List.getElem?_set,if_pos rfl,if_pos hj]
   have P2:=P1.1.put P1.2.2 (p:=j) hx2 (i:=1) (by omega) (u:= .int .u64 (clampR g.l[j].2.1 g.f (lockR k*g.s))) (y:=(k,clampR g.l[j].2.1 g.f (lockR k*g.s),g.l[j].2.2.1,g.l[j].2.2.2)) rfl
   rw [List.set_set] at P2
   have HP:=xhd (And.intro P2.1 (P1.2.1.trans P2.2.1 (Newer.refl _ _)))
   have A2:=P1.1.at_ P1.2.2 hx2
   have k1:=A2.2.1
   have kf:=A2.2.2.2.1 (j*3+1)
   have B2:=P1.1.rows
   have kb:(w.setCell ⟨r,j*3,none⟩ (.int .i64 k)).cell? ⟨b,2,none⟩=some (.int .u64 g.f)∧(w.setCell ⟨r,j*3,none⟩ (.int .i64 k)).cell? ⟨b,3,none⟩=some (.int .i64 g.s):=by
    obtain⟨_,_,_,_,d1,d2,_⟩:=B2
    exact⟨d1,d2⟩
   obtain⟨kb2,kb3⟩:=kb
   obtain⟨W1,hW1⟩:∃W1,w.setCell ⟨r,j*3,none⟩ (.int .i64 k)=W1:=⟨_,rfl⟩
   have hW1':w.setCell ⟨r,j*3+0,none⟩ (.int .i64 k)=W1:=hW1
   rw [hW1'] at HP k1 kf
   rw [hW1] at kb2 kb3
   have hwm:IntKind.u64.wrap (lockR k*g.s)=lockR k*g.s:=by rw [IntKind.wrap_u64];omega
   have hws:IntKind.u64.wrap g.s=g.s:=by rw [IntKind.wrap_u64];omega
   have hne:¬g.l[j].1=k:=fun e=>he e.symm
   obtain⟨pr,hprr⟩:∃q,lockR k*g.s=q:=⟨_,rfl⟩
   rw [hprr] at HC hwm HP
   obtain⟨lk,hlkk⟩:∃q,lockR k=q:=⟨_,rfl⟩
   rw [hlkk] at HL hprr
   obtain⟨x0,h0⟩:∃q,g.l[j].1=q:=⟨_,rfl⟩
   obtain⟨x1,h1⟩:∃q,g.l[j].2.1=q:=⟨_,rfl⟩
   rw [h0] at r0 hne
   rw [h1] at HC
   replace k1:W1.cell? ⟨r,j*3+1,none⟩=some (.int .u64 x1):=h1 ▸ k1
   obtain⟨cl,hcl⟩:∃q,clampR x1 g.f pr=q:=⟨_,rfl⟩
   rw [hcl] at HC
   obtain⟨ff,hff⟩:∃q,g.f=q:=⟨_,rfl⟩
   obtain⟨ss,hss⟩:∃q,g.s=q:=⟨_,rfl⟩
   rw [hff] at HC kb2
   rw [hss] at kb3 hws hprr
   have HPR:=xhd hprr
   have HE:Hid (clampR g.l[j].2.1 g.f pr=cl):=xhd (by rw [h1];exact hcl)
   rw [HE.out] at HP
   have HE2:Hid (clampR g.l[j].2.1 g.f (lockR k*g.s)=cl):=xhd (by rw [hlkk,hss,hprr];exact HE.out)
   have hneb:(x0 == k)=false:=beq_eq_false_iff_ne.2 hne
   have hwm':IntKind.u64.wrap (lk*ss)=pr:=by rw [hprr];exact hwm
   have fz0:=fz (j*3)
   obtain⟨m,hm⟩:∃m,g.l.length=m:=⟨_,rfl⟩
   rw [hm] at i1 q0
   rw [HE2.out]
   clear hx ha hp hm hii h r1 r2 he hbk hwp hk A2 B2 P1 P2 hx2 hlk hs hpr hprr hlkk h0 h1 hcl hff hss hW1' hwm fz
   go_enter Tryd.func13,Tryd.ntmps13
   go_wp2_with fail
   with_reducible refine HIS.out.mono ?_
   rintro e w1 ⟨rfl,hw⟩
   obtain rfl:=hw.symm
   go_wp2_with fail
   with_reducible refine (HW.out _).mono ?_
   rintro e w1 ⟨rfl,hw⟩
   obtain rfl:=hw.symm
   go_wp2_with fail
   have hmix:Tryd.prog.follows .mixedOrders=true:=by kernel_rfl
   refine wp_region_noPanic ?_
   refine wp_region_lastF (fun V=>V.cell? ⟨r,j*3+1,none⟩=some (.int .u64 x1)∧V.cell? ⟨b,2,none⟩=some (.int .u64 ff)∧V.cell? ⟨b,3,none⟩=some (.int .i64 ss)∧V.frozen? ⟨r,j*3+1,none⟩=false) 20 hmix ⟨k1,kb2,kb3,kf⟩ (fun hS0=>?_)
   refine wpAnyF_free (i:=0) (v:=?_) rfl (by kernel_rfl) (by decide) (fun _ _ _ h=>h) (by kernel_rfl) (by kernel_rfl) (Or.inl ⟨by rfl,?hy⟩) (by assumption) ?_
   case hy=>
    intro w _
    go_simp
    try with_reducible rfl
   try simp only [xga];try simp only [xgs];try simp only [xgz];try simp only [Act.put];try simp only [xsa];try simp only [xss];try simp only [xsz]
   refine wpAnyF_free (i:=1) (v:=?_) rfl (by kernel_rfl) (by decide) (fun _ _ _ h=>h) (by kernel_rfl) (by kernel_rfl) (Or.inl ⟨by rfl,?hy⟩) (by assumption) ?_
   case hy=>
    intro w _
    go_simp
    try with_reducible rfl
   try simp only [xga];try simp only [xgs];try simp only [xgz];try simp only [Act.put];try simp only [xsa];try simp only [xss];try simp only [xsz]
   refine wpAnyF_free (i:=2) (v:=?_) rfl (by kernel_rfl) (by decide) (fun _ _ _ h=>h) (by kernel_rfl) (by kernel_rfl) (Or.inl ⟨by rfl,?hy⟩) (by assumption) ?_
   case hy=>
    intro w _
    go_simp
    try with_reducible rfl
   try simp only [xga];try simp only [xgs];try simp only [xgz];try simp only [Act.put];try simp only [xsa];try simp only [xss];try simp only [xsz]
   refine wpAnyF_free (i:=3) (v:=?_) rfl (by kernel_rfl) (by decide) (fun _ _ _ h=>h) (by kernel_rfl) (by kernel_rfl) (Or.inl ⟨by rfl,?hy⟩) (by assumption) ?_
   case hy=>
    intro w _
    go_simp
    try with_reducible rfl
   try simp only [xga];try simp only [xgs];try simp only [xgz];try simp only [Act.put];try simp only [xsa];try simp only [xss];try simp only [xsz]
   refine wpAnyF_take (i:=4) (v:=?_) rfl (by kernel_rfl) (by kernel_rfl) (fun _ _ _ h=>h) (by kernel_rfl) (by kernel_rfl) (by kernel_rfl) (Or.inl ⟨by rfl,?hy⟩) (by assumption) ?_
   case hy=>
    intro w hSw
    (try dsimp only at hSw)
    obtain⟨s0,s1,s2,s3⟩:=hSw
    go_simp
    try with_reducible rfl
   try simp only [xga];try simp only [xgs];try simp only [xgz];try simp only [Act.put];try simp only [xsa];try simp only [xss];try simp only [xsz]
   refine wpAnyF_free (i:=5) (v:=?_) rfl (by kernel_rfl) (by decide) (fun _ _ _ h=>h) (by kernel_rfl) (by kernel_rfl) (Or.inl ⟨by rfl,?hy⟩) (by assumption) ?_
   case hy=>
    intro w _
    go_simp
    try with_reducible rfl
   try simp only [xga];try simp only [xgs];try simp only [xgz];try simp only [Act.put];try simp only [xsa];try simp only [xss];try simp only [xsz]
   refine wpAnyF_free (i:=6) (v:=?_) rfl (by kernel_rfl) (by decide) (fun _ _ _ h=>h) (by kernel_rfl) (by kernel_rfl) (Or.inl ⟨by rfl,?hy⟩) (by assumption) ?_
   case hy=>
    intro w _
    go_simp
    try with_reducible rfl
   try simp only [xga];try simp only [xgs];try simp only [xgz];try simp only [Act.put];try simp only [xsa];try simp only [xss];try simp only [xsz]
   refine wpAnyF_free (i:=7) (v:=?_) rfl (by kernel_rfl) (by decide) (fun _ _ _ h=>h) (by kernel_rfl) (by kernel_rfl) (Or.inl ⟨by rfl,?hy⟩) (by assumption) ?_
   case hy=>
    intro w _
    go_simp
    try with_reducible rfl
   try simp only [xga];try simp only [xgs];try simp only [xgz];try simp only [Act.put];try simp only [xsa];try simp only [xss];try simp only [xsz]
   refine wpAnyF_take (i:=8) (v:=?_) rfl (by kernel_rfl) (by kernel_rfl) (fun _ _ _ h=>h) (by kernel_rfl) (by kernel_rfl) (by kernel_rfl) (Or.inl ⟨by rfl,?hy⟩) (by assumption) ?_
   case hy=>
    intro w hSw
    (try dsimp only at hSw)
    obtain⟨s0,s1,s2,s3⟩:=hSw
    go_simp
    try with_reducible rfl
   try simp only [xga];try simp only [xgs];try simp only [xgz];try simp only [Act.put];try simp only [xsa];try simp only [xss];try simp only [xsz]
   refine wpAnyF_free (i:=9) (v:=?_) rfl (by kernel_rfl) (by decide) (fun _ _ _ h=>h) (by kernel_rfl) (by kernel_rfl) (Or.inl ⟨by rfl,?hy⟩) (by assumption) ?_
   case hy=>
    intro w _
    go_simp
    try with_reducible rfl
   try simp only [xga];try simp only [xgs];try simp only [xgz];try simp only [Act.put];try simp only [xsa];try simp only [xss];try simp only [xsz]
   refine wpAnyF_free (i:=11) (v:=?_) rfl (by kernel_rfl) (by decide) (fun _ _ _ h=>h) (by kernel_rfl) (by kernel_rfl) (Or.inl ⟨by rfl,?hy⟩) (by assumption) ?_
   case hy=>
    intro w _
    go_simp
    try with_reducible rfl
   try simp only [xga];try simp only [xgs];try simp only [xgz];try simp only [Act.put];try simp only [xsa];try simp only [xss];try simp only [xsz]
   refine wpAnyF_free (i:=12) (v:=?_) rfl (by kernel_rfl) (by decide) (fun _ _ _ h=>h) (by kernel_rfl) (by kernel_rfl) (Or.inl ⟨by rfl,?hy⟩) (by assumption) ?_
   case hy=>
    intro w _
    go_simp
    try with_reducible rfl
   try simp only [xga];try simp only [xgs];try simp only [xgz];try simp only [Act.put];try simp only [xsa];try simp only [xss];try simp only [xsz]
   refine wpAnyF_free (i:=13) (v:=?_) rfl (by kernel_rfl) (by decide) (fun _ _ _ h=>h) (by kernel_rfl) (by kernel_rfl) (Or.inl ⟨by rfl,?hy⟩) (by assumption) ?_
   case hy=>
    intro w _
    go_simp
    try with_reducible rfl
   try simp only [xga];try simp only [xgs];try simp only [xgz];try simp only [Act.put];try simp only [xsa];try simp only [xss];try simp only [xsz]
   refine wpAnyF_take (i:=14) (v:=?_) rfl (by kernel_rfl) (by kernel_rfl) (fun _ _ _ h=>h) (by kernel_rfl) (by kernel_rfl) (by kernel_rfl) (Or.inl ⟨by rfl,?hy⟩) (by assumption) ?_
   case hy=>
    intro w hSw
    (try dsimp only at hSw)
    obtain⟨s0,s1,s2,s3⟩:=hSw
    go_simp
    try with_reducible rfl
   try simp only [xga];try simp only [xgs];try simp only [xgz];try simp only [Act.put];try simp only [xsa];try simp only [xss];try simp only [xsz]
   refine wpAnyF_free (i:=15) (v:=?_) rfl (by kernel_rfl) (by decide) (fun _ _ _ h=>h) (by kernel_rfl) (by kernel_rfl) (Or.inl ⟨by rfl,?hy⟩) (by assumption) ?_
   case hy=>
    intro w _
    go_simp
    try with_reducible rfl
   try simp only [xga];try simp only [xgs];try simp only [xgz];try simp only [Act.put];try simp only [xsa];try simp only [xss];try simp only [xsz]
   refine wpAnyF_ready (rs:=[10]) (by kernel_rfl) (by simp) ?_
   refine ReadyF.cons rfl (fun K' hK=>?_) ReadyF.nil
   go_simp
   with_reducible refine (HL.out _).mono ?_
   rintro e V ⟨rfl,rfl⟩
   go_wp2_with fail
   refine hK.out _ _ (.inr ?_) ?_
   ·exact hS0
   clear hK K'
   try simp only [xga];try simp only [xgs];try simp only [xgz];try simp only [Act.put];try simp only [xsa];try simp only [xss];try simp only [xsz]
   refine wpAnyF_free (i:=16) (v:=?_) rfl (by kernel_rfl) (by decide) (fun _ _ _ h=>h) (by kernel_rfl) (by kernel_rfl) (Or.inl ⟨by rfl,?hy⟩) (by assumption) ?_
   case hy=>
    intro w _
    go_simp
    try with_reducible rfl
   try simp only [xga];try simp only [xgs];try simp only [xgz];try simp only [Act.put];try simp only [xsa];try simp only [xss];try simp only [xsz]
   refine wpAnyF_ready (rs:=[17]) (by kernel_rfl) (by simp) ?_
   refine ReadyF.cons rfl (fun K' hK=>?_) ReadyF.nil
   go_simp
   with_reducible refine (HC.out _).mono ?_
   rintro e V ⟨rfl,rfl⟩
   go_wp2_with fail
   refine hK.out _ _ (.inr ?_) ?_
   ·exact hS0
   clear hK K'
   try simp only [xga];try simp only [xgs];try simp only [xgz];try simp only [Act.put];try simp only [xsa];try simp only [xss];try simp only [xsz]
   refine wpAnyF_free (i:=18) (v:=?_) rfl (by kernel_rfl) (by decide) (fun _ _ _ h=>h) (by kernel_rfl) (by kernel_rfl) (Or.inl ⟨by rfl,?hy⟩) (by assumption) ?_
   case hy=>
    intro w _
    go_simp
    try with_reducible rfl
   try simp only [xga];try simp only [xgs];try simp only [xgz];try simp only [Act.put];try simp only [xsa];try simp only [xss];try simp only [xsz]
   refine wpAnyF_free (i:=19) (v:=?_) rfl (by kernel_rfl) (by decide) (fun _ _ _ h=>h) (by kernel_rfl) (by kernel_rfl) (Or.inl ⟨by rfl,?hy⟩) (by assumption) ?_
   case hy=>
    intro w _
    go_simp
    try with_reducible rfl
   try simp only [xga];try simp only [xgs];try simp only [xgz];try simp only [Act.put];try simp only [xsa];try simp only [xss];try simp only [xsz]
   refine wpAnyF_ready (rs:=[20]) (by kernel_rfl) (by simp) ?_
   refine ReadyF.cons rfl (fun K' hK=>?_) ReadyF.nil
   go_simp
   refine hK.out _ _ (.inl (by kernel_rfl)) ?_
   clear hK K'
   try simp only [xga];try simp only [xgs];try simp only [xgz];try simp only [Act.put];try simp only [xsa];try simp only [xss];try simp only [xsz]
   refine wpAnyF_done (by kernel_rfl) ?_ _
   refine NoPanic.normal ?_
   try simp only [xga];try simp only [xgs];try simp only [xgz];try simp only [Act.put];try simp only [xsa];try simp only [xss];try simp only [xsz]
   go_wp2
   go_ret
   exact⟨rfl,HP.out.1,HP.out.2.drew⟩
 |false=>
  rw [if_neg (by simp)]
  rw [hp] at HIS
  have HA:=xhd h
  clear h ha hp hii
  go_enter Tryd.func13,Tryd.ntmps13
  go_wp2_with fail
  with_reducible refine HIS.out.mono ?_
  rintro e w1 ⟨rfl,hw⟩
  obtain rfl:=hw.symm
  go_wp2
  go_ret
  exact⟨rfl,HA.out,Turned.refl _ _⟩
end
end Go.Proofs.YtcgjbllmoglhfaaDoor
namespace Go.Proofs.YtcgjbllmoglhfaaDoor
open Go.RowKit Go.Maps Go.Shelf
attribute [local go_sem] Oper.semAt_some
section
variable {w w':World} {b:Nat} {X Y:List Nat} {l l':List Pty} {s c f:Int} {a:Nat} {g:Lg} {n:Int} {pa:Option Addr}
theorem lpleast (h:LpV w pa l) (hT:TabOk w) (S:Nat) (hS:S < 18446744073709551616):
  Calls Tryd.prog 19 #[.pointer pa, .int .u64 (S:Int)] w fun e w'=>e= .returned (.int .i64 (bestTo l S l.length))∧Turned [] w w':=by
 refine callsIn_wide.1 (?_:CallsIn Fence.wide 20 _ _ _ _ _)
 refine callsIn_of_wp_marks Tryd.func19 rfl trivial ?_ rfl
 simp only [Tryd.ntmps19,List.size_toArray,List.length_cons,List.length_nil,Nat.reduceAdd,Nat.reduceSub,Array.replicate_succ,Array.replicate_zero,List.push_toArray,List.append_toArray,List.nil_append,List.cons_append]
 refine wpIn_wide.2 ?_
 have h0:=BoxL.start w [(.pointer pa,tPL),(.int .i64 (-1),3)]
 obtain⟨W0,hW0⟩:∃W0,(w.alloc (.cells #[.pointer pa] tPL)).alloc (.cells #[.int .i64 (-1)] 3)=W0:=⟨_,rfl⟩
 have h0:BoxL [] w W0 0 [(.pointer pa,tPL),(.int .i64 (-1),3)]:=hW0 ▸ h0
 have hT0:TabOk W0:=hT.turned h0.t (by simp)
 have HQ:=xhd (h.later h0.t)
 have HO:=xhd (lpours HQ.out hT0 S hS)
 have HB0:=xhd h0
 have HW0:=xhd hW0
 have HT:=xhd hT
 have HQ:=xhd h
 have hw0:w.heap.size+2≤W0.heap.size:=h0.size
 have hlt:=inTo_lt S l.length
 have HS0:=xhd (least_all l S (by have:=h.len;omega))
 have HMEM:=xhd (fun (pre:List Int)=>least_mem l pre (-1))
 clear h0 hW0 hT h hT0
 go_wp2_with fail
 have hW0:=HW0.out
 (try rw [hW0])
 clear hW0
 with_reducible refine HO.out.mono ?_
 rintro e W2 ⟨rfl,t2⟩
 have HB0:=xhd (HB0.out.later0 t2)
 have hw0:=Nat.le_trans hw0 t2.size
 have HLI:=xhd (fun (p:Int) (h:p ∈ listN (inTo S l.length))=>in_party h)
 obtain⟨T,hTT⟩:∃T,inTo S l.length=T:=⟨_,rfl⟩
 rw [hTT] at hlt HS0 HLI ⊢
 clear HO HW0 t2 hTT
 go_wp2_with fail
 with_reducible refine (all_any T _).mono ?_
 rintro e W1 ⟨rfl,hW1⟩
 have hA:W1.heap[W2.heap.size]?=some (.cells #[.int .u64 (T:Nat)] 30 (0,0)):=by rw [hW1];exact heap_alloc_new W2 _
 have t1:Turned [] W2 W1:=by rw [hW1];exact (Turned.refl [] W2).alloc _
 have hT1:TabOk W1:=HT.out.turned (HB0.out.t.trans' t1 (by simp)) (by simp)
 have hseq:=all1_seq (n:=19) (by omega) hA hlt hT1
 have HB1:=xhd ((HB0.out.later0 t1).at_ W1.heap.size (Nat.le_refl _))
 have HSEQ:=xhd hseq
 have HT1:=xhd hT1
 have hw1:W2.heap.size≤W1.heap.size:=t1.size
 have HLT:=xhd HT.out.lt
 obtain⟨B,hB⟩:∃B,W2.heap.size=B:=⟨_,rfl⟩
 rw [hB] at HSEQ hw0 hw1 ⊢
 clear hA t1 hT1 hseq HB0 hW1 hB
 go_wp2_with fail
 refine (wpIn_wide (n:=20)).1 ?_
 refine range_turns_plain rfl (by omega) (gf:=49) (lb:= #[.pointer (some ⟨B,0,none⟩)]) rfl trivial (enters_of Tryd.func49 (by kernel_rfl) rfl)
  (X:=[]) (Y:=[0]) (by simp) (fun k hk=>by rw [List.mem_singleton] at hk;subst hk;exact HT1.out.lt) HSEQ.out (fun _=>rfl) (fun _ _ _ h _=>h) (fun _ _ _ h _=>h)
  (fun pre W=>BoxL [] w W W1.heap.size [(.pointer pa,tPL),(.int .i64 (pre.foldl (leastSt l) (-1)),3)])
  (fun _ _ _=>False)
  (fun xs A B h mm=>h.mild mm (by omega) rfl) (fun c xs A B h mm=>h) HB1.out
  ?a1 ?assign ?body ?done ?stop
 case assign=>
  intro l x W K hK
  gi_wp2
  exact hK
 case body=>
  rintro lp pre p W hI hsp
  obtain⟨j,rfl,hj,_⟩:=HLI.out _ (mem_pre hsp)
  obtain⟨c0,f0⟩:=hI.one0 rfl
  obtain⟨c1,f1⟩:=hI.one (i:=1) rfl
  obtain⟨b,r,cap,hpa,q0,u0,r1,u2,ry⟩:=HQ.out.at_ W hI.t j _ (List.getElem?_eq_getElem hj)
  clear u0 u2
  have hv:vAt l j=l[j].2.1:=by rw [vAt_nat,List.getElem?_eq_getElem hj];rfl
  rw [←hv] at r1
  have hs:=foldl_snoc (leastSt l) (-1) pre j
  have hmm:=HMEM.out pre
  obtain⟨q,hq⟩:∃q,pre.foldl (leastSt l) (-1)=q:=⟨_,rfl⟩
  rw [hq] at c1 hs hmm
  have HI:=xhd hI
  have HS:=xhd hs
  have HQQ:=xhd hq
  have HPA:=xhd hpa
  rw [hpa] at c0
  have HFIN:Hid (∀V,BoxL [] w V W1.heap.size [(.pointer pa,tPL),(.int .i64 (leastSt l q j),3)]→BoxL [] w V W1.heap.size [(.pointer pa,tPL),(.int .i64 ((pre++[(j:Int)]).foldl (leastSt l) (-1)),3)]):=xhd (fun V hV=>by rw [HS.out];exact hV)
  have HKEEP:Hid (∀(k:Nat) (v:Value),SameAt [0] (W.drewN k) ((W.drewN k).setCell ⟨w.heap.size+1,0,none⟩ v)):=xhd (fun k v=>sameAt_set (by have:=HLT.out;simp only [List.mem_singleton];omega))
  have i0:(0:Int)≤j:=by omega
  have i1:(j:Int) < l.length:=by omega
  rcases hmm with rfl|hmem
  ·have HST:Hid (leastSt l (-1) j=j):=xhd (by unfold leastSt;rw [if_pos (.inl (by decide))])
   obtain⟨m,hm⟩:∃m,l.length=m:=⟨_,rfl⟩
   rw [hm] at i1 q0
   clear hI hsp hs hq hm hj ry hv hpa
   gi_wp2
   refine wpRound_quiet (by kernel_rfl) ?_ (by kernel_rfl) (by kernel_rfl) ?_
   ·rintro ⟨_,_,h⟩;exact h
   repeat (go_big_quiet_step (fail))
   refine wpQuiet_nil ?_
   intro _ hw'
   obtain⟨nq,hw''⟩:=hw'
   subst hw''
   gi_wp2
   refine⟨(keepsFrom_turned ((Turned.refl [] W).drewN nq) (by simp)).trans ((KeepsOthers.setCell _ _ _).from _),HKEEP.out _ _,?_⟩
   refine HFIN.out _ ?_
   rw [HST.out]
   exact (HI.out.later0 ((Turned.refl [] W).drewN nq)).set (i:=1) (by rw [HQQ.out];rfl)
  ·obtain⟨k,rfl,hk,_⟩:=HLI.out _ (pre_mem hsp _ hmem)
   have rk:=ry k _ (List.getElem?_eq_getElem hk)
   have hvk:vAt l k=l[k].2.1:=by rw [vAt_nat,List.getElem?_eq_getElem hk];rfl
   rw [←hvk] at rk
   have k0:(0:Int)≤k:=by omega
   have k1:(k:Int) < l.length:=by omega
   have kn:((k:Int) == -1)=false:=beq_eq_false_iff_ne.2 (by omega)
   have kn2:¬(k:Int)= -1:=by omega
   obtain⟨m,hm⟩:∃m,l.length=m:=⟨_,rfl⟩
   rw [hm] at i1 q0 k1
   by_cases hc:vAt l j < vAt l k
   ·have HST:Hid (leastSt l k j=j):=xhd (by unfold leastSt;rw [if_pos (.inr hc)])
    have hc':decide (vAt l j < vAt l k)=true:=by simpa using hc
    obtain⟨vj,hvj⟩:∃v,vAt l j=v:=⟨_,rfl⟩
    obtain⟨vk,hvk'⟩:∃v,vAt l k=v:=⟨_,rfl⟩
    rw [hvj,hvk'] at hc hc'
    rw [hvj] at r1
    rw [hvk'] at rk
    clear hI hsp hs hq hm hj ry hv hpa hvk hk hmem hvj hvk'
    gi_wp2
    refine wpRound_quiet (by kernel_rfl) ?_ (by kernel_rfl) (by kernel_rfl) ?_
    ·rintro ⟨_,_,h⟩;exact h
    repeat (go_big_quiet_step (fail))
    refine wpQuiet_nil ?_
    intro _ hw'
    obtain⟨nq,hw''⟩:=hw'
    subst hw''
    gi_wp2
    refine⟨(keepsFrom_turned ((Turned.refl [] W).drewN nq) (by simp)).trans ((KeepsOthers.setCell _ _ _).from _),HKEEP.out _ _,?_⟩
    refine HFIN.out _ ?_
    rw [HST.out]
    exact (HI.out.later0 ((Turned.refl [] W).drewN nq)).set (i:=1) (by rw [HQQ.out];rfl)
   ·have HST:Hid (leastSt l k j=k):=xhd (by unfold leastSt;rw [if_neg (by rintro (h|h);omega;exact hc h)])
    have hc':decide (vAt l j < vAt l k)=false:=by simpa using hc
    obtain⟨vj,hvj⟩:∃v,vAt l j=v:=⟨_,rfl⟩
    obtain⟨vk,hvk'⟩:∃v,vAt l k=v:=⟨_,rfl⟩
    rw [hvj,hvk'] at hc hc'
    rw [hvj] at r1
    rw [hvk'] at rk
    clear hI hsp hs hq hm hj ry hv hpa hvk hk hmem hvj hvk'
    gi_wp2
    refine wpRound_quiet (by kernel_rfl) ?_ (by kernel_rfl) (by kernel_rfl) ?_
    ·rintro ⟨_,_,h⟩;exact h
    repeat (go_big_quiet_step (fail))
    refine wpQuiet_nil ?_
    intro _ hw'
    obtain⟨nq,hw''⟩:=hw'
    subst hw''
    gi_wp2
    refine⟨keepsFrom_turned ((Turned.refl [] W).drewN nq) (by simp),SameAt.refl _ _,?_⟩
    refine HFIN.out _ ?_
    rw [HST.out, ←HQQ.out]
    exact HI.out.later0 ((Turned.refl [] W).drewN nq)
 case done=>
  rintro D xs W hD rfl hI hK
  rw [HS0.out] at hI
  obtain⟨c1,f1⟩:=hI.one (i:=1) rfl
  have HI:=xhd hI
  have HKD:=xhd hK
  clear hI hK
  go_wp2
  refine⟨by simp, .inl ⟨_,_,rfl,run_takeDeferred HKD.out,?_⟩⟩
  exact⟨_,results_tmp rfl _ _ _,rfl,HI.out.t.put (by omega) _⟩
 case stop=>
  rintro D c xs W _ _ h _
  exact h.elim
end
end Go.Proofs.YtcgjbllmoglhfaaDoor
