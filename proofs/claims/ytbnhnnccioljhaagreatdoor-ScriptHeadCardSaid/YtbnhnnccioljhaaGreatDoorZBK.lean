/-
  Scripts, opened to their cells.
-/
import Derived.Test.YtbnhnnccioljhaaGreatDoorZBB
import Derived.Test.YtbnhnnccioljhaaGreatDoorZBI
import Derived.Test.YtbnhnnccioljhaaGreatDoorZAI
import Derived.SizedLaws
import Derived.Test.YtbnhnnccioljhaaGreatDoorZAl
set_option maxRecDepth 100000
set_option maxHeartbeats 25600000
namespace Go.Proofs.YtbnhnnccioljhaaGreatDoor
open Go.ChangeShapes Go.WideShapes Go.ChangeAt Go.RowKit Go.Deep
section
variable {H:Type} {enc:TypeId×Value→H} {P:Program} {w:World} {base:Nat} {spare:Nat→Bool} {held:Bool}
theorem core_acts {t e:TypeId} {f0 f1 f2 f3 f4:Field} (ht:P.underlying t=some (.slice e)) (hC:P.cellsOf e=5) (he:P.underlying e=some (.struct #[f0,f1,f2,f3,f4]))
  (o0:f0.offset=0) (o1:f1.offset=1) (o2:f2.offset=2) (o3:f3.offset=3) (o4:f4.offset=4) (c0:P.cellsOf f0.type=1) (c1:P.cellsOf f1.type=1) (c2:P.cellsOf f2.type=1) (c3:P.cellsOf f3.type=1) (c4:P.cellsOf f4.type=1)
  (k0:P.underlying f0.type=some (.int .i64)) (k1:P.underlying f1.type=some (.int .i64)) (k2:P.underlying f2.type=some (.int .i64)) (k3:P.underlying f3.type=some (.int .i64)) (k4:P.underlying f4.type=some (.int .i64))
  {fuel:Nat} {cs:List Value} {x:DataW H×List MemPlace} (h:DataW.trod enc P w base spare held fuel t cs=some x):
  ∃(ao:Option Addr) (b off cap:Nat) (L:List Ac),cs=[.slice ao L.length cap]∧AArg w ao b off L:=by
 obtain⟨ao,b,off,cap,L,h1,h2,h3⟩:=core_slice (α:=Ac) ht hC (fun ad y=>w.cell? (ad.add 0)=some (.int .i64 y.1)∧w.cell? (ad.add 1)=some (.int .i64 y.2.1)∧w.cell? (ad.add 2)=some (.int .i64 y.2.2.1)∧w.cell? (ad.add 3)=some (.int .i64 y.2.2.2.1)∧w.cell? (ad.add 4)=some (.int .i64 y.2.2.2.2)) (0,0,0,0,0) (fun ad cs' n x hl hat hx=>by
  obtain⟨ys,n',_,_,_,hyl,hg⟩:=DataW.trod_struct he hx
  simp only [List.size_toArray,List.length_cons,List.length_nil] at hyl
  have t0:=hg 0 f0 rfl
  have t1:=hg 1 f1 rfl
  have t2:=hg 2 f2 rfl
  have t3:=hg 3 f3 rfl
  have t4:=hg 4 f4 rfl
  rw [o0,c0] at t0
  rw [o1,c1] at t1
  rw [o2,c2] at t2
  rw [o3,c3] at t3
  rw [o4,c4] at t4
  obtain⟨x0,e0,_⟩:=cut1 (by omega) k0 t0
  obtain⟨x1,e1,_⟩:=cut1 (by omega) k1 t1
  obtain⟨x2,e2,_⟩:=cut1 (by omega) k2 t2
  obtain⟨x3,e3,_⟩:=cut1 (by omega) k3 t3
  obtain⟨x4,e4,_⟩:=cut1 (by omega) k4 t4
  exact⟨(x0,x1,x2,x3,x4),by rw [hat 0 (by omega),e0],by rw [hat 1 (by omega),e1],by rw [hat 2 (by omega),e2],by rw [hat 3 (by omega),e3],by rw [hat 4 (by omega),e4]⟩) (fun ad y hq=>by
  have h0:=hq.1
  rw [add_zero] at h0
  exact spot_none h0) h
 exact⟨ao,b,off,cap,L,h1,h2,fun i hi=>by have:=h3 i hi;simpa [Addr.add_lit] using this⟩
theorem core_setupT {tp:TypeId} {h0 h1 h2 h3 h4:Field} (hp:P.underlying tp=some (.struct #[h0,h1,h2,h3,h4])) (hcp:P.cellsOf tp=5) (o0:h0.offset=0) (o1:h1.offset=1) (o2:h2.offset=2) (o3:h3.offset=3) (o4:h4.offset=4)
  (c0:P.cellsOf h0.type=1) (c1:P.cellsOf h1.type=1) (c2:P.cellsOf h2.type=1) (c3:P.cellsOf h3.type=1) (c4:P.cellsOf h4.type=1) (k0:P.underlying h0.type=some (.int .i64)) (k1:P.underlying h1.type=some (.int .i64))
  (kg:∀(fuel:Nat) (cs:List Value) (x:DataW H×List MemPlace),DataW.trod enc P w base spare held fuel h2.type cs=some x→∃(ao:Option Addr) (b off cap:Nat) (L:List Int),cs=[.slice ao L.length cap]∧IArg w ao b off L)
  (kl:∀(fuel:Nat) (cs:List Value) (x:DataW H×List MemPlace),DataW.trod enc P w base spare held fuel h3.type cs=some x→∃(ao:Option Addr) (b off cap:Nat) (L:List Lk),cs=[.slice ao L.length cap]∧LArg w ao b off L)
  (kp:∀(fuel:Nat) (cs:List Value) (x:DataW H×List MemPlace),DataW.trod enc P w base spare held fuel h4.type cs=some x→∃(ao:Option Addr) (b off cap:Nat) (L:List Prg),cs=[.slice ao L.length cap]∧GArg w ao b off L∧∀p ∈ L,∀o ∈ p.2,small o.1)
  {fuel:Nat} {cs:List Value} {x:DataW H×List MemPlace} (hf:DataW.trod enc P w base spare held fuel tp cs=some x):
  ∃(s:Stp) (ag:Option Addr) (bg og cg:Nat) (al:Option Addr) (bl ol cl:Nat) (ap:Option Addr) (bp op cp:Nat),cs=(stC s.1 s.2.1 ag s.2.2.1.length cg al s.2.2.2.1.length cl ap s.2.2.2.2.length cp).toList∧SArg w s ag bg og al bl ol ap bp op∧∀p ∈ s.2.2.2.2,∀o ∈ p.2,small o.1:=by
 obtain⟨ys,n',_,_,hcv,hyl,hg⟩:=DataW.trod_struct hp hf
 rw [hcp] at hcv
 simp only [List.size_toArray,List.length_cons,List.length_nil] at hyl
 have t0:=hg 0 h0 rfl
 have t1:=hg 1 h1 rfl
 have t2:=hg 2 h2 rfl
 have t3:=hg 3 h3 rfl
 have t4:=hg 4 h4 rfl
 rw [o0,c0] at t0
 rw [o1,c1] at t1
 rw [o2,c2,List.getElem?_eq_getElem (by omega)] at t2
 rw [o3,c3,List.getElem?_eq_getElem (by omega)] at t3
 rw [o4,c4,List.getElem?_eq_getElem (by omega)] at t4
 obtain⟨c,e0,_⟩:=cut1 (by omega) k0 t0
 obtain⟨g,e1,_⟩:=cut1 (by omega) k1 t1
 obtain⟨ag,bg,og,cg,gs,hg2,hG⟩:=kg _ _ _ t2
 obtain⟨al,bl,ol,cl,ls,hl2,hL⟩:=kl _ _ _ t3
 obtain⟨ap,bp,op,cp,ps,hp2,hP,hs⟩:=kp _ _ _ t4
 have e2:=cell_cut hg2
 have e3:=cell_cut hl2
 have e4:=cell_cut hp2
 refine⟨(c,g,gs,ls,ps),ag,bg,og,cg,al,bl,ol,cl,ap,bp,op,cp,?_,⟨hG,hL,hP⟩,hs⟩
 match cs,hcv with
 |[u0,u1,u2,u3,u4],_=>
  simp only [List.getElem?_cons_zero,List.getElem?_cons_succ,Option.some.injEq] at e0 e1 e2 e3 e4
  rw [e0,e1,e2,e3,e4]
theorem slice_cap {t e:TypeId} (ht:P.underlying t=some (.slice e)) {fuel:Nat} {cs:List Value} {x:DataW H×List MemPlace} (h:DataW.trod enc P w base spare held fuel t cs=some x) {ao:Option Addr} {n cap:Nat} (hc:cs=[.slice ao n cap]):n≤cap:=by
 rcases open_slice ht h with⟨hcs,_⟩ |⟨a,len,cp,m,k,D,Pl,hcs,hb,hl,hm,hmm,hx,hi⟩
 ·rw [hc] at hcs
  simp only [List.cons.injEq,Value.slice.injEq,and_true] at hcs
  omega
 ·rw [hc] at hcs
  simp only [List.cons.injEq,Value.slice.injEq,and_true] at hcs
  omega
end
theorem open_script {H:Type} {enc:TypeId×Value→H} {w:World} {base:Nat} {spare:Nat→Bool} {held:Bool} {v:Value} {d:DataW H} {p:List MemPlace} {r:Reach} {b0:Nat} (hok:Value.okWide Tryz.prog w r b0 29 v)
  (h:DataW.Trod enc Tryz.prog w base spare held 29 v d p):
  ∃(x:Scr) (q:Pl),v= .agg (scP x q)∧ScArg w x q∧x.2.length≤q.ca∧∀p ∈ x.1.2.2.2.2,∀o ∈ p.2,small o.1:=by
 obtain⟨fuel,hf⟩:=h
 obtain⟨cv,rfl,hcv⟩:=okWide_struct Tryz.underlying29 hok
 obtain⟨ys,n',_,_,_,hyl,hg⟩:=DataW.trod_struct Tryz.underlying29 hf
 simp only [List.size_toArray,List.length_cons,List.length_nil] at hyl
 have t0:=hg 0 _ rfl
 have t1:=hg 1 _ rfl
 rw [List.getElem?_eq_getElem (by omega)] at t0 t1
 obtain⟨s,ag,bg,og,cg,al,bl,ol,cl,ap,bp,op,cp,e0,hS,hsm⟩:=core_setupT Tryz.underlying26 (by kernel_rfl) rfl rfl rfl rfl rfl (by kernel_rfl) (by kernel_rfl) (by kernel_rfl) (by kernel_rfl) (by kernel_rfl) Tryz.underlying3 Tryz.underlying3
  (fun _ _ _ t=>core_ints Tryz.underlying22 (by kernel_rfl) Tryz.underlying3 t)
  (fun _ _ _ t=>core_locks Tryz.underlying23 (by kernel_rfl) Tryz.underlying100 rfl rfl rfl rfl rfl (by kernel_rfl) (by kernel_rfl) (by kernel_rfl) (by kernel_rfl) (by kernel_rfl) Tryz.underlying4 Tryz.underlying3 Tryz.underlying3 Tryz.underlying3 Tryz.underlying3 t)
  (fun _ _ _ t=>core_progs Tryz.underlying24 (by kernel_rfl) Tryz.underlying49 rfl rfl (by kernel_rfl) (by kernel_rfl) Tryz.underlying4 rfl Tryz.underlying47 (by kernel_rfl) Tryz.underlying142 rfl rfl rfl (by kernel_rfl) (by kernel_rfl) (by kernel_rfl) Tryz.underlying3 Tryz.underlying3 Tryz.underlying3 t)
  t0
 obtain⟨aa,ba,oa,ca,L,e1,hA⟩:=core_acts Tryz.underlying27 (by kernel_rfl) Tryz.underlying73 rfl rfl rfl rfl rfl (by kernel_rfl) (by kernel_rfl) (by kernel_rfl) (by kernel_rfl) (by kernel_rfl) Tryz.underlying3 Tryz.underlying3 Tryz.underlying3 Tryz.underlying3 Tryz.underlying3 t1
 have hcap:=slice_cap Tryz.underlying27 t1 e1
 refine⟨(s,L),⟨ag,bg,og,cg,al,bl,ol,cl,ap,bp,op,cp,aa,ba,oa,ca⟩,?_,⟨hS,hA⟩,hcap,hsm⟩
 have h6:cv.size=6:=hcv.trans (by kernel_rfl)
 obtain⟨l⟩:=cv
 simp only [Value.cells] at e0 e1
 simp only [List.size_toArray] at h6
 have k5:Tryz.prog.cellsOf 26=5:=by kernel_rfl
 have k1:Tryz.prog.cellsOf 27=1:=by kernel_rfl
 have e0:(l.drop 0).take (Tryz.prog.cellsOf 26)=_:=e0
 have e1:(l.drop 5).take (Tryz.prog.cellsOf 27)=_:=e1
 rw [k5] at e0
 rw [k1] at e1
 match l,h6 with
 |[u0,u1,u2,u3,u4,u5],_=>
  simp only [List.drop_zero,List.take_succ_cons,List.take_zero,List.drop_succ_cons,List.cons.injEq,and_true] at e0 e1
  obtain⟨rfl,rfl,rfl,rfl,rfl⟩:=e0
  subst e1
  rfl
end Go.Proofs.YtbnhnnccioljhaaGreatDoor
