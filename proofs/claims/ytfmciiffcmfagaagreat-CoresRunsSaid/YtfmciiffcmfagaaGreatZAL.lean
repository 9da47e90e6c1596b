/-
  CoresRuns' row, given what is said of the program's cores.
-/
import Derived.Test.YtfmciiffcmfagaaGreatZAH
import Derived.Test.YtfmciiffcmfagaaGreatZAK
import Derived.Test.YtfmciiffcmfagaaGreatZAl
set_option maxRecDepth 100000
set_option maxHeartbeats 25600000
namespace Go.Proofs.YtfmciiffcmfagaaGreat
open Go.ChangeShapes Go.WideShapes Go.ChangeAt Go.RowKit Go.Deep
theorem coruns_lifted (S:RqSaid) (C:CoSaid S) (os:Os) (started:os.Started) (H:Type) (enc:TypeId×Value→H):
  ReturnsInHanded {} Tryz.checked os 3 .any (Rows.coresRunsSpec.pre6 enc Tryz.prog Tryz.f3 Rows.coresRunsRow.domain false) (Rows.coresRunsSpec.post enc Tryz.prog Tryz.f3 false true false false):=by
 refine returnsInHanded_of_change (C:=Tryz.checked) own started (by kernel_rfl) Tryz.func3
  (ChangeSpec.witness6 (enc:=enc) (C:=Tryz.checked) false ⟨#[], #[.agg #[.int .i64 0, .int .i64 0], .slice none 0 0],[]⟩ 8 (by kernel_rfl) (by kernel_rfl) (by kernel_rfl) (by kernel_rfl)) ?_
 intro W base args ds gs before hval0 hW hcnd _
 have hval:∀(j:Nat) t v,Tryz.f3.params[j]?=some t→args[j]?=some v→Value.okWide Tryz.prog W .any base t v:=hval0
 have hW':=hW
 obtain⟨p,q,hA0,hV,rfl,hfz,hnd⟩:=hW
 have hA:DataW.TrodAll enc Tryz.prog W 0 (fun _=>true) true Tryz.f3.params.toList args.toList ds p:=hA0
 rw [Tryz.params3] at hA hval
 obtain⟨v0,v1,d0,d1,p0,p1,rfl,rfl,rfl,h0,h1⟩:=trodAll_two hA
 obtain⟨rfl,rfl⟩:=trodVars_none hV
 have h0k:=h0
 have h1k:=h1
 obtain⟨xs,hlen,rfl,_,_,hw⟩:=open_arr Tryz.underlying22 Tryz.underlying3 (by kernel_rfl) (by kernel_rfl) (hval 0 22 v0 rfl rfl) h0
 obtain⟨m0,m1,rfl⟩:=two_of hlen
 obtain⟨ao,b,off,n,cap,E,rfl,hm,hao,hE,hWf⟩:=open_deeds17 Tryz.underlying23 Tryz.underlying31 (by kernel_rfl) rfl rfl rfl rfl rfl (by kernel_rfl) (by kernel_rfl) (by kernel_rfl) (by kernel_rfl) (by kernel_rfl)
  Tryz.underlying5 Tryz.underlying3 Tryz.underlying3 Tryz.underlying29 Tryz.underlying3 (hval 1 23 v1 rfl rfl) h1
 clear hA0 hval0
 have hlt0:∀x ∈ p0,x.block < W.heap.size:=fun x hx=>hW'.lt x (by simp [hx])
 have hlt1:∀x ∈ p1,x.block < W.heap.size:=fun x hx=>hW'.lt x (by simp [hx])
 refine (coruns_walk S C m0 m1 ao b off n cap E W (isI_of (hw m0 (by simp))) (isI_of (hw m1 (by simp))) hao hE hWf hm).mono fun e W' ⟨he,ht⟩=>?_
 have hb:Below W.heap.size W W':=ht.below (by simp) (Nat.le_refl _)
 subst he
 exact⟨_,rfl,post_law (pv:=[]) hW' hb (fun _ _ _=>trodAll_mk1 (shut_bool Tryz.underlying4 _))
  (trodAll_mk2 (Below.trod laidOut (by kernel_rfl) (of_decide_eq_true (by kernel_rfl)) h0k hb hlt0) (Below.trod laidOut (by kernel_rfl) (of_decide_eq_true (by kernel_rfl)) h1k hb hlt1)) rfl⟩
theorem coresRuns_of (S:RqSaid) (C:CoSaid S):Rows.CoresRunsSaid:=
 OpenClaim.holds_of_wide 3 Tryz.f3 rfl rfl rfl rfl rfl rfl rfl ⟨rfl,rfl,rfl,rfl,rfl⟩ rfl rfl rfl rfl rfl (by kernel_rfl) Tryz.func3 (by kernel_rfl)
  (of_decide_eq_true (by kernel_rfl)) (by unfold Func.isWrapper;first|(rw [if_pos (by decide+kernel)];kernel_rfl) |(rw [if_neg (by decide+kernel)];exact⟨rfl,rfl⟩))
  (fun os started H enc _=>coruns_lifted S C os started H enc)
end Go.Proofs.YtfmciiffcmfagaaGreat
