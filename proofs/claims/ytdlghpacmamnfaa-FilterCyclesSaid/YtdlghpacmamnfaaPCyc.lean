/- FilterCycles (P6.5,P6.11) of the package shoeboxlaw06 returns true,for all arguments. -/
import Derived.Test.YtdlghpacmamnfaaG1
import Derived.Test.YtdlghpacmamnfaaM
import Derived.Test.YtdlghpacmamnfaaRows
set_option linter.unusedSimpArgs false
set_option linter.unusedVariables false
set_option linter.defProp false
namespace Go.Proofs.Ytdlghpacmamnfaa.filterCycles
open Go Go.Rex Go.ChangeShapes Go.WideShapes Go.ChangeAt Go.RowKit Go.Joins Go.Proofs Go.Proofs.Ytdlghpacmamnfaa
theorem own:ownKnob Try.prog.godebug=none:=by kernel_rfl
theorem vK:laidOutB Try.prog=true:=by kernel_rfl
set_option maxHeartbeats 1000000 in
set_option maxRecDepth 100000 in
theorem lifted(os:Os)(started:os.Started)(H:Type)(enc:TypeId×Value→H) :
 ReturnsInHanded {} Try.checked os 3 .any (Rows.filterCyclesSpec.pre6 enc Try.prog Try.f3 Rows.filterCyclesRow.domain false) (Rows.filterCyclesSpec.post enc Try.prog Try.f3 false true false false):=by
 refine returnsInHanded_of_change (C:=Try.checked) own started (by kernel_rfl) Try.func3
  (ChangeSpec.witness6 (enc:=enc) (C:=Try.checked) false ⟨#[],#[.agg #[.int .i64 0,.int .i64 0,.int .i64 0,.int .i64 0,.int .i64 0],.agg #[.int .i64 0,.int .i64 0]],[]⟩ 8 (by kernel_rfl) (by kernel_rfl) (by kernel_rfl) (by kernel_rfl)) ?_
 intro W base args ds gs before hval0 hW hcnd _
 have hval:∀(j:Nat) t v,Try.f3.params[j]?=some t→args[j]?=some v→Value.okWide Try.prog W .any base t v:=hval0
 have hW':=hW
 obtain⟨p,q,hA0,hV,rfl,hfz,hnd⟩:=hW
 have hA:DataW.TrodAll enc Try.prog W 0 (fun _=>true) true Try.f3.params.toList args.toList ds p:=hA0
 rw[Try.params3] at hA hval
 obtain⟨v0,vs0,d0,ds0,p0,q0,hargs,rfl,rfl,h0,r0⟩:=trodAll_cons hA
 obtain⟨v1,vs1,d1,ds1,p1,q1,rfl,rfl,rfl,h1,r1⟩:=trodAll_cons r0
 obtain⟨rfl,rfl,rfl⟩:=trodAll_nil r1
 obtain rfl:args=#[v0,v1]:=by cases args; simp_all
 obtain⟨rfl,rfl⟩:=trodVars_none hV
 have lt0:∀ x∈p0,x.block<W.heap.size:=by obtain⟨m,hm⟩:=h0; exact DataW.trod_lt m _ _ _ hm
 have lt1:∀ x∈p1,x.block<W.heap.size:=by obtain⟨m,hm⟩:=h1; exact DataW.trod_lt m _ _ _ hm
 clear hA0 hval0
 obtain⟨l0,hl0,rfl⟩:=zJ (n:=5) Try.underlying25 Try.underlying3 (by kernel_rfl) (by kernel_rfl) (hval 0 25 v0 rfl rfl)
 obtain⟨x0_0,x0_1,x0_2,x0_3,x0_4,rfl⟩:=len5 hl0
 obtain⟨l1,hl1,rfl⟩:=yG (n:=2) Try.underlying23 Try.underlying3 (by kernel_rfl) (by kernel_rfl) (hval 1 23 v1 rfl rfl)
 obtain⟨x1_0,x1_1,rfl⟩:=len2 hl1
 have AA:=NArgs.cons ((tF [x0_0,x0_1,x0_2,x0_3,x0_4]).n) (NArgs.cons ((tF [x1_0,x1_1]).n) (NArgs.nil W))
 have hgw:GW W:=fun g es c hg=>by simp[GH,ghCells] at hg
 have hgs:NG≤W.heap.size:=by unfold NG GH ghCells; exact Nat.zero_le _
 refine (gY (sN x0_0 x0_1 x0_2 x0_3 x0_4 x1_0 x1_1) AA.fz AA.vls (AA.rel hgw hgs) (Nat.le_refl _) AA.vrs).mono fun e W' ⟨he,bel⟩=>?_
 subst he
 exact⟨_,rfl,_,_,_,[],_,[],hW',trodAll_mk1 (shut_bool Try.underlying4 _),(trodAll_cons_mk (Below.trod vK (by kernel_rfl) (of_decide_eq_true (by kernel_rfl)) h0 bel lt0) (trodAll_cons_mk (Below.trod vK (by kernel_rfl) (of_decide_eq_true (by kernel_rfl)) h1 bel lt1) trodAll_mk0)),rfl,bel.frame _,fun h=>by cases h⟩
theorem over:Rows.filterCyclesRow.holds Try.pinned (OpenSpec.ofChange Rows.filterCyclesSpec):=
 OpenClaim.holds_of_wide 3 Try.f3 rfl rfl rfl rfl rfl rfl rfl ⟨rfl,rfl,rfl,rfl,rfl⟩ rfl rfl rfl rfl rfl (by kernel_rfl) Try.func3 (by kernel_rfl)
  (of_decide_eq_true (by kernel_rfl)) (by unfold Func.isWrapper; first | (rw[if_pos (by decide +kernel)]; kernel_rfl) | (rw[if_neg (by decide +kernel)]; exact⟨rfl,rfl⟩))
  (fun os started H enc _=>lifted os started H enc)
theorem proved:Rows.FilterCyclesSaid:=
 over
end Go.Proofs.Ytdlghpacmamnfaa.filterCycles
