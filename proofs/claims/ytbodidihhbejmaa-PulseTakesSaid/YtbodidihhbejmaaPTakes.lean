/- Whatever recordings and rate are told,the mean of them and what the ears hear of each are those of the reference,with the same errors. -/
import Derived.Test.YtbodidihhbejmaaG2
import Derived.Test.YtbodidihhbejmaaM
import Derived.Test.YtbodidihhbejmaaRows
set_option linter.unusedSimpArgs false
set_option linter.unusedVariables false
set_option linter.defProp false
namespace Go.Proofs.Ytbodidihhbejmaa.pulseTakes
open Go Go.Rex Go.ChangeShapes Go.WideShapes Go.ChangeAt Go.RowKit Go.Joins Go.Proofs Go.Proofs.Ytbodidihhbejmaa
theorem own:ownKnob Try.prog.godebug=none:=by kernel_rfl
theorem Eb:laidOutB Try.prog=true:=by kernel_rfl
set_option maxHeartbeats 1000000 in
set_option maxRecDepth 100000 in
theorem lifted(os:Os)(started:os.Started)(H:Type)(enc:TypeId×Value→H) :
 ReturnsInHanded {} Try.checked os 6 .any (Rows.pulseTakesSpec.pre6 enc Try.prog Try.f6 Rows.pulseTakesRow.domain false) (Rows.pulseTakesSpec.post enc Try.prog Try.f6 false true false false):=by
 refine returnsInHanded_of_change (C:=Try.checked) own started (by kernel_rfl) Try.func6
  (ChangeSpec.witness6 (enc:=enc) (C:=Try.checked) false ⟨#[],#[.slice none 0 0,.int .i64 0],[]⟩ 8 (by kernel_rfl) (by kernel_rfl) (by kernel_rfl) (by kernel_rfl)) ?_
 intro W base args ds gs before hval0 hW hcnd _
 have hval:∀(j:Nat) t v,Try.f6.params[j]?=some t→args[j]?=some v→Value.okWide Try.prog W .any base t v:=hval0
 have hW':=hW
 obtain⟨p,q,hA0,hV,rfl,hfz,hnd⟩:=hW
 have hA:DataW.TrodAll enc Try.prog W 0 (fun _=>true) true Try.f6.params.toList args.toList ds p:=hA0
 rw[Try.params6] at hA hval
 obtain⟨v0,vs0,d0,ds0,p0,q0,hargs,rfl,rfl,h0,r0⟩:=trodAll_cons hA
 obtain⟨v1,vs1,d1,ds1,p1,q1,rfl,rfl,rfl,h1,r1⟩:=trodAll_cons r0
 obtain⟨rfl,rfl,rfl⟩:=trodAll_nil r1
 obtain rfl:args=#[v0,v1]:=by cases args; simp_all
 obtain⟨rfl,rfl⟩:=trodVars_none hV
 have lt0:∀ x∈p0,x.block<W.heap.size:=by obtain⟨m,hm⟩:=h0; exact DataW.trod_lt m _ _ _ hm
 have lt1:∀ x∈p1,x.block<W.heap.size:=by obtain⟨m,hm⟩:=h1; exact DataW.trod_lt m _ _ _ hm
 clear hA0 hval0
 have w0:=hval 0 54 v0 rfl rfl
 obtain⟨x0,b0,i0,a0,A0⟩:∃(xs:(List (List (Nat×Nat)))) (bs:Nat→List Blk) (is:List Info) (av:Nat→Value),NArg W v0 (.list 1 (xs.map e_Lff_)) bs is av:=by
  obtain⟨a,len,cap,rfl⟩:=okWide_slice Try.underlying54 w0
  obtain⟨m,hm⟩:=h0
  exact Rex.open_lists (F:=fun x:(List (Nat×Nat))=>.list 2 (x.map e_ff)) Try.underlying54 (by kernel_rfl) (fun n c y hy=>Rex.open_rowsN (F:=e_ff) (by decide) (fun _=>rfl) Try.underlying23 (by kernel_rfl) (fun n cs y hl hy=>by
   obtain⟨l,rfl⟩:=((fun _ _ _ h=>Mm (k:=1) Try.underlying71 (by kernel_rfl) (by decide) (by kernel_rfl) (fun _ _ _ h=>Ht Try.underlying51 h) h) n cs y hy).list
   rw[List.length_map] at hl
   obtain⟨y0,y1,rfl⟩:=len2 hl
   exact⟨(y0,y1),_,_,_,NArgs.cons (Arg.atom (W:=W) (sV .f32 y0)).n (NArgs.cons (Arg.atom (W:=W) (sV .f32 y1)).n (NArgs.nil W))⟩) hy) (by simpa [Value.cells] using hm)
 obtain⟨x1,rfl⟩:=Rex.open_int Try.underlying3 (hval 1 3 v1 rfl rfl)
 have AA:=NArgs.cons (A0) (NArgs.cons ((Arg.atom (Gc .i64 x1)).n) (NArgs.nil W))
 have hgw:GW W:=fun g es c hg=>by simp[GH,ghCells] at hg
 have hgs:NG≤W.heap.size:=by unfold NG GH ghCells; exact Nat.zero_le _
 refine (nQ (Cq x0 x1) AA.fz AA.vls (AA.rel hgw hgs) (Nat.le_refl _) AA.vrs).mono fun e W' ⟨he,bel⟩=>?_
 subst he
 exact⟨_,rfl,_,_,_,[],_,[],hW',trodAll_mk1 (shut_bool Try.underlying4 _),(trodAll_cons_mk (Below.trod Eb (by kernel_rfl) (of_decide_eq_true (by kernel_rfl)) h0 bel lt0) (trodAll_cons_mk (Below.trod Eb (by kernel_rfl) (of_decide_eq_true (by kernel_rfl)) h1 bel lt1) trodAll_mk0)),rfl,bel.frame _,fun h=>by cases h⟩
theorem over:Rows.pulseTakesRow.holds Try.pinned (OpenSpec.ofChange Rows.pulseTakesSpec):=
 OpenClaim.holds_of_wide 6 Try.f6 rfl rfl rfl rfl rfl rfl rfl ⟨rfl,rfl,rfl,rfl,rfl⟩ rfl rfl rfl rfl rfl (by kernel_rfl) Try.func6 (by kernel_rfl)
  (of_decide_eq_true (by kernel_rfl)) (by unfold Func.isWrapper; first | (rw[if_pos (by decide +kernel)]; kernel_rfl) | (rw[if_neg (by decide +kernel)]; exact⟨rfl,rfl⟩))
  (fun os started H enc _=>lifted os started H enc)
theorem proved:Rows.PulseTakesSaid:=
 over
end Go.Proofs.Ytbodidihhbejmaa.pulseTakes
