/- ShowStill (FADES END EXACTLY) of the package shoeboxlaw10 returns true,for all arguments. -/
import Derived.Test.YtecehdbekkllfaaGreatDoorG1
import Derived.Test.YtecehdbekkllfaaGreatDoorM
import Derived.Test.YtecehdbekkllfaaGreatDoorRows
import Derived.Test.YtecehdbekkllfaaGreatDoorTie
import Derived.Test.YtecehdbekkllfaaGreatDoorCards
set_option linter.unusedSimpArgs false
set_option linter.unusedVariables false
set_option linter.defProp false
namespace Go.Proofs.YtecehdbekkllfaaGreatDoor.showStill
open Go Go.Rex Go.ChangeShapes Go.WideShapes Go.ChangeAt Go.RowKit Go.Joins Go.Proofs Go.Proofs.YtecehdbekkllfaaGreatDoor
theorem own:ownKnob Tryz.prog.godebug=none:=by kernel_rfl
theorem xR:laidOutB Tryz.prog=true:=by kernel_rfl
set_option maxHeartbeats 1000000 in
set_option maxRecDepth 100000 in
theorem Bb(os:Os)(args:Array Value):laidMetH Tryz.prog Rows.showStillRow.laid ((World.laidAll Tryz.prog os Rows.showStillRow.laid).forCall (fun _ _=>0) ⟨#[],args,[]⟩).memory:=by
 rw[MakeChecks.laidMetH_plain _ _ _ (by kernel_rfl)]
 exact laidMet_laidAll args (by kernel_rfl) (by kernel_rfl)
set_option maxHeartbeats 1000000 in
set_option maxRecDepth 100000 in
theorem lifted(os:Os)(started:os.Started)(H:Type)(enc:TypeId×Value→H) :
 ReturnsInHanded {} Tryz.checked os 3 .any (fun w args=>(Rows.showStillSpec.pre enc Tryz.prog Tryz.f3 [] false w args∧laidMetH Tryz.prog Rows.showStillRow.laid w)∧sizedMet enc Tryz.prog Tryz.f3 (OpenSpec.ofChange Rows.showStillSpec) false w args) (Rows.showStillSpec.post enc Tryz.prog Tryz.f3 false true false false):=by
 refine returnsInHanded_of_change_and (C:=Tryz.checked) (X:=fun w _=>laidMetH Tryz.prog Rows.showStillRow.laid w) (fun _ _ _ hh h=>h.of_heap hh) own started (by kernel_rfl) Tryz.func3
  (ChangeSpec.witness_shaped (enc:=enc) (C:=Tryz.checked) (os:=os) (X:=fun w _=>laidMetH Tryz.prog Rows.showStillRow.laid w) false (World.laidAll Tryz.prog os Rows.showStillRow.laid) #[.slice none 0 0,.agg #[.int .i64 0,.int .i64 0]] 8 (World.laidAll_os _ _ _) (World.shaped_of_ZipB (by kernel_rfl) (by kernel_rfl)) (by kernel_rfl) (by kernel_rfl) (by kernel_rfl) (Bb os _)) ?_
 intro W base args ds gs before hval0 hW hcnd _ hL _
 rw[MakeChecks.laidMetH_plain _ _ _ (by kernel_rfl)] at hL
 have hval:∀(j:Nat) t v,Tryz.f3.params[j]?=some t→args[j]?=some v→Value.okWide Tryz.prog W .any base t v:=hval0
 have hW':=hW
 obtain⟨p,q,hA0,hV,rfl,hfz,hnd⟩:=hW
 have hA:DataW.TrodAll enc Tryz.prog W 0 (fun _=>true) true Tryz.f3.params.toList args.toList ds p:=hA0
 rw[Tryz.params3] at hA hval
 obtain⟨v0,vs0,d0,ds0,p0,q0,hargs,rfl,rfl,h0,r0⟩:=trodAll_cons hA
 obtain⟨v1,vs1,d1,ds1,p1,q1,rfl,rfl,rfl,h1,r1⟩:=trodAll_cons r0
 obtain⟨rfl,rfl,rfl⟩:=trodAll_nil r1
 obtain rfl:args=#[v0,v1]:=by cases args; simp_all
 obtain⟨rfl,rfl⟩:=trodVars_none hV
 have lt0:∀ x∈p0,x.block<W.heap.size:=by obtain⟨m,hm⟩:=h0; exact DataW.trod_lt m _ _ _ hm
 have lt1:∀ x∈p1,x.block<W.heap.size:=by obtain⟨m,hm⟩:=h1; exact DataW.trod_lt m _ _ _ hm
 clear hA0 hval0
 have w0:=hval 0 22 v0 rfl rfl
 obtain⟨x0,b0,i0,a0,A0⟩:∃(xs:(List (Int×(List Int)×Int))) (bs:Nat→List Blk) (is:List Info) (av:Nat→Value),NArg W v0 (.list 3 (xs.map e_iLi_i)) bs is av:=by
  obtain⟨a,len,cap,rfl⟩:=okWide_slice Tryz.underlying22 w0
  obtain⟨m,hm⟩:=h0
  exact Rex.open_rowsN (F:=e_iLi_i) (by decide) (fun _=>rfl) Tryz.underlying22 (by kernel_rfl) (fun n cs y hl hy=>by
   obtain⟨c0,c1,c2,rfl⟩:=len3 hl
   obtain⟨m0_0,z0_0,h0_0⟩:=pU (i:=0) Tryz.underlying30 rfl hy
   obtain⟨x0,hx0,_⟩:=DataW.trod_int Tryz.underlying3 (show DataW.trod _ _ _ _ _ _ _ _ [c0]=_ from h0_0)
   obtain rfl:c0 = .int .i64 x0:=by simpa using hx0
   have A0:=(Arg.atom (W:=W) (kV .i64 x0)).n
   obtain⟨m1_0,z1_0,h1_0⟩:=pU (i:=1) Tryz.underlying30 rfl hy
   obtain⟨x1,_,_,_,A1⟩:∃(x:(List Int)) (bs:Nat→List Blk) (is:List Info) (av:Nat→Value),NArg W c1 (.list 1 (x.map e_i)) bs is av:=Rex.open_ints Tryz.underlying28 Tryz.underlying3 (by kernel_rfl) (fun _=>rfl) h1_0
   obtain⟨m2_0,z2_0,h2_0⟩:=pU (i:=2) Tryz.underlying30 rfl hy
   obtain⟨x2,hx2,_⟩:=DataW.trod_int Tryz.underlying3 (show DataW.trod _ _ _ _ _ _ _ _ [c2]=_ from h2_0)
   obtain rfl:c2 = .int .i64 x2:=by simpa using hx2
   have A2:=(Arg.atom (W:=W) (kV .i64 x2)).n
   exact⟨(x0,x1,x2),_,_,_,NArgs.cons A0 (NArgs.cons A1 (NArgs.cons A2 (NArgs.nil W)))⟩) (by simpa [Value.cells] using hm)
 obtain⟨l1,hl1,rfl⟩:=zT (n:=2) Tryz.underlying23 Tryz.underlying3 (by kernel_rfl) (by kernel_rfl) (hval 1 23 v1 rfl rfl)
 obtain⟨x1_0,x1_1,rfl⟩:=len2 hl1
 have AA:=NArgs.cons (A0) (NArgs.cons ((Ah [x1_0,x1_1]).n) (NArgs.nil W))
 have hc0 := eN (P := Tryz.prog) (w := W) hL (n := "shoebox/show.kindWords") (d := Rows.laid_shoebox_show_kindWords) (.tail _ (.tail _ (.tail _ (.tail _ (.tail _ (.tail _ (.tail _ (.head _)))))))) (g := 0) (t := 132) (cs := ghc0) (by kernel_rfl) (by kernel_rfl) (by kernel_rfl)
 have hc2 := eN (P := Tryz.prog) (w := W) hL (n := "shoebox/show.mayLog") (d := Rows.laid_shoebox_show_mayLog) (.tail _ (.tail _ (.tail _ (.tail _ (.tail _ (.tail _ (.head _))))))) (g := 2) (t := 198) (cs := ghc2) (by kernel_rfl) (by kernel_rfl) (by kernel_rfl)
 have hc3 := eN (P := Tryz.prog) (w := W) hL (n := "shoebox/show.roleWords") (d := Rows.laid_shoebox_show_roleWords) (.tail _ (.tail _ (.tail _ (.tail _ (.tail _ (.tail _ (.tail _ (.tail _ (.head _))))))))) (g := 3) (t := 213) (cs := ghc3) (by kernel_rfl) (by kernel_rfl) (by kernel_rfl)
 have hc6 := eN (P := Tryz.prog) (w := W) hL (n := "internal/strconv.uint64pow10") (d := Rows.laid_internal_strconv_uint64pow10) (.tail _ (.tail _ (.head _))) (g := 6) (t := 248) (cs := ghc6) (by kernel_rfl) (by kernel_rfl) (by kernel_rfl)
 have hc9 := eN (P := Tryz.prog) (w := W) hL (n := "math/bits.deBruijn32tab") (d := Rows.laid_math_bits_deBruijn32tab) (.head _) (g := 9) (t := 274) (cs := ghc9) (by kernel_rfl) (by kernel_rfl) (by kernel_rfl)
 have hc10 := eN (P := Tryz.prog) (w := W) hL (n := "math/bits.deBruijn64tab") (d := Rows.laid_math_bits_deBruijn64tab) (.tail _ (.head _)) (g := 10) (t := 275) (cs := ghc10) (by kernel_rfl) (by kernel_rfl) (by kernel_rfl)
 have hgw:GW W:=Cq (show Bq W 0 ghCells from ⟨hc0,mL,hc2,hc3,mL,mL,hc6,mL,mL,hc9,hc10,trivial⟩)
 have hgs:NG≤W.heap.size:=by
  have:=Bz (hc10 0 _ rfl)
  rw[show NG=11 from by kernel_rfl]
  omega
 refine (kZ (vX x0 x1_0 x1_1) AA.fz AA.vls (AA.rel hgw hgs) (Nat.le_refl _) AA.vrs).mono fun e W' ⟨he,bel⟩=>?_
 subst he
 exact⟨_,rfl,_,_,_,[],_,[],hW',trodAll_mk1 (shut_bool Tryz.underlying4 _),(trodAll_cons_mk (Below.trod xR (by kernel_rfl) (of_decide_eq_true (by kernel_rfl)) h0 bel lt0) (trodAll_cons_mk (Below.trod xR (by kernel_rfl) (of_decide_eq_true (by kernel_rfl)) h1 bel lt1) trodAll_mk0)),rfl,bel.frame _,fun h=>by cases h⟩
theorem over:Rows.showStillRow.holds Tryz.pinned (OpenSpec.ofChange Rows.showStillSpec):=
 OpenClaim.holds_of_wide 3 Tryz.f3 rfl rfl rfl rfl rfl rfl rfl ⟨rfl,rfl,rfl,rfl,rfl⟩ rfl rfl rfl rfl rfl (by kernel_rfl) Tryz.func3 (by kernel_rfl)
  (of_decide_eq_true (by kernel_rfl)) (by unfold Func.isWrapper; first | (rw[if_pos (by decide +kernel)]; kernel_rfl) | (rw[if_neg (by decide +kernel)]; exact⟨rfl,rfl⟩))
  (fun os started H enc _=>lifted os started H enc)
theorem proved:Rows.ShowStillCardSaid:=
 Claim7.holds_tied_plain_at .later [] [.data, .data, .data, .data, .sentinel, .sentinel, .data, .data, .data, .pinned] true (true, "cfefddb6dbd81f52fee9c9e4cf8907d6334aa6b7434cdf1dd85d0ba1dccafa06") true
  over (fun _ h=>by cases h) (by kernel_rfl) (fun _ h=>by cases h) showStill_row_tie rfl ⟨rfl,rfl⟩ (by kernel_rfl) rfl
  (fun f fn hf hfn=>by
   obtain rfl : f = 3 := Option.some.inj ((show Tryz.prog.funcNamed "shoebox/shoeboxlaw10.ShowStill" = some 3 by kernel_rfl).symm.trans hf) |>.symm
   obtain rfl:fn=Tryz.f3:=(Option.some.inj (Tryz.func3.symm.trans hfn)).symm
   exact⟨by kernel_rfl,fun j t ht=>by
    rw[Tryz.params3] at ht
    have hm:t∈[22,23]:=by simpa using Array.mem_of_getElem? ht
    have hall:([22,23].all fun u=>!Tryz.prog.wantsStandIn u)=true:=by kernel_rfl
    exact (show Tryz.prog.wantsStandIn t=false by simpa using List.all_eq_true.1 hall t hm)⟩)
  (by kernel_rfl)
end Go.Proofs.YtecehdbekkllfaaGreatDoor.showStill
