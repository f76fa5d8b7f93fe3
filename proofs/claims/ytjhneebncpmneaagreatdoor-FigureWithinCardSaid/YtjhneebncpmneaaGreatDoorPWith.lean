/- The figures of every response that is as near to an ask as its noise and its tail tell lie within the ends that are told for the ask. -/
import Derived.Test.YtjhneebncpmneaaGreatDoorG2
import Derived.Test.YtjhneebncpmneaaGreatDoorM
import Derived.Test.YtjhneebncpmneaaGreatDoorRows
import Derived.Test.YtjhneebncpmneaaGreatDoorTie
import Derived.Test.YtjhneebncpmneaaGreatDoorCards
set_option linter.unusedSimpArgs false
set_option linter.unusedVariables false
set_option linter.defProp false
namespace Go.Proofs.YtjhneebncpmneaaGreatDoor.figureWithin
open Go Go.Rex Go.ChangeShapes Go.WideShapes Go.ChangeAt Go.RowKit Go.Joins Go.Proofs Go.Proofs.YtjhneebncpmneaaGreatDoor
theorem own:ownKnob Tryz.prog.godebug=none:=by kernel_rfl
theorem Et:laidOutB Tryz.prog=true:=by kernel_rfl
set_option maxHeartbeats 1000000 in
set_option maxRecDepth 100000 in
theorem Qt(os:Os)(args:Array Value):laidMetH Tryz.prog Rows.figureWithinRow.laid ((World.laidAll Tryz.prog os Rows.figureWithinRow.laid).forCall (fun _ _=>0) ⟨#[],args,[]⟩).memory:=by
 rw[MakeChecks.laidMetH_plain _ _ _ (by kernel_rfl)]
 exact laidMet_laidAll args (by kernel_rfl) (by kernel_rfl)
set_option maxHeartbeats 1000000 in
set_option maxRecDepth 100000 in
theorem lifted(os:Os)(started:os.Started)(H:Type)(enc:TypeId×Value→H) :
 ReturnsInHanded {} Tryz.checked os 10 .any (fun w args=>(Rows.figureWithinSpec.pre enc Tryz.prog Tryz.f10 [] false w args∧laidMetH Tryz.prog Rows.figureWithinRow.laid w)∧sizedMet enc Tryz.prog Tryz.f10 (OpenSpec.ofChange Rows.figureWithinSpec) false w args) (Rows.figureWithinSpec.post enc Tryz.prog Tryz.f10 false true false false):=by
 refine returnsInHanded_of_change_and (C:=Tryz.checked) (X:=fun w _=>laidMetH Tryz.prog Rows.figureWithinRow.laid w) (fun _ _ _ hh h=>h.of_heap hh) own started (by kernel_rfl) Tryz.func10
  (ChangeSpec.witness_shaped (enc:=enc) (C:=Tryz.checked) (os:=os) (X:=fun w _=>laidMetH Tryz.prog Rows.figureWithinRow.laid w) false (World.laidAll Tryz.prog os Rows.figureWithinRow.laid) #[.agg #[.int .i64 0,.slice none 0 0,.int .i64 0,.int .i64 0],.agg #[.slice none 0 0,.slice none 0 0],.int .i64 0] 8 (World.laidAll_os _ _ _) (World.shaped_of_ZipB (by kernel_rfl) (by kernel_rfl)) (by kernel_rfl) (by kernel_rfl) (by kernel_rfl) (Qt os _)) ?_
 intro W base args ds gs before hval0 hW hcnd _ hL _
 rw[MakeChecks.laidMetH_plain _ _ _ (by kernel_rfl)] at hL
 have hval:∀(j:Nat) t v,Tryz.f10.params[j]?=some t→args[j]?=some v→Value.okWide Tryz.prog W .any base t v:=hval0
 have hW':=hW
 obtain⟨p,q,hA0,hV,rfl,hfz,hnd⟩:=hW
 have hA:DataW.TrodAll enc Tryz.prog W 0 (fun _=>true) true Tryz.f10.params.toList args.toList ds p:=hA0
 rw[Tryz.params10] at hA hval
 obtain⟨v0,vs0,d0,ds0,p0,q0,hargs,rfl,rfl,h0,r0⟩:=trodAll_cons hA
 obtain⟨v1,vs1,d1,ds1,p1,q1,rfl,rfl,rfl,h1,r1⟩:=trodAll_cons r0
 obtain⟨v2,vs2,d2,ds2,p2,q2,rfl,rfl,rfl,h2,r2⟩:=trodAll_cons r1
 obtain⟨rfl,rfl,rfl⟩:=trodAll_nil r2
 obtain rfl:args=#[v0,v1,v2]:=by cases args; simp_all
 obtain⟨rfl,rfl⟩:=trodVars_none hV
 have lt0:∀ x∈p0,x.block<W.heap.size:=by obtain⟨m,hm⟩:=h0; exact DataW.trod_lt m _ _ _ hm
 have lt1:∀ x∈p1,x.block<W.heap.size:=by obtain⟨m,hm⟩:=h1; exact DataW.trod_lt m _ _ _ hm
 have lt2:∀ x∈p2,x.block<W.heap.size:=by obtain⟨m,hm⟩:=h2; exact DataW.trod_lt m _ _ _ hm
 clear hA0 hval0
 obtain⟨l0,rfl,hl0,hc0⟩:=Ax (ts:=[3,22,3,3]) Tryz.underlying26 (by kernel_rfl) (by kernel_rfl) (hval 0 26 v0 rfl rfl)
 obtain⟨c0_0,c0_1,c0_2,c0_3,rfl⟩:=len4 (show l0.length=4 from hl0)
 obtain⟨x0_0,rfl⟩:=zP Tryz.underlying3 (hc0 0 _ 3 rfl rfl)
 have w0_1:=hc0 1 _ 22 rfl rfl
 obtain⟨x0_1,b0_1,i0_1,a0_1,A0_1⟩:∃(xs:List Nat) (bs:List Blk) (is:List Info) (av:Nat→Value),Arg W c0_1 (.list 1 (xs.map e_f)) bs is av:=by
  obtain⟨m0,hm0⟩:=h0
  obtain⟨m1,z1,hm1⟩:=uZ (i:=0) Tryz.underlying26 rfl hm0
  obtain⟨m2,z2,hm2⟩:=uZ (i:=1) Tryz.underlying24 rfl hm1
  refine uD (g:=fun (x:Nat)=>[.float .f32 x]) (by decide) (fun _=>rfl) (fun _=>rfl) (fun x c hc=>?_) Tryz.underlying22 (by kernel_rfl) w0_1 (fun n cs y hy hl=>?_) hm2
  ·simp only[List.mem_cons,List.not_mem_nil,or_false] at hc
   subst hc; exact Jl _ _
  ·exact Rex.trod_float Tryz.underlying82 hy
 obtain⟨x0_2,rfl⟩:=zP Tryz.underlying3 (hc0 2 _ 3 rfl rfl)
 obtain⟨x0_3,rfl⟩:=zP Tryz.underlying3 (hc0 3 _ 3 rfl rfl)
 obtain⟨l1,rfl,hl1,hc1⟩:=Ax (ts:=[79,79]) Tryz.underlying81 (by kernel_rfl) (by kernel_rfl) (hval 1 81 v1 rfl rfl)
 obtain⟨c1_0,c1_1,rfl⟩:=len2 (show l1.length=2 from hl1)
 have w1_0:=hc1 0 _ 79 rfl rfl
 obtain⟨x1_0,b1_0,i1_0,a1_0,A1_0⟩:∃(xs:List Int) (bs:List Blk) (is:List Info) (av:Nat→Value),Arg W c1_0 (.list 1 (xs.map e_i)) bs is av:=by
  obtain⟨m0,hm0⟩:=h1
  obtain⟨m1,z1,hm1⟩:=uZ (i:=0) Tryz.underlying81 rfl hm0
  refine uD (g:=fun (x:Int)=>[.int .i64 x]) (by decide) (fun _=>rfl) (fun _=>rfl) (fun x c hc=>?_) Tryz.underlying79 (by kernel_rfl) w1_0 (fun n cs y hy hl=>?_) hm1
  ·simp only[List.mem_cons,List.not_mem_nil,or_false] at hc
   subst hc; exact oF _ _
  ·obtain⟨l,rfl⟩:=((fun _ _ _ h=>Rj Tryz.underlying3 h) n cs y hy).list
   rw[List.length_map] at hl
   obtain⟨y0,rfl⟩:=len1 hl
   exact⟨y0,rfl⟩
 have w1_1:=hc1 1 _ 79 rfl rfl
 obtain⟨x1_1,b1_1,i1_1,a1_1,A1_1⟩:∃(xs:List Int) (bs:List Blk) (is:List Info) (av:Nat→Value),Arg W c1_1 (.list 1 (xs.map e_i)) bs is av:=by
  obtain⟨m0,hm0⟩:=h1
  obtain⟨m1,z1,hm1⟩:=uZ (i:=1) Tryz.underlying81 rfl hm0
  refine uD (g:=fun (x:Int)=>[.int .i64 x]) (by decide) (fun _=>rfl) (fun _=>rfl) (fun x c hc=>?_) Tryz.underlying79 (by kernel_rfl) w1_1 (fun n cs y hy hl=>?_) hm1
  ·simp only[List.mem_cons,List.not_mem_nil,or_false] at hc
   subst hc; exact oF _ _
  ·obtain⟨l,rfl⟩:=((fun _ _ _ h=>Rj Tryz.underlying3 h) n cs y hy).list
   rw[List.length_map] at hl
   obtain⟨y0,rfl⟩:=len1 hl
   exact⟨y0,rfl⟩
 obtain⟨x2,rfl⟩:=Rex.open_int Tryz.underlying3 (hval 2 3 v2 rfl rfl)
 have AA:=NArgs.cons (NArg.ofArgs (NArgs.cons ((Arg.atom (oF .i64 x0_0)).n) (NArgs.cons (A0_1.n) (NArgs.cons ((Arg.atom (oF .i64 x0_2)).n) (NArgs.cons ((Arg.atom (oF .i64 x0_3)).n) (NArgs.nil W)))))) (NArgs.cons (NArg.ofArgs (NArgs.cons (A1_0.n) (NArgs.cons (A1_1.n) (NArgs.nil W)))) (NArgs.cons ((Arg.atom (oF .i64 x2)).n) (NArgs.nil W)))
 have hc0 := kD (P := Tryz.prog) (w := W) hL (n := "shoebox/figure.slopes") (d := Rows.laid_shoebox_figure_slopes) (.tail _ (.tail _ (.tail _ (.head _)))) (g := 0) (t := 153) (cs := ghc0) (by kernel_rfl) (by kernel_rfl) (by kernel_rfl)
 have hc1 := kD (P := Tryz.prog) (w := W) hL (n := "shoebox/figure.turns") (d := Rows.laid_shoebox_figure_turns) (.tail _ (.tail _ (.tail _ (.tail _ (.tail _ (.head _)))))) (g := 1) (t := 170) (cs := ghc1) (by kernel_rfl) (by kernel_rfl) (by kernel_rfl)
 have hc3 := kD (P := Tryz.prog) (w := W) hL (n := "shoebox/figure.tenths") (d := Rows.laid_shoebox_figure_tenths) (.tail _ (.tail _ (.tail _ (.tail _ (.head _))))) (g := 3) (t := 186) (cs := ghc3) (by kernel_rfl) (by kernel_rfl) (by kernel_rfl)
 have hc7 := kD (P := Tryz.prog) (w := W) hL (n := "internal/strconv.uint64pow10") (d := Rows.laid_internal_strconv_uint64pow10) (.tail _ (.tail _ (.head _))) (g := 7) (t := 217) (cs := ghc7) (by kernel_rfl) (by kernel_rfl) (by kernel_rfl)
 have hc12 := kD (P := Tryz.prog) (w := W) hL (n := "math/bits.deBruijn32tab") (d := Rows.laid_math_bits_deBruijn32tab) (.head _) (g := 12) (t := 240) (cs := ghc12) (by kernel_rfl) (by kernel_rfl) (by kernel_rfl)
 have hc13 := kD (P := Tryz.prog) (w := W) hL (n := "math/bits.deBruijn64tab") (d := Rows.laid_math_bits_deBruijn64tab) (.tail _ (.head _)) (g := 13) (t := 241) (cs := ghc13) (by kernel_rfl) (by kernel_rfl) (by kernel_rfl)
 have hgw:GW W:=Yd (show Vy W 0 ghCells from ⟨hc0,hc1,pF,hc3,pF,pF,pF,hc7,pF,pF,pF,pF,hc12,hc13,trivial⟩)
 have hgs:NG≤W.heap.size:=by
  have:=Vf (hc13 0 _ rfl)
  rw[show NG=14 from by kernel_rfl]
  omega
 refine (rA (Jh x0_0 x0_1 x0_2 x0_3 x1_0 x1_1 x2) AA.fz AA.vls (AA.rel hgw hgs) (Nat.le_refl _) AA.vrs).mono fun e W' ⟨he,bel⟩=>?_
 subst he
 exact⟨_,rfl,_,_,_,[],_,[],hW',trodAll_mk1 (shut_bool Tryz.underlying4 _),(trodAll_cons_mk (Below.trod Et (by kernel_rfl) (of_decide_eq_true (by kernel_rfl)) h0 bel lt0) (trodAll_cons_mk (Below.trod Et (by kernel_rfl) (of_decide_eq_true (by kernel_rfl)) h1 bel lt1) (trodAll_cons_mk (Below.trod Et (by kernel_rfl) (of_decide_eq_true (by kernel_rfl)) h2 bel lt2) trodAll_mk0))),rfl,bel.frame _,fun h=>by cases h⟩
theorem over:Rows.figureWithinRow.holds Tryz.pinned (OpenSpec.ofChange Rows.figureWithinSpec):=
 OpenClaim.holds_of_wide 10 Tryz.f10 rfl rfl rfl rfl rfl rfl rfl ⟨rfl,rfl,rfl,rfl,rfl⟩ rfl rfl rfl rfl rfl (by kernel_rfl) Tryz.func10 (by kernel_rfl)
  (of_decide_eq_true (by kernel_rfl)) (by unfold Func.isWrapper; first | (rw[if_pos (by decide +kernel)]; kernel_rfl) | (rw[if_neg (by decide +kernel)]; exact⟨rfl,rfl⟩))
  (fun os started H enc _=>lifted os started H enc)
theorem proved:Rows.FigureWithinCardSaid:=
 Claim7.holds_tied_plain_at .later [] [.data, .data, .data, .data, .data, .data] true (true, "582848a707d3301c304e54dc352412ece803026c9676c1fd3c0e974c62f66750") true
  over (fun _ h=>by cases h) (by kernel_rfl) (fun _ h=>by cases h) figureWithin_row_tie rfl ⟨rfl,rfl⟩ (by kernel_rfl) rfl
  (fun f fn hf hfn=>by
   obtain rfl : f = 10 := Option.some.inj ((show Tryz.prog.funcNamed "shoebox/shoeboxlaw05.FigureWithin" = some 10 by kernel_rfl).symm.trans hf) |>.symm
   obtain rfl:fn=Tryz.f10:=(Option.some.inj (Tryz.func10.symm.trans hfn)).symm
   exact⟨by kernel_rfl,fun j t ht=>by
    rw[Tryz.params10] at ht
    have hm:t∈[26,81,3]:=by simpa using Array.mem_of_getElem? ht
    have hall:([26,81,3].all fun u=>!Tryz.prog.wantsStandIn u)=true:=by kernel_rfl
    exact (show Tryz.prog.wantsStandIn t=false by simpa using List.all_eq_true.1 hall t hm)⟩)
  (by kernel_rfl)
end Go.Proofs.YtjhneebncpmneaaGreatDoor.figureWithin
