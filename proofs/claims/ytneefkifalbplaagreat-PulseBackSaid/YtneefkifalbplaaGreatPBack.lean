/- PulseBack (UNFOLDED EXACTLY,IN TWO WAYS) of the package shoeboxlaw04 returns true,for all arguments. -/
import Derived.Test.YtneefkifalbplaaGreatG3
import Derived.Test.YtneefkifalbplaaGreatM
import Derived.Test.YtneefkifalbplaaGreatRows
set_option linter.unusedSimpArgs false
set_option linter.unusedVariables false
set_option linter.defProp false
namespace Go.Proofs.YtneefkifalbplaaGreat.pulseBack
open Go Go.Rex Go.ChangeShapes Go.WideShapes Go.ChangeAt Go.RowKit Go.Joins Go.Proofs Go.Proofs.YtneefkifalbplaaGreat
theorem own:ownKnob Tryz.prog.godebug=none:=by kernel_rfl
theorem Li:laidOutB Tryz.prog=true:=by kernel_rfl
set_option maxHeartbeats 1000000 in
set_option maxRecDepth 100000 in
theorem lifted(os:Os)(started:os.Started)(H:Type)(enc:TypeId×Value→H) :
 ReturnsInHanded {} Tryz.checked os 3 .any (Rows.pulseBackSpec.pre6 enc Tryz.prog Tryz.f3 Rows.pulseBackRow.domain false) (Rows.pulseBackSpec.post enc Tryz.prog Tryz.f3 false true false false):=by
 refine returnsInHanded_of_change (C:=Tryz.checked) own started (by kernel_rfl) Tryz.func3
  (ChangeSpec.witness6 (enc:=enc) (C:=Tryz.checked) false ⟨#[],#[.slice none 0 0,.agg #[.int .i64 0,.slice none 0 0,.int .i64 0],.int .i64 0],[]⟩ 8 (by kernel_rfl) (by kernel_rfl) (by kernel_rfl) (by kernel_rfl)) ?_
 intro W base args ds gs before hval0 hW hcnd _
 have hval:∀(j:Nat) t v,Tryz.f3.params[j]?=some t→args[j]?=some v→Value.okWide Tryz.prog W .any base t v:=hval0
 have hW':=hW
 obtain⟨p,q,hA0,hV,rfl,hfz,hnd⟩:=hW
 have hA:DataW.TrodAll enc Tryz.prog W 0 (fun _=>true) true Tryz.f3.params.toList args.toList ds p:=hA0
 rw[Tryz.params3] at hA hval
 obtain⟨v0,vs0,d0,ds0,p0,q0,hargs,rfl,rfl,h0,r0⟩:=trodAll_cons hA
 obtain⟨v1,vs1,d1,ds1,p1,q1,rfl,rfl,rfl,h1,r1⟩:=trodAll_cons r0
 obtain⟨v2,vs2,d2,ds2,p2,q2,rfl,rfl,rfl,h2,r2⟩:=trodAll_cons r1
 obtain⟨rfl,rfl,rfl⟩:=trodAll_nil r2
 obtain rfl:args=#[v0,v1,v2]:=by cases args; simp_all
 obtain⟨rfl,rfl⟩:=trodVars_none hV
 have lt0:∀ x∈p0,x.block<W.heap.size:=by obtain⟨m,hm⟩:=h0; exact DataW.trod_lt m _ _ _ hm
 have lt1:∀ x∈p1,x.block<W.heap.size:=by obtain⟨m,hm⟩:=h1; exact DataW.trod_lt m _ _ _ hm
 have lt2:∀ x∈p2,x.block<W.heap.size:=by obtain⟨m,hm⟩:=h2; exact DataW.trod_lt m _ _ _ hm
 clear hA0 hval0
 have w0:=hval 0 23 v0 rfl rfl
 obtain⟨x0,b0,i0,a0,A0⟩:∃(xs:List (Nat×Nat)) (bs:List Blk) (is:List Info) (av:Nat→Value),Arg W v0 (.list 2 (xs.map e_ff)) bs is av:=by
  obtain⟨a,len,cap,rfl⟩:=okWide_slice Tryz.underlying23 w0
  obtain⟨m,hm⟩:=h0
  refine Wx (g:=fun (x:(Nat×Nat))=>[.float .f32 x.1,.float .f32 x.2]) (by decide) (fun _=>rfl) (fun _=>rfl) (fun x c hc=>?_) Tryz.underlying23 (by kernel_rfl) w0 (fun n cs y hy hl=>?_) (by simpa [Value.cells] using hm)
  ·simp only[List.mem_cons,List.not_mem_nil,or_false] at hc
   rcases hc with rfl | rfl <;> exact Mq _ _
  ·obtain⟨l,rfl⟩:=((fun _ _ _ h=>aCS (k:=1) Tryz.underlying37 (by kernel_rfl) (by decide) (by kernel_rfl) (fun _ _ _ h=>aAC Tryz.underlying36 h) h) n cs y hy).list
   rw[List.length_map] at hl
   obtain⟨y0,y1,rfl⟩:=len2 hl
   exact⟨(y0,y1),rfl⟩
 obtain⟨l1,rfl,hl1,hc1⟩:=Sj (ts:=[3,24,3]) Tryz.underlying28 (by kernel_rfl) (by kernel_rfl) (hval 1 28 v1 rfl rfl)
 obtain⟨c1_0,c1_1,c1_2,rfl⟩:=len3 (show l1.length=3 from hl1)
 obtain⟨x1_0,rfl⟩:=Lk Tryz.underlying3 (hc1 0 _ 3 rfl rfl)
 have w1_1:=hc1 1 _ 24 rfl rfl
 obtain⟨x1_1,b1_1,i1_1,a1_1,A1_1⟩:∃(xs:List Int) (bs:List Blk) (is:List Info) (av:Nat→Value),Arg W c1_1 (.list 1 (xs.map e_i)) bs is av:=by
  obtain⟨m0,hm0⟩:=h1
  obtain⟨m1,z1,hm1⟩:=Nw (i:=0) Tryz.underlying28 rfl hm0
  obtain⟨m2,z2,hm2⟩:=Nw (i:=1) Tryz.underlying26 rfl hm1
  refine Eg (g:=fun (x:Int)=>[.int .i64 x]) (by decide) (fun _=>rfl) (fun _=>rfl) (fun x c hc=>?_) Tryz.underlying24 (by kernel_rfl) w1_1 (fun n cs y hy hl=>?_) hm2
  ·simp only[List.mem_cons,List.not_mem_nil,or_false] at hc
   subst hc; exact xA _ _
  ·obtain⟨l,rfl⟩:=((fun _ _ _ h=>aCC Tryz.underlying3 h) n cs y hy).list
   rw[List.length_map] at hl
   obtain⟨y0,rfl⟩:=len1 hl
   exact⟨y0,rfl⟩
 obtain⟨x1_2,rfl⟩:=Lk Tryz.underlying3 (hc1 2 _ 3 rfl rfl)
 obtain⟨x2,rfl⟩:=Rex.open_int Tryz.underlying3 (hval 2 3 v2 rfl rfl)
 have AA:=NArgs.cons (A0.n) (NArgs.cons (NArg.ofArgs (NArgs.cons ((Arg.atom (xA .i64 x1_0)).n) (NArgs.cons (A1_1.n) (NArgs.cons ((Arg.atom (xA .i64 x1_2)).n) (NArgs.nil W))))) (NArgs.cons ((Arg.atom (xA .i64 x2)).n) (NArgs.nil W)))
 have hgw:GW W:=fun g es c hg=>by simp[GH,ghCells] at hg
 have hgs:NG≤W.heap.size:=by unfold NG GH ghCells; exact Nat.zero_le _
 refine (xQ (Xc x0 x1_0 x1_1 x1_2 x2) AA.fz AA.vls (AA.rel hgw hgs) (Nat.le_refl _) AA.vrs).mono fun e W' ⟨he,bel⟩=>?_
 subst he
 exact⟨_,rfl,_,_,_,[],_,[],hW',trodAll_mk1 (shut_bool Tryz.underlying4 _),(trodAll_cons_mk (Below.trod Li (by kernel_rfl) (of_decide_eq_true (by kernel_rfl)) h0 bel lt0) (trodAll_cons_mk (Below.trod Li (by kernel_rfl) (of_decide_eq_true (by kernel_rfl)) h1 bel lt1) (trodAll_cons_mk (Below.trod Li (by kernel_rfl) (of_decide_eq_true (by kernel_rfl)) h2 bel lt2) trodAll_mk0))),rfl,bel.frame _,fun h=>by cases h⟩
theorem over:Rows.pulseBackRow.holds Tryz.pinned (OpenSpec.ofChange Rows.pulseBackSpec):=
 OpenClaim.holds_of_wide 3 Tryz.f3 rfl rfl rfl rfl rfl rfl rfl ⟨rfl,rfl,rfl,rfl,rfl⟩ rfl rfl rfl rfl rfl (by kernel_rfl) Tryz.func3 (by kernel_rfl)
  (of_decide_eq_true (by kernel_rfl)) (by unfold Func.isWrapper; first | (rw[if_pos (by decide +kernel)]; kernel_rfl) | (rw[if_neg (by decide +kernel)]; exact⟨rfl,rfl⟩))
  (fun os started H enc _=>lifted os started H enc)
theorem proved:Rows.PulseBackSaid:=
 over
end Go.Proofs.YtneefkifalbplaaGreat.pulseBack
