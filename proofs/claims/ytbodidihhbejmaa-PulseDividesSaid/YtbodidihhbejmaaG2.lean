/- Proofs that the program's functions do what these plain functions say. -/
import Derived.Test.YtbodidihhbejmaaGB
import Derived.Test.YtbodidihhbejmaaS
import Derived.Test.YtbodidihhbejmaaG1
set_option linter.unusedSimpArgs false
set_option linter.unusedVariables false
set_option linter.defProp false
namespace Go.Rex
open Go.Proofs
open Go Go.Rex Go.RowKit
set_option maxRecDepth 100000
set_option maxHeartbeats 4000000
def y31:=an @ag3 <| an @ag47 <| an @ag49 <| an @ar47 <| an @by49 <| an @cs3 <| an @cs47 <| an @cs49 <| an @ni31 <| an @ok3 <| an @ok47 <| an @ok49 <| an @so31 <| an @so46 <| an @so47 <| an @st47 <| an @un3 <| an @un51 <| an @zc47 <| an @zc49 <| @wi64_0a1
theorem law04_PulseDivides_law {v1 : (List (Int × Int))} {v2 : (List (Int × Int))} {v3 : Int} {v4 : Int} (hr : law04_PulseDivides v1 v2 v3 v4 = some true) {Fz : Nat → Prop} {h : List Blk} {vs : List Value} (hfz : FZ Fz h) (hargs : VLs Fz h noL [.list 2 (v1.map e_ii), .list 2 (v2.map e_ii), .agg [.v (.int .i64 v3), .v (.int .i64 v4)]] vs)
    {B lo : Nat} {D : Nat → Prop} {m : NMap} {w : World} {args' : List Value} (hrel : Rel B lo D m h w) (hlo : lo ≤ h.length) (hargs' : VRs D m vs args') : Calls Try.prog 5 ⟨args'⟩ w (fun e w'=>e = .returned (.bool true) ∧ Below w.heap.size w w'):=by
  unfold law04_PulseDivides at hr
  have T:=an y31 <| an @e_c.eq_1 <| @e_ii.eq_1
  refine law_tex follows awake_true Try.func5 rfl (tm0:=.list 2 (v1.map e_ii) :: .list 2 (v2.map e_ii) :: .agg [.v (.int .i64 v3),.v (.int .i64 v4)] :: .junk :: .junk :: .junk :: .junk :: .junk :: .junk :: .junk :: .junk :: .junk :: .junk :: .junk :: .junk :: .junk :: .junk :: .junk :: .junk :: .junk :: .junk :: .junk :: .junk :: .junk :: .junk :: .junk :: .junk :: .junk :: .junk :: .junk :: .junk :: .junk :: .junk :: .junk :: .junk :: .junk :: .junk :: .junk :: .junk :: .junk :: .junk :: .junk :: .junk :: .junk :: .junk :: .junk :: .junk :: .junk :: .junk :: .junk :: .junk :: .junk :: .junk :: .junk :: .junk :: .junk :: .junk :: .junk :: .junk :: .junk :: .junk :: .junk :: .junk :: .junk :: .junk :: .junk :: .junk :: .junk :: .junk :: .junk :: .junk :: .junk :: .junk :: .junk :: .junk :: .junk :: .junk :: .junk :: .junk :: .junk :: .junk :: .junk :: .junk :: .junk :: .junk :: .junk :: .junk :: .junk :: .junk :: .junk :: .junk :: .junk :: .junk :: .junk :: .junk :: .junk :: .junk :: .junk :: .junk :: .junk :: .junk :: .junk :: .junk :: .junk :: .junk :: .junk :: .junk :: .junk :: .junk :: .junk :: .junk :: .junk :: .junk :: .junk :: .junk :: .junk :: .junk :: .junk :: .junk :: .junk :: .junk :: .junk :: .junk :: .junk :: .junk :: .junk :: .junk :: .junk :: .junk :: .junk :: .junk :: .junk :: .junk :: .junk :: .junk :: .junk :: .junk :: .junk :: .junk :: .junk :: .junk :: .junk :: .junk :: .junk :: .junk :: .junk :: .junk :: .junk :: .junk :: .junk :: .junk :: .junk :: .junk :: .junk :: .junk :: .junk :: .junk :: .junk :: .junk :: .junk :: .junk :: .junk :: .junk :: .junk :: .junk :: .junk :: .junk :: .junk :: .junk :: .junk :: .junk :: .junk :: .junk :: .junk :: .junk :: .junk :: .junk :: .junk :: .junk :: .junk :: .junk :: .junk :: .junk :: .junk :: .junk :: .junk :: .junk :: .junk :: .junk :: .junk :: .junk :: .junk :: .junk :: .junk :: .junk :: .junk :: .junk :: .junk :: .junk :: .junk :: .junk :: .junk :: .junk :: .junk :: .junk :: .junk :: .junk :: .junk :: .junk :: .junk :: .junk :: .junk :: .junk :: .junk :: .junk :: .junk :: .junk :: .junk :: .junk :: .junk :: .junk :: .junk :: .junk :: .junk :: .junk :: .junk :: .junk :: .junk :: .junk :: .junk :: .junk :: .junk :: .junk :: .junk :: .junk :: .junk :: .junk :: .junk :: .junk :: .junk :: .junk :: .junk :: .junk :: .junk :: .junk :: .junk :: .junk :: .junk :: .junk :: .junk :: .junk :: .junk :: .junk :: .junk :: .junk :: .junk :: .junk :: .junk :: .junk :: .junk :: []) (by simp [Try.f5]<;>exact rfl) ?_ hfz hargs hrel hlo hargs'
  refine wb_ T (g:=?_)
  apply TO.cal (wn T) rfl goFn7 Spec.awake rfl rfl rfl
  repeat exact sd T
  refine wa_ T (g:=?_)
  apply TO.pop1 (wn T) (pop_not rfl)
  repeat exact sd T
  refine wc_ T (g:=?_)
  rcases ifs hr with ⟨h1,hr⟩|⟨h1,hr⟩
  · have T:=an h1 T
    refine wa_ T (g:=?_)
    exact lv T hr
  · have T:=an h1 T
    refine wc_ T (g:=?_)
    rcases ifs hr with ⟨h2,hr⟩|⟨h2,hr⟩
    · have T:=an h2 T
      refine wa_ T (g:=?_)
      exact lv T hr
    · have T:=an h2 T
      refine wc_ T (g:=?_)
      rcases ifs hr with ⟨h3,hr⟩|⟨h3,hr⟩
      · have T:=an h3 T
        refine wa_ T (g:=?_)
        exact lv T hr
      · repeat (first|(with_reducible first|refine mv ?_|refine TO.nil ?_)|((with_reducible first|apply TO.ia|apply TO.ld);(repeat (focus (show _ = _;first|exact k1 rfl|exact k2 rfl|(simp only [zz,y31,e_c,e_ii,Nat.reduceAdd,Nat.reduceMul,Nat.reduceLeDiff,Nat.reduceEqDiff,tindexAddr,z5,Int.reduceToNat,Int.reduceLE,Int.reduceLT,Int.cast_ofNat_Int,tload,rowOf,partT,List.getElem?_map,h1,h2,h3]<;>exact rfl)|exact rfl)));(with_reducible apply TO.here))|((with_reducible apply TX.region);(focus (simp only [zl]<;>exact rfl));(focus rfl);(try dsimp only))|fail)
        obtain ⟨v6,h4,hr⟩:=bs hr
        have T:=an h3 T
        apply TO.cal (wn T) rfl goFn20 (Spec.ov (base_Within_spec h4) (by decide)) rfl rfl rfl
        repeat exact sd T
        refine wa_ T (g:=?_)
        apply TO.pop1 (wn T) (pop_not rfl)
        repeat exact sd T
        refine wa_ T (g:=?_)
        rcases ifs hr with ⟨h5,hr⟩|⟨h5,hr⟩
        · repeat (first|(with_reducible first|refine mv ?_|refine TO.nil ?_)|((with_reducible first|apply TO.ia|apply TO.ld);(repeat (focus (show _ = _;first|exact k1 rfl|exact k2 rfl|(simp only [zz,y31,e_c,e_ii,Nat.reduceAdd,Nat.reduceMul,Nat.reduceLeDiff,Nat.reduceEqDiff,tindexAddr,z5,Int.reduceToNat,Int.reduceLE,Int.reduceLT,Int.cast_ofNat_Int,tload,rowOf,partT,List.getElem?_map,h1,h2,h3,h5]<;>exact rfl)|exact rfl)));(with_reducible apply TO.here))|((with_reducible apply TX.region);(focus (simp only [zl]<;>exact rfl));(focus rfl);(try dsimp only))|fail)
          obtain ⟨v7,h6,hr⟩:=bs hr
          have T:=an h5 T
          apply TO.cal (wn T) rfl goFn20 (Spec.ov (base_Within_spec h6) (by decide)) rfl rfl rfl
          repeat exact sd T
          refine wa_ T (g:=?_)
          apply TO.pop1 (wn T) (pop_not rfl)
          repeat exact sd T
          refine wa_ T (g:=?_)
          rcases ifs hr with ⟨h7,hr⟩|⟨h7,hr⟩
          · have T:=an h7 T
            refine wa_ T (g:=?_)
            apply TX.vt (α:=(Nat × Nat)) e_c 7 1 rfl
            repeat exact sd T
            with_reducible apply TX.here
            refine wa_ T (g:=?_)
            apply TX.vt (α:=(Nat × Nat)) e_c 8 1 rfl
            repeat exact sd T
            with_reducible apply TX.here
            refine wa_ T (g:=?_)
            apply TX.vt (α:=(Nat × Nat)) e_c 9 1 rfl
            repeat exact sd T
            with_reducible apply TX.here
            refine wa_ T (g:=?_)
            obtain ⟨v67,h68,hr⟩:=bs hr
            refine TX.loopE (step:=law04_PulseDivides_l1 v1 v2) (x:=(([] : List (Nat × Nat)),([] : List (Nat × Nat)),([] : List (Nat × Nat)),0)) h68 (fun (v8,v9,v10,v11)=>⟨.list 2 (v1.map e_ii) :: .list 2 (v2.map e_ii) :: .junk :: .junk :: .junk :: .fptr true [.v (.int .i64 v3),.v (.int .i64 v4)] 0 :: .junk :: .lsl 0 0 v8.length :: .lsl 1 0 v9.length :: .lsl 2 0 v10.length :: .v (.int .i64 v11) :: .junk :: .junk :: .junk :: .junk :: .junk :: .junk :: .junk :: .junk :: .junk :: .junk :: .junk :: .junk :: .junk :: .junk :: .junk :: .junk :: .junk :: .junk :: .junk :: .junk :: .junk :: .junk :: .junk :: .junk :: .junk :: .junk :: .junk :: .junk :: .junk :: .junk :: .junk :: .junk :: .junk :: .junk :: .junk :: .junk :: .junk :: .junk :: .junk :: .junk :: .junk :: .junk :: .junk :: .junk :: .junk :: .junk :: .junk :: .junk :: .junk :: .junk :: .junk :: .junk :: .junk :: .junk :: .junk :: .junk :: .junk :: .junk :: .junk :: .junk :: .junk :: .junk :: .junk :: .junk :: .junk :: .junk :: .junk :: .junk :: .junk :: .junk :: .junk :: .junk :: .junk :: .junk :: .junk :: .junk :: .junk :: .junk :: .junk :: .junk :: .junk :: .junk :: .junk :: .junk :: .junk :: .junk :: .junk :: .junk :: .junk :: .junk :: .junk :: .junk :: .junk :: .junk :: .junk :: .junk :: .junk :: .junk :: .junk :: .junk :: .junk :: .junk :: .junk :: .junk :: .junk :: .junk :: .junk :: .junk :: .junk :: .junk :: .junk :: .junk :: .junk :: .junk :: .junk :: .junk :: .junk :: .junk :: .junk :: .junk :: .junk :: .junk :: .junk :: .junk :: .junk :: .junk :: .junk :: .junk :: .junk :: .junk :: .junk :: .junk :: .junk :: .junk :: .junk :: .junk :: .junk :: .junk :: .junk :: .junk :: .junk :: .junk :: .junk :: .junk :: .junk :: .junk :: .junk :: .junk :: .junk :: .junk :: .junk :: .junk :: .junk :: .junk :: .junk :: .junk :: .junk :: .junk :: .junk :: .junk :: .junk :: .junk :: .junk :: .junk :: .junk :: .junk :: .junk :: .junk :: .junk :: .junk :: .junk :: .junk :: .junk :: .junk :: .junk :: .junk :: .junk :: .junk :: .junk :: .junk :: .junk :: .junk :: .junk :: .junk :: .junk :: .junk :: .junk :: .junk :: .junk :: .junk :: .junk :: .junk :: .junk :: .junk :: .junk :: .junk :: .junk :: .junk :: .junk :: .junk :: .junk :: .junk :: .junk :: .junk :: .junk :: .junk :: .junk :: .junk :: .junk :: .junk :: .junk :: .junk :: .junk :: .junk :: .junk :: .junk :: .junk :: .junk :: .junk :: .junk :: .junk :: .junk :: .junk :: .junk :: .junk :: .junk :: .junk :: .junk :: .junk :: .junk :: .junk :: .junk :: .junk :: .junk :: .junk :: .junk :: .junk :: .junk :: .junk :: .junk :: .junk :: .junk :: .junk :: .junk :: .junk :: .junk :: .junk :: .junk :: .junk :: [],[.rows 1 (v8.map e_c),.rows 1 (v9.map e_c),.rows 1 (v10.map e_c)]⟩) (fun e=>match e with|(.inl _)=>(.ret,⟨.junk :: .junk :: .junk :: .junk :: .junk :: .junk :: .v (.bool true) :: .junk :: .junk :: .junk :: .junk :: .junk :: .junk :: .junk :: .junk :: .junk :: .junk :: .junk :: .junk :: .junk :: .junk :: .junk :: .junk :: .junk :: .junk :: .junk :: .junk :: .junk :: .junk :: .junk :: .junk :: .junk :: .junk :: .junk :: .junk :: .junk :: .junk :: .junk :: .junk :: .junk :: .junk :: .junk :: .junk :: .junk :: .junk :: .junk :: .junk :: .junk :: .junk :: .junk :: .junk :: .junk :: .junk :: .junk :: .junk :: .junk :: .junk :: .junk :: .junk :: .junk :: .junk :: .junk :: .junk :: .junk :: .junk :: .junk :: .junk :: .junk :: .junk :: .junk :: .junk :: .junk :: .junk :: .junk :: .junk :: .junk :: .junk :: .junk :: .junk :: .junk :: .junk :: .junk :: .junk :: .junk :: .junk :: .junk :: .junk :: .junk :: .junk :: .junk :: .junk :: .junk :: .junk :: .junk :: .junk :: .junk :: .junk :: .junk :: .junk :: .junk :: .junk :: .junk :: .junk :: .junk :: .junk :: .junk :: .junk :: .junk :: .junk :: .junk :: .junk :: .junk :: .junk :: .junk :: .junk :: .junk :: .junk :: .junk :: .junk :: .junk :: .junk :: .junk :: .junk :: .junk :: .junk :: .junk :: .junk :: .junk :: .junk :: .junk :: .junk :: .junk :: .junk :: .junk :: .junk :: .junk :: .junk :: .junk :: .junk :: .junk :: .junk :: .junk :: .junk :: .junk :: .junk :: .junk :: .junk :: .junk :: .junk :: .junk :: .junk :: .junk :: .junk :: .junk :: .junk :: .junk :: .junk :: .junk :: .junk :: .junk :: .junk :: .junk :: .junk :: .junk :: .junk :: .junk :: .junk :: .junk :: .junk :: .junk :: .junk :: .junk :: .junk :: .junk :: .junk :: .junk :: .junk :: .junk :: .junk :: .junk :: .junk :: .junk :: .junk :: .junk :: .junk :: .junk :: .junk :: .junk :: .junk :: .junk :: .junk :: .junk :: .junk :: .junk :: .junk :: .junk :: .junk :: .junk :: .junk :: .junk :: .junk :: .junk :: .junk :: .junk :: .junk :: .junk :: .junk :: .junk :: .junk :: .junk :: .junk :: .junk :: .junk :: .junk :: .junk :: .junk :: .junk :: .junk :: .junk :: .junk :: .junk :: .junk :: .junk :: .junk :: .junk :: .junk :: .junk :: .junk :: .junk :: .junk :: .junk :: .junk :: .junk :: .junk :: .junk :: .junk :: .junk :: .junk :: .junk :: .junk :: .junk :: .junk :: .junk :: .junk :: .junk :: .junk :: .junk :: .junk :: .junk :: .junk :: .junk :: .junk :: .junk :: .junk :: .junk :: .junk :: .junk :: .junk :: .junk :: .junk :: [],[]⟩)|(.inr (v38,v39,v40))=>(.exit 0,⟨.junk :: .junk :: .junk :: .junk :: .junk :: .fptr true [.v (.int .i64 v3),.v (.int .i64 v4)] 0 :: .junk :: .lsl 0 0 v38.length :: .lsl 1 0 v39.length :: .lsl 2 0 v40.length :: .junk :: .junk :: .junk :: .junk :: .junk :: .junk :: .junk :: .junk :: .junk :: .junk :: .junk :: .junk :: .junk :: .junk :: .junk :: .junk :: .junk :: .junk :: .junk :: .junk :: .junk :: .junk :: .junk :: .junk :: .junk :: .junk :: .junk :: .junk :: .junk :: .junk :: .junk :: .junk :: .junk :: .junk :: .junk :: .junk :: .junk :: .junk :: .junk :: .junk :: .junk :: .junk :: .junk :: .junk :: .junk :: .junk :: .junk :: .junk :: .junk :: .junk :: .junk :: .junk :: .junk :: .junk :: .junk :: .junk :: .junk :: .junk :: .junk :: .junk :: .junk :: .junk :: .junk :: .junk :: .junk :: .junk :: .junk :: .junk :: .junk :: .junk :: .junk :: .junk :: .junk :: .junk :: .junk :: .junk :: .junk :: .junk :: .junk :: .junk :: .junk :: .junk :: .junk :: .junk :: .junk :: .junk :: .junk :: .junk :: .junk :: .junk :: .junk :: .junk :: .junk :: .junk :: .junk :: .junk :: .junk :: .junk :: .junk :: .junk :: .junk :: .junk :: .junk :: .junk :: .junk :: .junk :: .junk :: .junk :: .junk :: .junk :: .junk :: .junk :: .junk :: .junk :: .junk :: .junk :: .junk :: .junk :: .junk :: .junk :: .junk :: .junk :: .junk :: .junk :: .junk :: .junk :: .junk :: .junk :: .junk :: .junk :: .junk :: .junk :: .junk :: .junk :: .junk :: .junk :: .junk :: .junk :: .junk :: .junk :: .junk :: .junk :: .junk :: .junk :: .junk :: .junk :: .junk :: .junk :: .junk :: .junk :: .junk :: .junk :: .junk :: .junk :: .junk :: .junk :: .junk :: .junk :: .junk :: .junk :: .junk :: .junk :: .junk :: .junk :: .junk :: .junk :: .junk :: .junk :: .junk :: .junk :: .junk :: .junk :: .junk :: .junk :: .junk :: .junk :: .junk :: .junk :: .junk :: .junk :: .junk :: .junk :: .junk :: .junk :: .junk :: .junk :: .junk :: .junk :: .junk :: .junk :: .junk :: .junk :: .junk :: .junk :: .junk :: .junk :: .junk :: .junk :: .junk :: .junk :: .junk :: .junk :: .junk :: .junk :: .junk :: .junk :: .junk :: .junk :: .junk :: .junk :: .junk :: .junk :: .junk :: .junk :: .junk :: .junk :: .junk :: .junk :: .junk :: .junk :: .junk :: .junk :: .junk :: .junk :: .junk :: .junk :: .junk :: .junk :: .junk :: .junk :: .junk :: .junk :: .junk :: .junk :: .junk :: .junk :: .junk :: .junk :: .junk :: .junk :: .junk :: .junk :: .junk :: .junk :: .junk :: .junk :: .junk :: .junk :: .junk :: .junk :: [],[.rows 1 (v38.map e_c),.rows 1 (v39.map e_c),.rows 1 (v40.map e_c)]⟩)) ?_ ?_ ?_ ?_
            · rintro ⟨v8,v9,v10,v11⟩ v0 hr
              dsimp only [law04_PulseDivides_l1] at hr
              try dsimp only
              refine wc_ T (g:=?_)
              rcases ifs hr with ⟨h38,hr⟩|⟨h38,hr⟩
              · have T:=an h38 T
                refine wa_ T (g:=?_)
                obtain ⟨⟨v41,v42⟩,h39,hr⟩:=bs hr
                try dsimp only at hr
                have h39m:=tidx_map (f:=e_ii) h39
                have h39l:=getI_lt h39
                try simp only [List.length_set] at h39l
                have h39a:=getI_at h39
                repeat (first|(with_reducible first|refine mv ?_|refine TO.nil ?_)|((with_reducible first|apply TO.mv|apply TO.len|apply TO.bin);(repeat (focus (show _ = _;first|exact k1 rfl|exact k2 rfl|(simp only [zz,y31,e_c,e_ii,Nat.reduceAdd,Nat.reduceMul,Nat.reduceLeDiff,Nat.reduceEqDiff,tlen,h1,h2,h3,h5,h7,h38,h39m,h39l,h39a]<;>exact rfl)|exact rfl)));(with_reducible apply TO.here))|((with_reducible apply TX.region);(focus (simp only [zl]<;>exact rfl));(focus rfl);(try dsimp only))|with_reducible refine TD.nil ?_|((with_reducible first|apply TD.ia|apply TD.ld|apply TD.al|apply TD.sv);(repeat (focus (show _ = _;first|exact k1 rfl|exact k2 rfl|(simp only [zz,y31,e_c,e_ii,Nat.reduceAdd,Nat.reduceMul,Nat.reduceLeDiff,Nat.reduceEqDiff,tindexAddr,Nat.zero_add,tload,rowOf,partT,List.getElem?_map,h1,h2,h3,h5,h7,h38,h39m,h39l,h39a]<;>exact rfl)|exact rfl)));(with_reducible refine TD.here ?_))|((with_reducible apply TD.ldF);(focus decide +kernel);(repeat (focus (show _ = _;first|exact k1 rfl|exact k2 rfl|(simp only [zz,y31,e_c,e_ii,Nat.reduceAdd,Nat.reduceMul,Nat.reduceLeDiff,Nat.reduceEqDiff,tindexAddr,Nat.zero_add,tload,rowOf,partT,List.getElem?_map,h1,h2,h3,h5,h7,h38,h39m,h39l,h39a]<;>exact rfl)|exact rfl)));(with_reducible refine TD.here ?_))|((with_reducible apply TX.drawn);(focus decide +kernel);(focus (simp only [zl]<;>exact rfl));(focus exact rfl);(try dsimp only))|((with_reducible apply TX.cond_true);(focus rfl);(focus (first|rfl|(simp only [z1,zn,h1,h2,h3,h5,h7,h38,h39m,h39l,h39a];done))))|((with_reducible apply TX.cond_false);(focus rfl);(focus (first|rfl|(simp only [z1,zn,h1,h2,h3,h5,h7,h38,h39m,h39l,h39a];done))))|fail)
                rcases ifs hr with ⟨h40,hr⟩|⟨h40,hr⟩
                · have T:=an h39m T
                  have T:=an h39l T
                  have T:=an h39a T
                  have T:=an h40 T
                  refine wa_ T (g:=?_)
                  obtain ⟨⟨v43,v44⟩,h41,hr⟩:=bs hr
                  try dsimp only at hr
                  have h41m:=tidx_map (f:=e_ii) h41
                  have h41l:=getI_lt h41
                  try simp only [List.length_set] at h41l
                  have h41a:=getI_at h41
                  repeat (first|(with_reducible first|refine mv ?_|refine TO.nil ?_)|((with_reducible first|apply TO.ia|apply TO.ld|apply TO.sv|apply TO.ia);(repeat (focus (show _ = _;first|exact k1 rfl|exact k2 rfl|(simp only [zz,y31,e_c,e_ii,Nat.reduceAdd,Nat.reduceMul,Nat.reduceLeDiff,Nat.reduceEqDiff,tindexAddr,Nat.zero_add,tload,rowOf,partT,List.getElem?_map,z5,Int.reduceToNat,Int.reduceLE,Int.reduceLT,Int.cast_ofNat_Int,h1,h2,h3,h5,h7,h38,h39m,h39l,h39a,h40,h41m,h41l,h41a]<;>exact rfl)|exact rfl)));(with_reducible apply TO.here))|((with_reducible apply TX.region);(focus (simp only [zl]<;>exact rfl));(focus rfl);(try dsimp only))|fail)
                  obtain ⟨v45,h42,hr⟩:=bs hr
                  have T:=an h41m T
                  have T:=an h41l T
                  have T:=an h41a T
                  apply TO.cal (wn T) rfl goFn20 (Spec.ov (base_Within_spec h42) (by decide)) rfl rfl rfl
                  repeat exact sd T
                  refine wa_ T (g:=?_)
                  apply TO.pop1 (wn T) (pop_not rfl)
                  repeat exact sd T
                  refine wa_ T (g:=?_)
                  rcases ifs hr with ⟨h43,hr⟩|⟨h43,hr⟩
                  · repeat (first|(with_reducible first|refine mv ?_|refine TO.nil ?_)|((with_reducible first|apply TO.ia|apply TO.ld);(repeat (focus (show _ = _;first|exact k1 rfl|exact k2 rfl|(simp only [zz,y31,e_c,e_ii,Nat.reduceAdd,Nat.reduceMul,Nat.reduceLeDiff,Nat.reduceEqDiff,tindexAddr,z5,Int.reduceToNat,Int.reduceLE,Int.reduceLT,Int.cast_ofNat_Int,tload,rowOf,partT,List.getElem?_map,h1,h2,h3,h5,h7,h38,h39m,h39l,h39a,h40,h41m,h41l,h41a,h43]<;>exact rfl)|exact rfl)));(with_reducible apply TO.here))|((with_reducible apply TX.region);(focus (simp only [zl]<;>exact rfl));(focus rfl);(try dsimp only))|fail)
                    obtain ⟨v46,h44,hr⟩:=bs hr
                    have T:=an h43 T
                    apply TO.cal (wn T) rfl goFn20 (Spec.ov (base_Within_spec h44) (by decide)) rfl rfl rfl
                    repeat exact sd T
                    refine wa_ T (g:=?_)
                    apply TO.pop1 (wn T) (pop_not rfl)
                    repeat exact sd T
                    refine wa_ T (g:=?_)
                    rcases ifs hr with ⟨h45,hr⟩|⟨h45,hr⟩
                    · repeat (first|(with_reducible first|refine mv ?_|refine TO.nil ?_)|((with_reducible first|apply TO.ia|apply TO.ld);(repeat (focus (show _ = _;first|exact k1 rfl|exact k2 rfl|(simp only [zz,y31,e_c,e_ii,Nat.reduceAdd,Nat.reduceMul,Nat.reduceLeDiff,Nat.reduceEqDiff,tindexAddr,z5,Int.reduceToNat,Int.reduceLE,Int.reduceLT,Int.cast_ofNat_Int,tload,rowOf,partT,List.getElem?_map,h1,h2,h3,h5,h7,h38,h39m,h39l,h39a,h40,h41m,h41l,h41a,h43,h45]<;>exact rfl)|exact rfl)));(with_reducible apply TO.here))|((with_reducible apply TX.region);(focus (simp only [zl]<;>exact rfl));(focus rfl);(try dsimp only))|fail)
                      obtain ⟨v47,h46,hr⟩:=bs hr
                      have T:=an h45 T
                      apply TO.cal (wn T) rfl goFn20 (Spec.ov (base_Within_spec h46) (by decide)) rfl rfl rfl
                      repeat exact sd T
                      refine wa_ T (g:=?_)
                      apply TO.pop1 (wn T) (pop_not rfl)
                      repeat exact sd T
                      refine wa_ T (g:=?_)
                      rcases ifs hr with ⟨h47,hr⟩|⟨h47,hr⟩
                      · repeat (first|(with_reducible first|refine mv ?_|refine TO.nil ?_)|((with_reducible first|apply TO.ia|apply TO.ld);(repeat (focus (show _ = _;first|exact k1 rfl|exact k2 rfl|(simp only [zz,y31,e_c,e_ii,Nat.reduceAdd,Nat.reduceMul,Nat.reduceLeDiff,Nat.reduceEqDiff,tindexAddr,z5,Int.reduceToNat,Int.reduceLE,Int.reduceLT,Int.cast_ofNat_Int,tload,rowOf,partT,List.getElem?_map,h1,h2,h3,h5,h7,h38,h39m,h39l,h39a,h40,h41m,h41l,h41a,h43,h45,h47]<;>exact rfl)|exact rfl)));(with_reducible apply TO.here))|((with_reducible apply TX.region);(focus (simp only [zl]<;>exact rfl));(focus rfl);(try dsimp only))|fail)
                        obtain ⟨v48,h48,hr⟩:=bs hr
                        have T:=an h47 T
                        apply TO.cal (wn T) rfl goFn20 (Spec.ov (base_Within_spec h48) (by decide)) rfl rfl rfl
                        repeat exact sd T
                        refine wa_ T (g:=?_)
                        apply TO.pop1 (wn T) (pop_not rfl)
                        repeat exact sd T
                        refine wa_ T (g:=?_)
                        rcases ifs hr with ⟨h49,hr⟩|⟨h49,hr⟩
                        · repeat (first|(with_reducible first|refine mv ?_|refine TO.nil ?_)|((with_reducible first|apply TO.mv|apply TO.ia|apply TO.ld);(repeat (focus (show _ = _;first|exact k1 rfl|exact k2 rfl|(simp only [zz,y31,e_c,e_ii,Nat.reduceAdd,Nat.reduceMul,Nat.reduceLeDiff,Nat.reduceEqDiff,tindexAddr,z5,Int.reduceToNat,Int.reduceLE,Int.reduceLT,Int.cast_ofNat_Int,tload,rowOf,partT,List.getElem?_map,h1,h2,h3,h5,h7,h38,h39m,h39l,h39a,h40,h41m,h41l,h41a,h43,h45,h47,h49]<;>exact rfl)|exact rfl)));(with_reducible apply TO.here))|((with_reducible apply TX.region);(focus (simp only [zl]<;>exact rfl));(focus rfl);(try dsimp only))|((with_reducible apply TX.cond_true);(focus rfl);(focus (first|rfl|(simp only [z1,zn,h1,h2,h3,h5,h7,h38,h39m,h39l,h39a,h40,h41m,h41l,h41a,h43,h45,h47,h49];done))))|((with_reducible apply TX.cond_false);(focus rfl);(focus (first|rfl|(simp only [z1,zn,h1,h2,h3,h5,h7,h38,h39m,h39l,h39a,h40,h41m,h41l,h41a,h43,h45,h47,h49];done))))|fail)
                          obtain ⟨⟨v49,v50⟩,h50,hr⟩:=bs hr
                          try dsimp only at hr
                          have T:=an h49 T
                          apply TO.cal (wn T) rfl goFn21 (Spec.ov (base_Sample_spec h50) (by decide)) rfl rfl rfl
                          repeat exact sd T
                          refine wa_ T (g:=?_)
                          apply TO.bm e_c ([(v49,v50)] : List (Nat × Nat)) (wn T) rfl (by simp only [zz,y31,e_c,e_ii,Nat.reduceAdd,Nat.reduceMul,Nat.reduceLeDiff,Nat.reduceEqDiff,tslice,tparts,h1,h2,h3,h5,h7,h38,h39m,h39l,h39a,h40,h41m,h41l,h41a,h43,h45,h47,h49];exact rfl) rfl
                          repeat exact sd T
                          refine wa_ T (g:=?_)
                          obtain ⟨v51,h51,hr⟩:=bs hr
                          apply TO.ap (f:=e_c) (xs:=v8) (ys:=([(v49,v50)] : List (Nat × Nat))) (wn T) rfl rfl (by first|rfl|simp only [List.length_set]) rfl rfl so31 ni31 zc49 rfl (by rw [by49];exact h51) (fun _=>⟨rfl,rfl,rfl⟩)
                          repeat exact sd T
                          repeat (first|(with_reducible first|refine mv ?_|refine TO.nil ?_)|((with_reducible first|apply TO.asg|apply TO.mv|apply TO.ia|apply TO.ld);(repeat (focus (show _ = _;first|exact k1 rfl|exact k2 rfl|(simp only [zz,y31,e_c,e_ii,Nat.reduceAdd,Nat.reduceMul,Nat.reduceLeDiff,Nat.reduceEqDiff,tindexAddr,z5,Int.reduceToNat,Int.reduceLE,Int.reduceLT,Int.cast_ofNat_Int,tload,rowOf,partT,List.getElem?_map,h1,h2,h3,h5,h7,h38,h39m,h39l,h39a,h40,h41m,h41l,h41a,h43,h45,h47,h49]<;>exact rfl)|exact rfl)));(with_reducible apply TO.here))|((with_reducible apply TX.region);(focus (simp only [zl]<;>exact rfl));(focus rfl);(try dsimp only))|fail)
                          obtain ⟨⟨v52,v53⟩,h52,hr⟩:=bs hr
                          try dsimp only at hr
                          apply TO.cal (wn T) rfl goFn21 (Spec.ov (base_Sample_spec h52) (by decide)) rfl rfl rfl
                          repeat exact sd T
                          refine wa_ T (g:=?_)
                          apply TO.bm e_c ([(v52,v53)] : List (Nat × Nat)) (wn T) rfl (by simp only [zz,y31,e_c,e_ii,Nat.reduceAdd,Nat.reduceMul,Nat.reduceLeDiff,Nat.reduceEqDiff,tslice,tparts,h1,h2,h3,h5,h7,h38,h39m,h39l,h39a,h40,h41m,h41l,h41a,h43,h45,h47,h49];exact rfl) rfl
                          repeat exact sd T
                          refine wa_ T (g:=?_)
                          obtain ⟨v54,h53,hr⟩:=bs hr
                          apply TO.ap (f:=e_c) (xs:=v9) (ys:=([(v52,v53)] : List (Nat × Nat))) (wn T) rfl rfl (by first|rfl|simp only [List.length_set]) rfl rfl so31 ni31 zc49 rfl (by rw [by49];exact h53) (fun _=>⟨rfl,rfl,rfl⟩)
                          repeat exact sd T
                          repeat (first|(with_reducible first|refine mv ?_|refine TO.nil ?_)|((with_reducible first|apply TO.asg|apply TO.mv|apply TO.ia|apply TO.ld|apply TO.bin);(repeat (focus (show _ = _;first|exact k1 rfl|exact k2 rfl|(simp only [zz,y31,e_c,e_ii,Nat.reduceAdd,Nat.reduceMul,Nat.reduceLeDiff,Nat.reduceEqDiff,tindexAddr,z5,Int.reduceToNat,Int.reduceLE,Int.reduceLT,Int.cast_ofNat_Int,tload,rowOf,partT,List.getElem?_map,h1,h2,h3,h5,h7,h38,h39m,h39l,h39a,h40,h41m,h41l,h41a,h43,h45,h47,h49]<;>exact rfl)|exact rfl)));(with_reducible apply TO.here))|((with_reducible apply TX.region);(focus (simp only [zl]<;>exact rfl));(focus rfl);(try dsimp only))|fail)
                          apply TO.pop1 (wn T) (cvt_int_float un3 un51 rfl)
                          repeat exact sd T
                          repeat (first|(with_reducible first|refine mv ?_|refine TO.nil ?_)|((with_reducible first|apply TO.ia|apply TO.ld|apply TO.bin);(repeat (focus (show _ = _;first|exact k1 rfl|exact k2 rfl|(simp only [zz,y31,e_c,e_ii,Nat.reduceAdd,Nat.reduceMul,Nat.reduceLeDiff,Nat.reduceEqDiff,tindexAddr,z5,Int.reduceToNat,Int.reduceLE,Int.reduceLT,Int.cast_ofNat_Int,tload,rowOf,partT,List.getElem?_map,h1,h2,h3,h5,h7,h38,h39m,h39l,h39a,h40,h41m,h41l,h41a,h43,h45,h47,h49]<;>exact rfl)|exact rfl)));(with_reducible apply TO.here))|((with_reducible apply TX.region);(focus (simp only [zl]<;>exact rfl));(focus rfl);(try dsimp only))|fail)
                          apply TO.pop1 (wn T) (cvt_int_float un3 un51 rfl)
                          repeat exact sd T
                          refine wa_ T (g:=?_)
                          apply TO.pop1 (wn T) (pop_complex rfl rfl)
                          repeat exact sd T
                          refine wa_ T (g:=?_)
                          apply TO.bm e_c ([((FloatKind.f32.nearest (IntKind.i64.wrap (v43 + v41))),(FloatKind.f32.nearest (IntKind.i64.wrap (v44 + v42))))] : List (Nat × Nat)) (wn T) rfl (by simp only [zz,y31,e_c,e_ii,Nat.reduceAdd,Nat.reduceMul,Nat.reduceLeDiff,Nat.reduceEqDiff,tslice,tparts,h1,h2,h3,h5,h7,h38,h39m,h39l,h39a,h40,h41m,h41l,h41a,h43,h45,h47,h49];exact rfl) rfl
                          repeat exact sd T
                          refine wa_ T (g:=?_)
                          obtain ⟨v55,h54,hr⟩:=bs hr
                          apply TO.ap (f:=e_c) (xs:=v10) (ys:=([((FloatKind.f32.nearest (IntKind.i64.wrap (v43 + v41))),(FloatKind.f32.nearest (IntKind.i64.wrap (v44 + v42))))] : List (Nat × Nat))) (wn T) rfl rfl (by first|rfl|simp only [List.length_set]) rfl rfl so31 ni31 zc49 rfl (by rw [by49];exact h54) (fun _=>⟨rfl,rfl,rfl⟩)
                          repeat exact sd T
                          refine wa_ T (g:=?_)
                          cases hr
                          refine ⟨rfl,?_⟩
                          exact wk_ T [some 0,some 1,some 2] rfl (.rows (.rows (.rows .nil rfl rfl) rfl rfl) rfl rfl)
                        · have T:=an h49 T
                          refine wa_ T (g:=?_)
                          cases hr
                          refine ⟨rfl,?_⟩
                          exact wk_ T [] rfl .nil
                      · have T:=an h47 T
                        refine wa_ T (g:=?_)
                        cases hr
                        refine ⟨rfl,?_⟩
                        exact wk_ T [] rfl .nil
                    · have T:=an h45 T
                      refine wa_ T (g:=?_)
                      cases hr
                      refine ⟨rfl,?_⟩
                      exact wk_ T [] rfl .nil
                  · have T:=an h43 T
                    refine wa_ T (g:=?_)
                    cases hr
                    refine ⟨rfl,?_⟩
                    exact wk_ T [] rfl .nil
                · repeat (first|(with_reducible first|refine mv ?_|refine TO.nil ?_)|((with_reducible first|apply TO.ia|apply TO.ld);(repeat (focus (show _ = _;first|exact k1 rfl|exact k2 rfl|(simp only [zz,y31,e_c,e_ii,Nat.reduceAdd,Nat.reduceMul,Nat.reduceLeDiff,Nat.reduceEqDiff,tindexAddr,z5,Int.reduceToNat,Int.reduceLE,Int.reduceLT,Int.cast_ofNat_Int,tload,rowOf,partT,List.getElem?_map,h1,h2,h3,h5,h7,h38,h39m,h39l,h39a,h40]<;>exact rfl)|exact rfl)));(with_reducible apply TO.here))|((with_reducible apply TX.region);(focus (simp only [zl]<;>exact rfl));(focus rfl);(try dsimp only))|((with_reducible apply TX.cond_true);(focus rfl);(focus (first|rfl|(simp only [z1,zn,h1,h2,h3,h5,h7,h38,h39m,h39l,h39a,h40];done))))|((with_reducible apply TX.cond_false);(focus rfl);(focus (first|rfl|(simp only [z1,zn,h1,h2,h3,h5,h7,h38,h39m,h39l,h39a,h40];done))))|fail)
                  obtain ⟨v56,h55,hr⟩:=bs hr
                  have T:=an h39m T
                  have T:=an h39l T
                  have T:=an h39a T
                  have T:=an h40 T
                  apply TO.cal (wn T) rfl goFn20 (Spec.ov (base_Within_spec h55) (by decide)) rfl rfl rfl
                  repeat exact sd T
                  refine wa_ T (g:=?_)
                  apply TO.pop1 (wn T) (pop_not rfl)
                  repeat exact sd T
                  refine wa_ T (g:=?_)
                  rcases ifs hr with ⟨h56,hr⟩|⟨h56,hr⟩
                  · repeat (first|(with_reducible first|refine mv ?_|refine TO.nil ?_)|((with_reducible first|apply TO.ia|apply TO.ld);(repeat (focus (show _ = _;first|exact k1 rfl|exact k2 rfl|(simp only [zz,y31,e_c,e_ii,Nat.reduceAdd,Nat.reduceMul,Nat.reduceLeDiff,Nat.reduceEqDiff,tindexAddr,z5,Int.reduceToNat,Int.reduceLE,Int.reduceLT,Int.cast_ofNat_Int,tload,rowOf,partT,List.getElem?_map,h1,h2,h3,h5,h7,h38,h39m,h39l,h39a,h40,h56]<;>exact rfl)|exact rfl)));(with_reducible apply TO.here))|((with_reducible apply TX.region);(focus (simp only [zl]<;>exact rfl));(focus rfl);(try dsimp only))|fail)
                    obtain ⟨v57,h57,hr⟩:=bs hr
                    have T:=an h56 T
                    apply TO.cal (wn T) rfl goFn20 (Spec.ov (base_Within_spec h57) (by decide)) rfl rfl rfl
                    repeat exact sd T
                    refine wa_ T (g:=?_)
                    apply TO.pop1 (wn T) (pop_not rfl)
                    repeat exact sd T
                    refine wa_ T (g:=?_)
                    rcases ifs hr with ⟨h58,hr⟩|⟨h58,hr⟩
                    · repeat (first|(with_reducible first|refine mv ?_|refine TO.nil ?_)|((with_reducible first|apply TO.ia|apply TO.ld);(repeat (focus (show _ = _;first|exact k1 rfl|exact k2 rfl|(simp only [zz,y31,e_c,e_ii,Nat.reduceAdd,Nat.reduceMul,Nat.reduceLeDiff,Nat.reduceEqDiff,tindexAddr,z5,Int.reduceToNat,Int.reduceLE,Int.reduceLT,Int.cast_ofNat_Int,tload,rowOf,partT,List.getElem?_map,h1,h2,h3,h5,h7,h38,h39m,h39l,h39a,h40,h56,h58]<;>exact rfl)|exact rfl)));(with_reducible apply TO.here))|((with_reducible apply TX.region);(focus (simp only [zl]<;>exact rfl));(focus rfl);(try dsimp only))|fail)
                      obtain ⟨v58,h59,hr⟩:=bs hr
                      have T:=an h58 T
                      apply TO.cal (wn T) rfl goFn20 (Spec.ov (base_Within_spec h59) (by decide)) rfl rfl rfl
                      repeat exact sd T
                      refine wa_ T (g:=?_)
                      apply TO.pop1 (wn T) (pop_not rfl)
                      repeat exact sd T
                      refine wa_ T (g:=?_)
                      rcases ifs hr with ⟨h60,hr⟩|⟨h60,hr⟩
                      · repeat (first|(with_reducible first|refine mv ?_|refine TO.nil ?_)|((with_reducible first|apply TO.ia|apply TO.ld);(repeat (focus (show _ = _;first|exact k1 rfl|exact k2 rfl|(simp only [zz,y31,e_c,e_ii,Nat.reduceAdd,Nat.reduceMul,Nat.reduceLeDiff,Nat.reduceEqDiff,tindexAddr,z5,Int.reduceToNat,Int.reduceLE,Int.reduceLT,Int.cast_ofNat_Int,tload,rowOf,partT,List.getElem?_map,h1,h2,h3,h5,h7,h38,h39m,h39l,h39a,h40,h56,h58,h60]<;>exact rfl)|exact rfl)));(with_reducible apply TO.here))|((with_reducible apply TX.region);(focus (simp only [zl]<;>exact rfl));(focus rfl);(try dsimp only))|fail)
                        obtain ⟨v59,h61,hr⟩:=bs hr
                        have T:=an h60 T
                        apply TO.cal (wn T) rfl goFn20 (Spec.ov (base_Within_spec h61) (by decide)) rfl rfl rfl
                        repeat exact sd T
                        refine wa_ T (g:=?_)
                        apply TO.pop1 (wn T) (pop_not rfl)
                        repeat exact sd T
                        refine wa_ T (g:=?_)
                        rcases ifs hr with ⟨h62,hr⟩|⟨h62,hr⟩
                        · repeat (first|(with_reducible first|refine mv ?_|refine TO.nil ?_)|((with_reducible first|apply TO.mv|apply TO.ia|apply TO.ld);(repeat (focus (show _ = _;first|exact k1 rfl|exact k2 rfl|(simp only [zz,y31,e_c,e_ii,Nat.reduceAdd,Nat.reduceMul,Nat.reduceLeDiff,Nat.reduceEqDiff,tindexAddr,z5,Int.reduceToNat,Int.reduceLE,Int.reduceLT,Int.cast_ofNat_Int,tload,rowOf,partT,List.getElem?_map,h1,h2,h3,h5,h7,h38,h39m,h39l,h39a,h40,h56,h58,h60,h62]<;>exact rfl)|exact rfl)));(with_reducible apply TO.here))|((with_reducible apply TX.region);(focus (simp only [zl]<;>exact rfl));(focus rfl);(try dsimp only))|((with_reducible apply TX.cond_true);(focus rfl);(focus (first|rfl|(simp only [z1,zn,h1,h2,h3,h5,h7,h38,h39m,h39l,h39a,h40,h56,h58,h60,h62];done))))|((with_reducible apply TX.cond_false);(focus rfl);(focus (first|rfl|(simp only [z1,zn,h1,h2,h3,h5,h7,h38,h39m,h39l,h39a,h40,h56,h58,h60,h62];done))))|fail)
                          obtain ⟨⟨v60,v61⟩,h63,hr⟩:=bs hr
                          try dsimp only at hr
                          have T:=an h62 T
                          apply TO.cal (wn T) rfl goFn21 (Spec.ov (base_Sample_spec h63) (by decide)) rfl rfl rfl
                          repeat exact sd T
                          refine wa_ T (g:=?_)
                          apply TO.bm e_c ([(v60,v61)] : List (Nat × Nat)) (wn T) rfl (by simp only [zz,y31,e_c,e_ii,Nat.reduceAdd,Nat.reduceMul,Nat.reduceLeDiff,Nat.reduceEqDiff,tslice,tparts,h1,h2,h3,h5,h7,h38,h39m,h39l,h39a,h40,h56,h58,h60,h62];exact rfl) rfl
                          repeat exact sd T
                          refine wa_ T (g:=?_)
                          obtain ⟨v62,h64,hr⟩:=bs hr
                          apply TO.ap (f:=e_c) (xs:=v8) (ys:=([(v60,v61)] : List (Nat × Nat))) (wn T) rfl rfl (by first|rfl|simp only [List.length_set]) rfl rfl so31 ni31 zc49 rfl (by rw [by49];exact h64) (fun _=>⟨rfl,rfl,rfl⟩)
                          repeat exact sd T
                          repeat (first|(with_reducible first|refine mv ?_|refine TO.nil ?_)|((with_reducible first|apply TO.asg|apply TO.mv|apply TO.ia|apply TO.ld);(repeat (focus (show _ = _;first|exact k1 rfl|exact k2 rfl|(simp only [zz,y31,e_c,e_ii,Nat.reduceAdd,Nat.reduceMul,Nat.reduceLeDiff,Nat.reduceEqDiff,tindexAddr,z5,Int.reduceToNat,Int.reduceLE,Int.reduceLT,Int.cast_ofNat_Int,tload,rowOf,partT,List.getElem?_map,h1,h2,h3,h5,h7,h38,h39m,h39l,h39a,h40,h56,h58,h60,h62]<;>exact rfl)|exact rfl)));(with_reducible apply TO.here))|((with_reducible apply TX.region);(focus (simp only [zl]<;>exact rfl));(focus rfl);(try dsimp only))|fail)
                          obtain ⟨⟨v63,v64⟩,h65,hr⟩:=bs hr
                          try dsimp only at hr
                          apply TO.cal (wn T) rfl goFn21 (Spec.ov (base_Sample_spec h65) (by decide)) rfl rfl rfl
                          repeat exact sd T
                          refine wa_ T (g:=?_)
                          apply TO.bm e_c ([(v63,v64)] : List (Nat × Nat)) (wn T) rfl (by simp only [zz,y31,e_c,e_ii,Nat.reduceAdd,Nat.reduceMul,Nat.reduceLeDiff,Nat.reduceEqDiff,tslice,tparts,h1,h2,h3,h5,h7,h38,h39m,h39l,h39a,h40,h56,h58,h60,h62];exact rfl) rfl
                          repeat exact sd T
                          refine wa_ T (g:=?_)
                          obtain ⟨v65,h66,hr⟩:=bs hr
                          apply TO.ap (f:=e_c) (xs:=v9) (ys:=([(v63,v64)] : List (Nat × Nat))) (wn T) rfl rfl (by first|rfl|simp only [List.length_set]) rfl rfl so31 ni31 zc49 rfl (by rw [by49];exact h66) (fun _=>⟨rfl,rfl,rfl⟩)
                          repeat exact sd T
                          repeat (first|(with_reducible first|refine mv ?_|refine TO.nil ?_)|((with_reducible first|apply TO.asg|apply TO.mv|apply TO.ia|apply TO.ld|apply TO.bin);(repeat (focus (show _ = _;first|exact k1 rfl|exact k2 rfl|(simp only [zz,y31,e_c,e_ii,Nat.reduceAdd,Nat.reduceMul,Nat.reduceLeDiff,Nat.reduceEqDiff,tindexAddr,z5,Int.reduceToNat,Int.reduceLE,Int.reduceLT,Int.cast_ofNat_Int,tload,rowOf,partT,List.getElem?_map,h1,h2,h3,h5,h7,h38,h39m,h39l,h39a,h40,h56,h58,h60,h62]<;>exact rfl)|exact rfl)));(with_reducible apply TO.here))|((with_reducible apply TX.region);(focus (simp only [zl]<;>exact rfl));(focus rfl);(try dsimp only))|fail)
                          apply TO.pop1 (wn T) (cvt_int_float un3 un51 rfl)
                          repeat exact sd T
                          repeat (first|(with_reducible first|refine mv ?_|refine TO.nil ?_)|((with_reducible first|apply TO.ia|apply TO.ld|apply TO.bin);(repeat (focus (show _ = _;first|exact k1 rfl|exact k2 rfl|(simp only [zz,y31,e_c,e_ii,Nat.reduceAdd,Nat.reduceMul,Nat.reduceLeDiff,Nat.reduceEqDiff,tindexAddr,z5,Int.reduceToNat,Int.reduceLE,Int.reduceLT,Int.cast_ofNat_Int,tload,rowOf,partT,List.getElem?_map,h1,h2,h3,h5,h7,h38,h39m,h39l,h39a,h40,h56,h58,h60,h62]<;>exact rfl)|exact rfl)));(with_reducible apply TO.here))|((with_reducible apply TX.region);(focus (simp only [zl]<;>exact rfl));(focus rfl);(try dsimp only))|fail)
                          apply TO.pop1 (wn T) (cvt_int_float un3 un51 rfl)
                          repeat exact sd T
                          refine wa_ T (g:=?_)
                          apply TO.pop1 (wn T) (pop_complex rfl rfl)
                          repeat exact sd T
                          refine wa_ T (g:=?_)
                          apply TO.bm e_c ([((FloatKind.f32.nearest (IntKind.i64.wrap (0 + v41))),(FloatKind.f32.nearest (IntKind.i64.wrap (0 + v42))))] : List (Nat × Nat)) (wn T) rfl (by simp only [zz,y31,e_c,e_ii,Nat.reduceAdd,Nat.reduceMul,Nat.reduceLeDiff,Nat.reduceEqDiff,tslice,tparts,h1,h2,h3,h5,h7,h38,h39m,h39l,h39a,h40,h56,h58,h60,h62];exact rfl) rfl
                          repeat exact sd T
                          refine wa_ T (g:=?_)
                          obtain ⟨v66,h67,hr⟩:=bs hr
                          apply TO.ap (f:=e_c) (xs:=v10) (ys:=([((FloatKind.f32.nearest (IntKind.i64.wrap (0 + v41))),(FloatKind.f32.nearest (IntKind.i64.wrap (0 + v42))))] : List (Nat × Nat))) (wn T) rfl rfl (by first|rfl|simp only [List.length_set]) rfl rfl so31 ni31 zc49 rfl (by rw [by49];exact h67) (fun _=>⟨rfl,rfl,rfl⟩)
                          repeat exact sd T
                          refine wa_ T (g:=?_)
                          cases hr
                          refine ⟨rfl,?_⟩
                          exact wk_ T [some 0,some 1,some 2] rfl (.rows (.rows (.rows .nil rfl rfl) rfl rfl) rfl rfl)
                        · have T:=an h62 T
                          refine wa_ T (g:=?_)
                          cases hr
                          refine ⟨rfl,?_⟩
                          exact wk_ T [] rfl .nil
                      · have T:=an h60 T
                        refine wa_ T (g:=?_)
                        cases hr
                        refine ⟨rfl,?_⟩
                        exact wk_ T [] rfl .nil
                    · have T:=an h58 T
                      refine wa_ T (g:=?_)
                      cases hr
                      refine ⟨rfl,?_⟩
                      exact wk_ T [] rfl .nil
                  · have T:=an h56 T
                    refine wa_ T (g:=?_)
                    cases hr
                    refine ⟨rfl,?_⟩
                    exact wk_ T [] rfl .nil
              · have T:=an h38 T
                refine wa_ T (g:=?_)
                cases hr
                refine ⟨rfl,?_⟩
                exact wk_ T [some 0,some 1,some 2] rfl (.rows (.rows (.rows .nil rfl rfl) rfl rfl) rfl rfl)
            · intro e h;rcases e with _|e<;>cases h
            · try dsimp only
              rcases v67 with _|⟨v68,v69,v70⟩
              · try dsimp only at hr
                try dsimp only
                refine wa_ T (g:=?_)
                exact lv T hr
              · try dsimp only at hr
                try dsimp only
                repeat (first|(with_reducible first|refine mv ?_|refine TO.nil ?_)|((with_reducible first|apply TO.ia|apply TO.ld);(repeat (focus (show _ = _;first|exact k1 rfl|exact k2 rfl|(simp only [zz,y31,e_c,e_ii,Nat.reduceAdd,Nat.reduceMul,Nat.reduceLeDiff,Nat.reduceEqDiff,tindexAddr,z5,Int.reduceToNat,Int.reduceLE,Int.reduceLT,Int.cast_ofNat_Int,tload,rowOf,partT,List.getElem?_map,h1,h2,h3,h5,h7]<;>exact rfl)|exact rfl)));(with_reducible apply TO.here))|((with_reducible apply TX.region);(focus (simp only [zl]<;>exact rfl));(focus rfl);(try dsimp only))|fail)
                obtain ⟨⟨v71,v72⟩,h69,hr⟩:=bs hr
                try dsimp only at hr
                apply TO.cal (wn T) rfl goFn22 (Spec.ov (pulse_Chirp_spec h69) (by decide)) rfl rfl rfl
                repeat exact sd T
                refine wa_ T (g:=?_)
                rcases ifs hr with ⟨h70,hr⟩|⟨h70,hr⟩
                · have T:=an h70 T
                  refine wa_ T (g:=?_)
                  exact lv T hr
                · repeat (first|(with_reducible first|refine mv ?_|refine TO.nil ?_)|((with_reducible first|apply TO.mv|apply TO.len|apply TO.ia|apply TO.ld|apply TO.bin|apply TO.pk);(repeat (focus (show _ = _;first|exact k1 rfl|exact k2 rfl|(simp only [zz,y31,e_c,e_ii,Nat.reduceAdd,Nat.reduceMul,Nat.reduceLeDiff,Nat.reduceEqDiff,tlen,tindexAddr,z5,Int.reduceToNat,Int.reduceLE,Int.reduceLT,Int.cast_ofNat_Int,tload,rowOf,partT,List.getElem?_map,h1,h2,h3,h5,h7,h70]<;>exact rfl)|exact rfl)));(with_reducible apply TO.here))|((with_reducible apply TX.region);(focus (simp only [zl]<;>exact rfl));(focus rfl);(try dsimp only))|((with_reducible apply TX.cond_true);(focus rfl);(focus (first|rfl|(simp only [z1,zn,h1,h2,h3,h5,h7,h70];done))))|((with_reducible apply TX.cond_false);(focus rfl);(focus (first|rfl|(simp only [z1,zn,h1,h2,h3,h5,h7,h70];done))))|fail)
                  rcases ifs hr with ⟨h71,hr⟩|⟨h71,hr⟩
                  · have T:=an h70 T
                    have T:=an h71 T
                    refine wa_ T (g:=?_)
                    exact lv T hr
                  · have T:=an h70 T
                    have T:=an h71 T
                    refine wa_ T (g:=?_)
                    apply TO.bl e_c ([] : List (Nat × Nat)) (wn T) rfl (by simp only [zz,y31,e_c,e_ii,Nat.reduceAdd,Nat.reduceMul,Nat.reduceLeDiff,Nat.reduceEqDiff,tslice,tparts,h1,h2,h3,h5,h7,h70,h71];exact rfl) rfl rfl
                    repeat exact sd T
                    refine wa_ T (g:=?_)
                    apply TO.frz 0 rfl rfl
                    repeat exact sd T
                    refine wa_ T (g:=?_)
                    obtain ⟨v73,h72,hr⟩:=bs hr
                    apply TO.ap (f:=e_c) (xs:=([] : List (Nat × Nat))) (ys:=v68) (wn T) rfl rfl (by first|rfl|simp only [List.length_set]) rfl rfl so31 ni31 zc49 rfl (by rw [by49];exact h72) (fun _=>⟨rfl,rfl,rfl⟩)
                    repeat exact sd T
                    refine wa_ T (g:=?_)
                    apply TO.bl e_c ([] : List (Nat × Nat)) (wn T) rfl (by simp only [zz,y31,e_c,e_ii,Nat.reduceAdd,Nat.reduceMul,Nat.reduceLeDiff,Nat.reduceEqDiff,tslice,tparts,h1,h2,h3,h5,h7,h70,h71];exact rfl) rfl rfl
                    repeat exact sd T
                    refine wa_ T (g:=?_)
                    apply TO.frz 3 rfl rfl
                    repeat exact sd T
                    refine wa_ T (g:=?_)
                    obtain ⟨v74,h73,hr⟩:=bs hr
                    apply TO.ap (f:=e_c) (xs:=([] : List (Nat × Nat))) (ys:=v71) (wn T) rfl rfl (by first|rfl|simp only [List.length_set]) rfl rfl so31 ni31 zc49 rfl (by rw [by49];exact h73) (fun _=>⟨rfl,rfl,rfl⟩)
                    repeat exact sd T
                    refine wa_ T (g:=?_)
                    obtain ⟨⟨v75,v76⟩,h74,hr⟩:=bs hr
                    try dsimp only at hr
                    apply TO.lok (wn T) rfl goFn16 (Spec.ov (pulse_Swept_spec h74) (by decide)) (vw T) rfl rfl (by simp [clTB,cl,e_ff,e_c,e_ii,e_i])
                    repeat exact sd T
                    refine wa_ T (g:=?_)
                    apply TO.bl e_c ([] : List (Nat × Nat)) (wn T) rfl (by simp only [zz,y31,e_c,e_ii,Nat.reduceAdd,Nat.reduceMul,Nat.reduceLeDiff,Nat.reduceEqDiff,tslice,tparts,h1,h2,h3,h5,h7,h70,h71];exact rfl) rfl rfl
                    repeat exact sd T
                    refine wa_ T (g:=?_)
                    obtain ⟨v77,h75,hr⟩:=bs hr
                    apply TO.ap (f:=e_c) (xs:=([] : List (Nat × Nat))) (ys:=v71) (wn T) rfl rfl (by first|rfl|simp only [List.length_set]) rfl rfl so31 ni31 zc49 rfl (by rw [by49];exact h75) (fun _=>⟨rfl,rfl,rfl⟩)
                    repeat exact sd T
                    refine wa_ T (g:=?_)
                    obtain ⟨⟨v78,v79⟩,h76,hr⟩:=bs hr
                    try dsimp only at hr
                    apply TO.lok (wn T) rfl goFn16 (Spec.ov (pulse_Swept_spec h76) (by decide)) (vw T) rfl rfl (by simp [clTB,cl,e_ff,e_c,e_ii,e_i])
                    repeat exact sd T
                    refine wa_ T (g:=?_)
                    apply TO.bl e_c ([] : List (Nat × Nat)) (wn T) rfl (by simp only [zz,y31,e_c,e_ii,Nat.reduceAdd,Nat.reduceMul,Nat.reduceLeDiff,Nat.reduceEqDiff,tslice,tparts,h1,h2,h3,h5,h7,h70,h71];exact rfl) rfl rfl
                    repeat exact sd T
                    refine wa_ T (g:=?_)
                    obtain ⟨v80,h77,hr⟩:=bs hr
                    apply TO.ap (f:=e_c) (xs:=([] : List (Nat × Nat))) (ys:=v71) (wn T) rfl rfl (by first|rfl|simp only [List.length_set]) rfl rfl so31 ni31 zc49 rfl (by rw [by49];exact h77) (fun _=>⟨rfl,rfl,rfl⟩)
                    repeat exact sd T
                    refine wa_ T (g:=?_)
                    obtain ⟨⟨v81,v82⟩,h78,hr⟩:=bs hr
                    try dsimp only at hr
                    apply TO.lok (wn T) rfl goFn16 (Spec.ov (pulse_Swept_spec h78) (by decide)) (vw T) rfl rfl (by simp [clTB,cl,e_ff,e_c,e_ii,e_i])
                    repeat exact sd T
                    refine wa_ T (g:=?_)
                    rcases ifs hr with ⟨h79,hr⟩|⟨h79,hr⟩
                    · have T:=an h79 T
                      refine wa_ T (g:=?_)
                      exact lv T hr
                    · have T:=an h79 T
                      refine wa_ T (g:=?_)
                      rcases ifs hr with ⟨h80,hr⟩|⟨h80,hr⟩
                      · have T:=an h80 T
                        refine wa_ T (g:=?_)
                        exact lv T hr
                      · have T:=an h80 T
                        refine wa_ T (g:=?_)
                        rcases ifs hr with ⟨h81,hr⟩|⟨h81,hr⟩
                        · have T:=an h81 T
                          refine wa_ T (g:=?_)
                          exact lv T hr
                        · have T:=an h81 T
                          refine wc_ T (g:=?_)
                          rcases ifs hr with ⟨h82,hr⟩|⟨h82,hr⟩
                          · have T:=an h82 T
                            refine wa_ T (g:=?_)
                            exact lv T hr
                          · have T:=an h82 T
                            refine wc_ T (g:=?_)
                            rcases ifs hr with ⟨h83,hr⟩|⟨h83,hr⟩
                            · have T:=an h83 T
                              refine wa_ T (g:=?_)
                              exact lv T hr
                            · have T:=an h83 T
                              refine wc_ T (g:=?_)
                              rcases ifs hr with ⟨h84,hr⟩|⟨h84,hr⟩
                              · have T:=an h84 T
                                refine wa_ T (g:=?_)
                                exact lv T hr
                              · have T:=an h84 T
                                refine wa_ T (g:=?_)
                                obtain ⟨v100,h99,hr⟩:=bs hr
                                refine TX.loopE (step:=law04_PulseDivides_l2 v75 v78 v81) (x:=0) h99 (fun v83=>⟨.junk :: .junk :: .junk :: .junk :: .junk :: .junk :: .junk :: .list 1 (v68.map e_c) :: .junk :: .junk :: .junk :: .junk :: .junk :: .list 1 (v71.map e_c) :: .junk :: .lsl 0 0 v75.length :: .junk :: .lsl 1 0 v78.length :: .junk :: .lsl 2 0 v81.length :: .junk :: .v (.int .i64 v83) :: .junk :: .junk :: .junk :: .junk :: .junk :: .junk :: .junk :: .junk :: .junk :: .junk :: .junk :: .junk :: .junk :: .junk :: .junk :: .junk :: .junk :: .junk :: .junk :: .junk :: .junk :: .junk :: .junk :: .junk :: .junk :: .junk :: .junk :: .junk :: .junk :: .junk :: .junk :: .junk :: .junk :: .junk :: .junk :: .junk :: .junk :: .junk :: .junk :: .junk :: .junk :: .junk :: .junk :: .junk :: .junk :: .junk :: .junk :: .junk :: .junk :: .junk :: .junk :: .junk :: .junk :: .junk :: .junk :: .junk :: .junk :: .junk :: .junk :: .junk :: .junk :: .junk :: .junk :: .junk :: .junk :: .junk :: .junk :: .junk :: .junk :: .junk :: .junk :: .junk :: .junk :: .junk :: .junk :: .junk :: .junk :: .junk :: .junk :: .junk :: .junk :: .junk :: .junk :: .junk :: .junk :: .junk :: .junk :: .junk :: .junk :: .junk :: .junk :: .junk :: .junk :: .junk :: .junk :: .junk :: .junk :: .junk :: .junk :: .junk :: .junk :: .junk :: .junk :: .junk :: .junk :: .junk :: .junk :: .junk :: .junk :: .junk :: .junk :: .junk :: .junk :: .junk :: .junk :: .junk :: .junk :: .junk :: .junk :: .junk :: .junk :: .junk :: .junk :: .junk :: .junk :: .junk :: .junk :: .junk :: .junk :: .junk :: .junk :: .junk :: .junk :: .junk :: .junk :: .junk :: .junk :: .junk :: .junk :: .junk :: .junk :: .junk :: .junk :: .junk :: .junk :: .junk :: .junk :: .junk :: .junk :: .junk :: .junk :: .junk :: .junk :: .junk :: .junk :: .junk :: .junk :: .junk :: .junk :: .junk :: .junk :: .junk :: .junk :: .junk :: .junk :: .junk :: .junk :: .junk :: .junk :: .junk :: .junk :: .junk :: .junk :: .junk :: .junk :: .junk :: .junk :: .junk :: .junk :: .junk :: .junk :: .junk :: .junk :: .junk :: .junk :: .junk :: .junk :: .junk :: .junk :: .junk :: .junk :: .junk :: .junk :: .junk :: .junk :: .junk :: .junk :: .junk :: .junk :: .junk :: .junk :: .junk :: .junk :: .junk :: .junk :: .junk :: .junk :: .junk :: .junk :: .junk :: .junk :: .junk :: .junk :: .junk :: .junk :: .junk :: .junk :: .junk :: .junk :: .junk :: .junk :: .junk :: .junk :: .junk :: .junk :: .junk :: .junk :: .junk :: .junk :: .junk :: .junk :: .junk :: .junk :: .junk :: .junk :: .junk :: .junk :: .junk :: [],[.rows 1 (v75.map e_c),.rows 1 (v78.map e_c),.rows 1 (v81.map e_c)]⟩) (fun e=>match e with|(.inl _)=>(.ret,⟨.junk :: .junk :: .junk :: .junk :: .junk :: .junk :: .v (.bool false) :: .junk :: .junk :: .junk :: .junk :: .junk :: .junk :: .junk :: .junk :: .junk :: .junk :: .junk :: .junk :: .junk :: .junk :: .junk :: .junk :: .junk :: .junk :: .junk :: .junk :: .junk :: .junk :: .junk :: .junk :: .junk :: .junk :: .junk :: .junk :: .junk :: .junk :: .junk :: .junk :: .junk :: .junk :: .junk :: .junk :: .junk :: .junk :: .junk :: .junk :: .junk :: .junk :: .junk :: .junk :: .junk :: .junk :: .junk :: .junk :: .junk :: .junk :: .junk :: .junk :: .junk :: .junk :: .junk :: .junk :: .junk :: .junk :: .junk :: .junk :: .junk :: .junk :: .junk :: .junk :: .junk :: .junk :: .junk :: .junk :: .junk :: .junk :: .junk :: .junk :: .junk :: .junk :: .junk :: .junk :: .junk :: .junk :: .junk :: .junk :: .junk :: .junk :: .junk :: .junk :: .junk :: .junk :: .junk :: .junk :: .junk :: .junk :: .junk :: .junk :: .junk :: .junk :: .junk :: .junk :: .junk :: .junk :: .junk :: .junk :: .junk :: .junk :: .junk :: .junk :: .junk :: .junk :: .junk :: .junk :: .junk :: .junk :: .junk :: .junk :: .junk :: .junk :: .junk :: .junk :: .junk :: .junk :: .junk :: .junk :: .junk :: .junk :: .junk :: .junk :: .junk :: .junk :: .junk :: .junk :: .junk :: .junk :: .junk :: .junk :: .junk :: .junk :: .junk :: .junk :: .junk :: .junk :: .junk :: .junk :: .junk :: .junk :: .junk :: .junk :: .junk :: .junk :: .junk :: .junk :: .junk :: .junk :: .junk :: .junk :: .junk :: .junk :: .junk :: .junk :: .junk :: .junk :: .junk :: .junk :: .junk :: .junk :: .junk :: .junk :: .junk :: .junk :: .junk :: .junk :: .junk :: .junk :: .junk :: .junk :: .junk :: .junk :: .junk :: .junk :: .junk :: .junk :: .junk :: .junk :: .junk :: .junk :: .junk :: .junk :: .junk :: .junk :: .junk :: .junk :: .junk :: .junk :: .junk :: .junk :: .junk :: .junk :: .junk :: .junk :: .junk :: .junk :: .junk :: .junk :: .junk :: .junk :: .junk :: .junk :: .junk :: .junk :: .junk :: .junk :: .junk :: .junk :: .junk :: .junk :: .junk :: .junk :: .junk :: .junk :: .junk :: .junk :: .junk :: .junk :: .junk :: .junk :: .junk :: .junk :: .junk :: .junk :: .junk :: .junk :: .junk :: .junk :: .junk :: .junk :: .junk :: .junk :: .junk :: .junk :: .junk :: .junk :: .junk :: .junk :: .junk :: .junk :: .junk :: .junk :: .junk :: .junk :: .junk :: .junk :: .junk :: .junk :: .junk :: .junk :: .junk :: [],[]⟩)|(.inr _)=>(.exit 2,⟨.junk :: .junk :: .junk :: .junk :: .junk :: .junk :: .junk :: .list 1 (v68.map e_c) :: .junk :: .junk :: .junk :: .junk :: .junk :: .list 1 (v71.map e_c) :: .junk :: .lsl 0 0 v75.length :: .junk :: .junk :: .junk :: .junk :: .junk :: .junk :: .junk :: .junk :: .junk :: .junk :: .junk :: .junk :: .junk :: .junk :: .junk :: .junk :: .junk :: .junk :: .junk :: .junk :: .junk :: .junk :: .junk :: .junk :: .junk :: .junk :: .junk :: .junk :: .junk :: .junk :: .junk :: .junk :: .junk :: .junk :: .junk :: .junk :: .junk :: .junk :: .junk :: .junk :: .junk :: .junk :: .junk :: .junk :: .junk :: .junk :: .junk :: .junk :: .junk :: .junk :: .junk :: .junk :: .junk :: .junk :: .junk :: .junk :: .junk :: .junk :: .junk :: .junk :: .junk :: .junk :: .junk :: .junk :: .junk :: .junk :: .junk :: .junk :: .junk :: .junk :: .junk :: .junk :: .junk :: .junk :: .junk :: .junk :: .junk :: .junk :: .junk :: .junk :: .junk :: .junk :: .junk :: .junk :: .junk :: .junk :: .junk :: .junk :: .junk :: .junk :: .junk :: .junk :: .junk :: .junk :: .junk :: .junk :: .junk :: .junk :: .junk :: .junk :: .junk :: .junk :: .junk :: .junk :: .junk :: .junk :: .junk :: .junk :: .junk :: .junk :: .junk :: .junk :: .junk :: .junk :: .junk :: .junk :: .junk :: .junk :: .junk :: .junk :: .junk :: .junk :: .junk :: .junk :: .junk :: .junk :: .junk :: .junk :: .junk :: .junk :: .junk :: .junk :: .junk :: .junk :: .junk :: .junk :: .junk :: .junk :: .junk :: .junk :: .junk :: .junk :: .junk :: .junk :: .junk :: .junk :: .junk :: .junk :: .junk :: .junk :: .junk :: .junk :: .junk :: .junk :: .junk :: .junk :: .junk :: .junk :: .junk :: .junk :: .junk :: .junk :: .junk :: .junk :: .junk :: .junk :: .junk :: .junk :: .junk :: .junk :: .junk :: .junk :: .junk :: .junk :: .junk :: .junk :: .junk :: .junk :: .junk :: .junk :: .junk :: .junk :: .junk :: .junk :: .junk :: .junk :: .junk :: .junk :: .junk :: .junk :: .junk :: .junk :: .junk :: .junk :: .junk :: .junk :: .junk :: .junk :: .junk :: .junk :: .junk :: .junk :: .junk :: .junk :: .junk :: .junk :: .junk :: .junk :: .junk :: .junk :: .junk :: .junk :: .junk :: .junk :: .junk :: .junk :: .junk :: .junk :: .junk :: .junk :: .junk :: .junk :: .junk :: .junk :: .junk :: .junk :: .junk :: .junk :: .junk :: .junk :: .junk :: .junk :: .junk :: .junk :: .junk :: .junk :: .junk :: .junk :: .junk :: .junk :: .junk :: .junk :: .junk :: .junk :: [],[.rows 1 (v75.map e_c)]⟩)) ?_ ?_ ?_ ?_
                                · rintro v83 v0 hr
                                  dsimp only [law04_PulseDivides_l2] at hr
                                  try dsimp only
                                  refine wc_ T (g:=?_)
                                  rcases ifs hr with ⟨h92,hr⟩|⟨h92,hr⟩
                                  · have T:=an h92 T
                                    refine wa_ T (g:=?_)
                                    obtain ⟨⟨v92,v93⟩,h93,hr⟩:=bs hr
                                    try dsimp only at hr
                                    have h93m:=tidx_map (f:=e_c) h93
                                    have h93l:=getI_lt h93
                                    try simp only [List.length_set] at h93l
                                    have h93a:=getI_at h93
                                    repeat (first|(with_reducible first|refine mv ?_|refine TD.nil ?_)|((with_reducible first|apply TD.ia|apply TD.ld|apply TD.mv);(repeat (focus (show _ = _;first|exact k1 rfl|exact k2 rfl|(simp only [zz,y31,e_c,e_ii,Nat.reduceAdd,Nat.reduceMul,Nat.reduceLeDiff,Nat.reduceEqDiff,tindexAddr,Nat.zero_add,tload,rowOf,partT,List.getElem?_map,h1,h2,h3,h5,h7,h70,h71,h79,h80,h81,h82,h83,h84,h92,h93m,h93l,h93a]<;>exact rfl)|exact rfl)));(with_reducible refine TD.here ?_))|((with_reducible apply TD.ldF);(focus decide +kernel);(repeat (focus (show _ = _;first|exact k1 rfl|exact k2 rfl|(simp only [zz,y31,e_c,e_ii,Nat.reduceAdd,Nat.reduceMul,Nat.reduceLeDiff,Nat.reduceEqDiff,tindexAddr,Nat.zero_add,tload,rowOf,partT,List.getElem?_map,h1,h2,h3,h5,h7,h70,h71,h79,h80,h81,h82,h83,h84,h92,h93m,h93l,h93a]<;>exact rfl)|exact rfl)));(with_reducible refine TD.here ?_))|((with_reducible apply TX.drawn);(focus decide +kernel);(focus (simp only [zl]<;>exact rfl));(focus exact rfl);(try dsimp only))|fail)
                                    obtain ⟨⟨v94,v95⟩,h94,hr⟩:=bs hr
                                    try dsimp only at hr
                                    have h94m:=tidx_map (f:=e_c) h94
                                    have h94l:=getI_lt h94
                                    try simp only [List.length_set] at h94l
                                    have h94a:=getI_at h94
                                    repeat (first|(with_reducible first|refine mv ?_|refine TD.nil ?_)|((with_reducible first|apply TD.ia|apply TD.ld|apply TD.mv);(repeat (focus (show _ = _;first|exact k1 rfl|exact k2 rfl|(simp only [zz,y31,e_c,e_ii,Nat.reduceAdd,Nat.reduceMul,Nat.reduceLeDiff,Nat.reduceEqDiff,tindexAddr,Nat.zero_add,tload,rowOf,partT,List.getElem?_map,h1,h2,h3,h5,h7,h70,h71,h79,h80,h81,h82,h83,h84,h92,h93m,h93l,h93a,h94m,h94l,h94a]<;>exact rfl)|exact rfl)));(with_reducible refine TD.here ?_))|((with_reducible apply TD.ldF);(focus decide +kernel);(repeat (focus (show _ = _;first|exact k1 rfl|exact k2 rfl|(simp only [zz,y31,e_c,e_ii,Nat.reduceAdd,Nat.reduceMul,Nat.reduceLeDiff,Nat.reduceEqDiff,tindexAddr,Nat.zero_add,tload,rowOf,partT,List.getElem?_map,h1,h2,h3,h5,h7,h70,h71,h79,h80,h81,h82,h83,h84,h92,h93m,h93l,h93a,h94m,h94l,h94a]<;>exact rfl)|exact rfl)));(with_reducible refine TD.here ?_))|((with_reducible apply TX.drawn);(focus decide +kernel);(focus (simp only [zl]<;>exact rfl));(focus exact rfl);(try dsimp only))|fail)
                                    obtain ⟨⟨v96,v97⟩,h95,hr⟩:=bs hr
                                    try dsimp only at hr
                                    have h95m:=tidx_map (f:=e_c) h95
                                    have h95l:=getI_lt h95
                                    try simp only [List.length_set] at h95l
                                    have h95a:=getI_at h95
                                    repeat (first|(with_reducible first|refine mv ?_|refine TD.nil ?_)|((with_reducible first|apply TD.ia|apply TD.ld );(repeat (focus (show _ = _;first|exact k1 rfl|exact k2 rfl|(simp only [zz,y31,e_c,e_ii,Nat.reduceAdd,Nat.reduceMul,Nat.reduceLeDiff,Nat.reduceEqDiff,tindexAddr,Nat.zero_add,tload,rowOf,partT,List.getElem?_map,h1,h2,h3,h5,h7,h70,h71,h79,h80,h81,h82,h83,h84,h92,h93m,h93l,h93a,h94m,h94l,h94a,h95m,h95l,h95a]<;>exact rfl)|exact rfl)));(with_reducible refine TD.here ?_))|((with_reducible apply TD.ldF);(focus decide +kernel);(repeat (focus (show _ = _;first|exact k1 rfl|exact k2 rfl|(simp only [zz,y31,e_c,e_ii,Nat.reduceAdd,Nat.reduceMul,Nat.reduceLeDiff,Nat.reduceEqDiff,tindexAddr,Nat.zero_add,tload,rowOf,partT,List.getElem?_map,h1,h2,h3,h5,h7,h70,h71,h79,h80,h81,h82,h83,h84,h92,h93m,h93l,h93a,h94m,h94l,h94a,h95m,h95l,h95a]<;>exact rfl)|exact rfl)));(with_reducible refine TD.here ?_))|((with_reducible apply TX.drawn);(focus decide +kernel);(focus (simp only [zl]<;>exact rfl));(focus exact rfl);(try dsimp only))|fail)
                                    obtain ⟨v98,h96,hr⟩:=bs hr
                                    skip
                                    obtain ⟨v99,h97,hr⟩:=bs hr
                                    have T:=an h93m T
                                    have T:=an h93l T
                                    have T:=an h93a T
                                    have T:=an h94m T
                                    have T:=an h94l T
                                    have T:=an h94a T
                                    have T:=an h95m T
                                    have T:=an h95l T
                                    have T:=an h95a T
                                    apply TD.pop1 (wn T) (pop_carith rfl rfl (by decide) (h96) (h97))
                                    repeat exact sd T
                                    refine wa_ T (g:=?_)
                                    apply TD.pop1 (wn T) (pop_cne rfl rfl (rfl))
                                    repeat exact sd T
                                    refine wa_ T (g:=?_)
                                    rcases ifs hr with ⟨h98,hr⟩|⟨h98,hr⟩
                                    · have T:=an h98 T
                                      refine wa_ T (g:=?_)
                                      cases hr
                                      refine ⟨rfl,?_⟩
                                      exact wk_ T [some 0,some 1,some 2] rfl (.rows (.rows (.rows .nil rfl rfl) rfl rfl) rfl rfl)
                                    · have T:=an h98 T
                                      refine wa_ T (g:=?_)
                                      cases hr
                                      refine ⟨rfl,?_⟩
                                      exact wk_ T [] rfl .nil
                                  · have T:=an h92 T
                                    refine wa_ T (g:=?_)
                                    cases hr
                                    refine ⟨rfl,?_⟩
                                    exact wk_ T [some 0] rfl (.rows .nil rfl rfl)
                                · intro e h;rcases e with _|e<;>cases h
                                · try dsimp only
                                  rcases v100 with _|_
                                  · try dsimp only at hr
                                    try dsimp only
                                    refine wa_ T (g:=?_)
                                    exact lv T hr
                                  · try dsimp only at hr
                                    try dsimp only
                                    refine wa_ T (g:=?_)
                                    obtain ⟨⟨v101,v102⟩,h100,hr⟩:=bs hr
                                    try dsimp only at hr
                                    apply TO.lok (wn T) rfl goFn17 (Spec.ov (pulse_Divided_spec h100) (by decide)) (vw T) rfl rfl (by simp [clTB,cl,e_ff,e_c,e_ii,e_i])
                                    repeat exact sd T
                                    refine wa_ T (g:=?_)
                                    rcases ifs hr with ⟨h101,hr⟩|⟨h101,hr⟩
                                    · have T:=an h101 T
                                      refine wa_ T (g:=?_)
                                      exact lv T hr
                                    · have T:=an h101 T
                                      refine wc_ T (g:=?_)
                                      rcases ifs hr with ⟨h102,hr⟩|⟨h102,hr⟩
                                      · have T:=an h102 T
                                        refine wa_ T (g:=?_)
                                        exact lv T hr
                                      · have T:=an h102 T
                                        refine wc_ T (g:=?_)
                                        obtain ⟨v103,h103,hr⟩:=bs hr
                                        apply TO.ct e_c h103 (wn T) rfl rfl rfl so31 ok49 cs49
                                        repeat exact sd T
                                        refine wa_ T (g:=?_)
                                        obtain ⟨v104,h104,hr⟩:=bs hr
                                        apply TO.lok (wn T) rfl goFn15 (Spec.ov (base_SameSamples_spec h104) (by decide)) (by simp only [view,z1,z3,zl,tml,tmlc,List.length_set,Nat.reduceEqDiff,if_false,take_map_part,take_map_part2]<;>rfl) rfl rfl (by simp [clTB,cl,e_ff,e_c,e_ii,e_i])
                                        repeat exact sd T
                                        refine wa_ T (g:=?_)
                                        apply TO.pop1 (wn T) (pop_not rfl)
                                        repeat exact sd T
                                        refine wa_ T (g:=?_)
                                        rcases ifs hr with ⟨h105,hr⟩|⟨h105,hr⟩
                                        · have T:=an h105 T
                                          refine wc_ T (g:=?_)
                                          obtain ⟨v110,h112,hr⟩:=bs hr
                                          refine TX.loopE (step:=law04_PulseDivides_l3 v101) (x:=(v68.length : Int)) h112 (fun v105=>⟨.junk :: .junk :: .junk :: .junk :: .junk :: .junk :: .junk :: .junk :: .junk :: .junk :: .junk :: .junk :: .junk :: .junk :: .junk :: .junk :: .junk :: .junk :: .junk :: .junk :: .junk :: .junk :: .lsl 0 0 v101.length :: .junk :: .v (.int .i64 v105) :: .junk :: .junk :: .junk :: .junk :: .junk :: .junk :: .junk :: .junk :: .junk :: .junk :: .junk :: .junk :: .junk :: .junk :: .junk :: .junk :: .junk :: .junk :: .junk :: .junk :: .junk :: .junk :: .junk :: .junk :: .junk :: .junk :: .junk :: .junk :: .junk :: .junk :: .junk :: .junk :: .junk :: .junk :: .junk :: .junk :: .junk :: .junk :: .junk :: .junk :: .junk :: .junk :: .junk :: .junk :: .junk :: .junk :: .junk :: .junk :: .junk :: .junk :: .junk :: .junk :: .junk :: .junk :: .junk :: .junk :: .junk :: .junk :: .junk :: .junk :: .junk :: .junk :: .junk :: .junk :: .junk :: .junk :: .junk :: .junk :: .junk :: .junk :: .junk :: .junk :: .junk :: .junk :: .junk :: .junk :: .junk :: .junk :: .junk :: .junk :: .junk :: .junk :: .junk :: .junk :: .junk :: .junk :: .junk :: .junk :: .junk :: .junk :: .junk :: .junk :: .junk :: .junk :: .junk :: .junk :: .junk :: .junk :: .junk :: .junk :: .junk :: .junk :: .junk :: .junk :: .junk :: .junk :: .junk :: .junk :: .junk :: .junk :: .junk :: .junk :: .junk :: .junk :: .junk :: .junk :: .junk :: .junk :: .junk :: .junk :: .junk :: .junk :: .junk :: .junk :: .junk :: .junk :: .junk :: .junk :: .junk :: .junk :: .junk :: .junk :: .junk :: .junk :: .junk :: .junk :: .junk :: .junk :: .junk :: .junk :: .junk :: .junk :: .junk :: .junk :: .junk :: .junk :: .junk :: .junk :: .junk :: .junk :: .junk :: .junk :: .junk :: .junk :: .junk :: .junk :: .junk :: .junk :: .junk :: .junk :: .junk :: .junk :: .junk :: .junk :: .junk :: .junk :: .junk :: .junk :: .junk :: .junk :: .junk :: .junk :: .junk :: .junk :: .junk :: .junk :: .junk :: .junk :: .junk :: .junk :: .junk :: .junk :: .junk :: .junk :: .junk :: .junk :: .junk :: .junk :: .junk :: .junk :: .junk :: .junk :: .junk :: .junk :: .junk :: .junk :: .junk :: .junk :: .junk :: .junk :: .junk :: .junk :: .junk :: .junk :: .junk :: .junk :: .junk :: .junk :: .junk :: .junk :: .junk :: .junk :: .junk :: .junk :: .junk :: .junk :: .junk :: .junk :: .junk :: .junk :: .junk :: .junk :: .junk :: .junk :: .junk :: .junk :: .junk :: .junk :: .junk :: .junk :: .junk :: .junk :: .junk :: .junk :: .junk :: [],[.rows 1 (v101.map e_c)]⟩) (fun e=>match e with|(.inl _)=>(.ret,⟨.junk :: .junk :: .junk :: .junk :: .junk :: .junk :: .v (.bool false) :: .junk :: .junk :: .junk :: .junk :: .junk :: .junk :: .junk :: .junk :: .junk :: .junk :: .junk :: .junk :: .junk :: .junk :: .junk :: .junk :: .junk :: .junk :: .junk :: .junk :: .junk :: .junk :: .junk :: .junk :: .junk :: .junk :: .junk :: .junk :: .junk :: .junk :: .junk :: .junk :: .junk :: .junk :: .junk :: .junk :: .junk :: .junk :: .junk :: .junk :: .junk :: .junk :: .junk :: .junk :: .junk :: .junk :: .junk :: .junk :: .junk :: .junk :: .junk :: .junk :: .junk :: .junk :: .junk :: .junk :: .junk :: .junk :: .junk :: .junk :: .junk :: .junk :: .junk :: .junk :: .junk :: .junk :: .junk :: .junk :: .junk :: .junk :: .junk :: .junk :: .junk :: .junk :: .junk :: .junk :: .junk :: .junk :: .junk :: .junk :: .junk :: .junk :: .junk :: .junk :: .junk :: .junk :: .junk :: .junk :: .junk :: .junk :: .junk :: .junk :: .junk :: .junk :: .junk :: .junk :: .junk :: .junk :: .junk :: .junk :: .junk :: .junk :: .junk :: .junk :: .junk :: .junk :: .junk :: .junk :: .junk :: .junk :: .junk :: .junk :: .junk :: .junk :: .junk :: .junk :: .junk :: .junk :: .junk :: .junk :: .junk :: .junk :: .junk :: .junk :: .junk :: .junk :: .junk :: .junk :: .junk :: .junk :: .junk :: .junk :: .junk :: .junk :: .junk :: .junk :: .junk :: .junk :: .junk :: .junk :: .junk :: .junk :: .junk :: .junk :: .junk :: .junk :: .junk :: .junk :: .junk :: .junk :: .junk :: .junk :: .junk :: .junk :: .junk :: .junk :: .junk :: .junk :: .junk :: .junk :: .junk :: .junk :: .junk :: .junk :: .junk :: .junk :: .junk :: .junk :: .junk :: .junk :: .junk :: .junk :: .junk :: .junk :: .junk :: .junk :: .junk :: .junk :: .junk :: .junk :: .junk :: .junk :: .junk :: .junk :: .junk :: .junk :: .junk :: .junk :: .junk :: .junk :: .junk :: .junk :: .junk :: .junk :: .junk :: .junk :: .junk :: .junk :: .junk :: .junk :: .junk :: .junk :: .junk :: .junk :: .junk :: .junk :: .junk :: .junk :: .junk :: .junk :: .junk :: .junk :: .junk :: .junk :: .junk :: .junk :: .junk :: .junk :: .junk :: .junk :: .junk :: .junk :: .junk :: .junk :: .junk :: .junk :: .junk :: .junk :: .junk :: .junk :: .junk :: .junk :: .junk :: .junk :: .junk :: .junk :: .junk :: .junk :: .junk :: .junk :: .junk :: .junk :: .junk :: .junk :: .junk :: .junk :: .junk :: .junk :: .junk :: .junk :: .junk :: .junk :: .junk :: [],[]⟩)|(.inr _)=>(.exit 4,⟨.junk :: .junk :: .junk :: .junk :: .junk :: .junk :: .junk :: .junk :: .junk :: .junk :: .junk :: .junk :: .junk :: .junk :: .junk :: .junk :: .junk :: .junk :: .junk :: .junk :: .junk :: .junk :: .junk :: .junk :: .junk :: .junk :: .junk :: .junk :: .junk :: .junk :: .junk :: .junk :: .junk :: .junk :: .junk :: .junk :: .junk :: .junk :: .junk :: .junk :: .junk :: .junk :: .junk :: .junk :: .junk :: .junk :: .junk :: .junk :: .junk :: .junk :: .junk :: .junk :: .junk :: .junk :: .junk :: .junk :: .junk :: .junk :: .junk :: .junk :: .junk :: .junk :: .junk :: .junk :: .junk :: .junk :: .junk :: .junk :: .junk :: .junk :: .junk :: .junk :: .junk :: .junk :: .junk :: .junk :: .junk :: .junk :: .junk :: .junk :: .junk :: .junk :: .junk :: .junk :: .junk :: .junk :: .junk :: .junk :: .junk :: .junk :: .junk :: .junk :: .junk :: .junk :: .junk :: .junk :: .junk :: .junk :: .junk :: .junk :: .junk :: .junk :: .junk :: .junk :: .junk :: .junk :: .junk :: .junk :: .junk :: .junk :: .junk :: .junk :: .junk :: .junk :: .junk :: .junk :: .junk :: .junk :: .junk :: .junk :: .junk :: .junk :: .junk :: .junk :: .junk :: .junk :: .junk :: .junk :: .junk :: .junk :: .junk :: .junk :: .junk :: .junk :: .junk :: .junk :: .junk :: .junk :: .junk :: .junk :: .junk :: .junk :: .junk :: .junk :: .junk :: .junk :: .junk :: .junk :: .junk :: .junk :: .junk :: .junk :: .junk :: .junk :: .junk :: .junk :: .junk :: .junk :: .junk :: .junk :: .junk :: .junk :: .junk :: .junk :: .junk :: .junk :: .junk :: .junk :: .junk :: .junk :: .junk :: .junk :: .junk :: .junk :: .junk :: .junk :: .junk :: .junk :: .junk :: .junk :: .junk :: .junk :: .junk :: .junk :: .junk :: .junk :: .junk :: .junk :: .junk :: .junk :: .junk :: .junk :: .junk :: .junk :: .junk :: .junk :: .junk :: .junk :: .junk :: .junk :: .junk :: .junk :: .junk :: .junk :: .junk :: .junk :: .junk :: .junk :: .junk :: .junk :: .junk :: .junk :: .junk :: .junk :: .junk :: .junk :: .junk :: .junk :: .junk :: .junk :: .junk :: .junk :: .junk :: .junk :: .junk :: .junk :: .junk :: .junk :: .junk :: .junk :: .junk :: .junk :: .junk :: .junk :: .junk :: .junk :: .junk :: .junk :: .junk :: .junk :: .junk :: .junk :: .junk :: .junk :: .junk :: .junk :: .junk :: .junk :: .junk :: .junk :: .junk :: .junk :: .junk :: .junk :: .junk :: .junk :: .junk :: .junk :: .junk :: .junk :: [],[]⟩)) ?_ ?_ ?_ ?_
                                          · rintro v105 v0 hr
                                            dsimp only [law04_PulseDivides_l3] at hr
                                            try dsimp only
                                            refine wc_ T (g:=?_)
                                            rcases ifs hr with ⟨h109,hr⟩|⟨h109,hr⟩
                                            · have T:=an h109 T
                                              refine wa_ T (g:=?_)
                                              obtain ⟨⟨v108,v109⟩,h110,hr⟩:=bs hr
                                              try dsimp only at hr
                                              have T:=an (gx e_c h110) T
                                              refine wA T (g:=?_)
                                              apply TO.pop1 (wn T) (pop_cne rfl rfl (rfl))
                                              repeat exact sd T
                                              refine wa_ T (g:=?_)
                                              rcases ifs hr with ⟨h111,hr⟩|⟨h111,hr⟩
                                              · have T:=an h111 T
                                                refine wa_ T (g:=?_)
                                                cases hr
                                                refine ⟨rfl,?_⟩
                                                exact wk_ T [some 0] rfl (.rows .nil rfl rfl)
                                              · have T:=an h111 T
                                                refine wa_ T (g:=?_)
                                                cases hr
                                                refine ⟨rfl,?_⟩
                                                exact wk_ T [] rfl .nil
                                            · have T:=an h109 T
                                              refine wa_ T (g:=?_)
                                              cases hr
                                              refine ⟨rfl,?_⟩
                                              exact wk_ T [] rfl .nil
                                          · intro e h;rcases e with _|e<;>cases h
                                          · try dsimp only
                                            rcases v110 with _|_
                                            · try dsimp only at hr
                                              try dsimp only
                                              refine wa_ T (g:=?_)
                                              exact lv T hr
                                            · try dsimp only at hr
                                              try dsimp only
                                              refine wa_ T (g:=?_)
                                              exact lv T hr
                                          · try dsimp only
                                            exact wk_ T [some 1] rfl (.rows .nil rfl rfl)
                                        · have T:=an h105 T
                                          refine wa_ T (g:=?_)
                                          exact lv T hr
                                · try dsimp only
                                  exact wk_ T [some 6,some 8,some 10] rfl (.rows (.rows (.rows .nil rfl rfl) rfl rfl) rfl rfl)
            · try dsimp only
              exact wk_ T [some 0,some 1,some 2] rfl (.rows (.rows (.rows .nil rfl rfl) rfl rfl) rfl rfl)
          · have T:=an h7 T
            refine wa_ T (g:=?_)
            exact lv T hr
        · have T:=an h5 T
          refine wa_ T (g:=?_)
          exact lv T hr

end Go.Rex
