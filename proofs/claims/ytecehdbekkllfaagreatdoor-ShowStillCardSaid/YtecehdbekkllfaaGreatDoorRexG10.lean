/- An executor of the program's functions on trees of values,proved sound. -/
import Derived.Test.YtecehdbekkllfaaGreatDoorRexG9
import Derived.Test.YtecehdbekkllfaaGreatDoorRexG6
set_option linter.unusedSimpArgs false
set_option linter.unusedVariables false
set_option linter.defProp false
open Go Go.Rex Go.RowKit
namespace Go.Rex
theorem wA{A G H:Prop}(T:A)(h:A→H→G:=by (intro T g;(repeat (first|with_reducible refine mv ?_|with_reducible refine m12 rfl ?_|with_reducible refine TO.nil ?_|((with_reducible first|apply TO.mv|apply TO.asg|apply TO.bin|apply TO.ld|apply TO.fa|apply TO.ia|apply TO.pk|apply TO.sv|apply TO.al|apply TO.bld|apply TO.ext|apply TO.mf );(repeat (focus (show _=_;first|exact k1 rfl|exact k2 rfl|(simp only[zz,T,Nat.reduceAdd,Nat.reduceMul,Nat.reduceLeDiff,Nat.reduceEqDiff,tload,dL,dH,List.getElem?_map,aJ,aH,Nat.zero_add,tlen,tbuild,tfill,tfield]<;>exact rfl)|exact rfl)));(with_reducible apply TO.here))|((with_reducible apply TO.skip1);(repeat (focus (show _=_;first|exact k1 rfl|exact k2 rfl|(simp only[zz,T,Nat.reduceAdd,Nat.reduceMul,Nat.reduceLeDiff,Nat.reduceEqDiff,twant,List.getElem?_toArray,Option.bind_some]<;>exact rfl)|exact rfl)));(with_reducible apply TO.here))|with_reducible refine TD.nil ?_|((with_reducible first|apply TD.mv|apply TD.asg|apply TD.bin|apply TD.ld|apply TD.fa|apply TD.ia|apply TD.pk|apply TD.bld|apply TD.ext|apply TD.mf );(repeat (focus (show _=_;first|exact k1 rfl|exact k2 rfl|(simp only[zz,T,Nat.reduceAdd,Nat.reduceMul,Nat.reduceLeDiff,Nat.reduceEqDiff,tload,dL,dH,List.getElem?_map,aJ,aH,Nat.zero_add,tlen,tbuild,tfill,tfield]<;>exact rfl)|exact rfl)));(with_reducible refine TD.here ?_))|((with_reducible apply TD.skip1);(repeat (focus (show _=_;first|exact k1 rfl|exact k2 rfl|(simp only[zz,T,Nat.reduceAdd,Nat.reduceMul,Nat.reduceLeDiff,Nat.reduceEqDiff,twant,List.getElem?_toArray,Option.bind_some]<;>exact rfl)|exact rfl)));(with_reducible refine TD.here ?_))|((with_reducible apply TX.cond_true);(focus rfl);(focus (first|rfl|(simp only[z1,Bool.not_true,Bool.not_false,T];done))))|((with_reducible apply TX.cond_false);(focus rfl);(focus (first|rfl|(simp only[z1,Bool.not_true,Bool.not_false,T];done))))|((with_reducible apply TX.region);(focus (simp only[List.toList_toArray]<;>exact rfl));(focus rfl);(try dsimp only))|((with_reducible apply TX.drawn);(focus decide +kernel);(focus (simp only[List.toList_toArray]<;>exact rfl));(focus exact rfl);(try dsimp only))|fail));exact g))(g:H):G:=h T g
theorem wa_{A G H:Prop}(T:A)(h:A→H→G:=by (intro T g;(repeat (first|with_reducible refine mv ?_|with_reducible refine m12 rfl ?_|with_reducible refine TO.nil ?_|((with_reducible first|apply TO.mv|apply TO.asg|apply TO.bin|apply TO.fa|apply TO.ia|apply TO.pk|apply TO.sv|apply TO.al|apply TO.bld|apply TO.ext|apply TO.mf );(repeat (focus (show _=_;first|exact k1 rfl|exact k2 rfl|(simp only[zz,T,Nat.reduceAdd,Nat.reduceMul,Nat.reduceLeDiff,Nat.reduceEqDiff,tload,dL,dH,List.getElem?_map,aJ,aH,Nat.zero_add,tlen,tbuild,tfill,tfield]<;>exact rfl)|exact rfl)));(with_reducible apply TO.here))|((with_reducible apply TO.skip1);(repeat (focus (show _=_;first|exact k1 rfl|exact k2 rfl|(simp only[zz,T,Nat.reduceAdd,Nat.reduceMul,Nat.reduceLeDiff,Nat.reduceEqDiff,twant,List.getElem?_toArray,Option.bind_some]<;>exact rfl)|exact rfl)));(with_reducible apply TO.here))|with_reducible refine TD.nil ?_|((with_reducible first|apply TD.mv|apply TD.asg|apply TD.bin|apply TD.fa|apply TD.ia|apply TD.pk|apply TD.bld|apply TD.ext|apply TD.mf );(repeat (focus (show _=_;first|exact k1 rfl|exact k2 rfl|(simp only[zz,T,Nat.reduceAdd,Nat.reduceMul,Nat.reduceLeDiff,Nat.reduceEqDiff,tload,dL,dH,List.getElem?_map,aJ,aH,Nat.zero_add,tlen,tbuild,tfill,tfield]<;>exact rfl)|exact rfl)));(with_reducible refine TD.here ?_))|((with_reducible apply TD.skip1);(repeat (focus (show _=_;first|exact k1 rfl|exact k2 rfl|(simp only[zz,T,Nat.reduceAdd,Nat.reduceMul,Nat.reduceLeDiff,Nat.reduceEqDiff,twant,List.getElem?_toArray,Option.bind_some]<;>exact rfl)|exact rfl)));(with_reducible refine TD.here ?_))|((with_reducible apply TX.cond_true);(focus rfl);(focus (first|rfl|(simp only[z1,Bool.not_true,Bool.not_false,T];done))))|((with_reducible apply TX.cond_false);(focus rfl);(focus (first|rfl|(simp only[z1,Bool.not_true,Bool.not_false,T];done))))|((with_reducible apply TX.region);(focus (simp only[List.toList_toArray]<;>exact rfl));(focus rfl);(try dsimp only))|((with_reducible apply TX.drawn);(focus decide +kernel);(focus (simp only[List.toList_toArray]<;>exact rfl));(focus exact rfl);(try dsimp only))|fail));exact g))(g:H):G:=h T g
theorem wB{A G H:Prop}(T:A)(h:A→H→G:=by (intro T g;(repeat (first|with_reducible refine mv ?_|with_reducible refine m12 rfl ?_|with_reducible refine TO.nil ?_|((with_reducible first|apply TO.mv|apply TO.asg|apply TO.bin|apply TO.ld|apply TO.fa|apply TO.ia|apply TO.pk|apply TO.sv|apply TO.al|apply TO.bf|apply TO.bld|apply TO.ext|apply TO.mf );(repeat (focus (show _=_;first|exact k1 rfl|exact k2 rfl|(simp only[zz,T,Nat.reduceAdd,Nat.reduceMul,Nat.reduceLeDiff,Nat.reduceEqDiff,tload,dL,dH,List.getElem?_map,aJ,aH,Nat.zero_add,tlen,tbuild,tfill,tfield]<;>exact rfl)|exact rfl)));(with_reducible apply TO.here))|((with_reducible apply TO.skip1);(repeat (focus (show _=_;first|exact k1 rfl|exact k2 rfl|(simp only[zz,T,Nat.reduceAdd,Nat.reduceMul,Nat.reduceLeDiff,Nat.reduceEqDiff,twant,List.getElem?_toArray,Option.bind_some]<;>exact rfl)|exact rfl)));(with_reducible apply TO.here))|with_reducible refine TD.nil ?_|((with_reducible first|apply TD.mv|apply TD.asg|apply TD.bin|apply TD.ld|apply TD.fa|apply TD.ia|apply TD.pk|apply TD.bld|apply TD.ext|apply TD.mf );(repeat (focus (show _=_;first|exact k1 rfl|exact k2 rfl|(simp only[zz,T,Nat.reduceAdd,Nat.reduceMul,Nat.reduceLeDiff,Nat.reduceEqDiff,tload,dL,dH,List.getElem?_map,aJ,aH,Nat.zero_add,tlen,tbuild,tfill,tfield]<;>exact rfl)|exact rfl)));(with_reducible refine TD.here ?_))|((with_reducible apply TD.skip1);(repeat (focus (show _=_;first|exact k1 rfl|exact k2 rfl|(simp only[zz,T,Nat.reduceAdd,Nat.reduceMul,Nat.reduceLeDiff,Nat.reduceEqDiff,twant,List.getElem?_toArray,Option.bind_some]<;>exact rfl)|exact rfl)));(with_reducible refine TD.here ?_))|((with_reducible apply TX.cond_true);(focus rfl);(focus (first|rfl|(simp only[z1,Bool.not_true,Bool.not_false,T];done))))|((with_reducible apply TX.cond_false);(focus rfl);(focus (first|rfl|(simp only[z1,Bool.not_true,Bool.not_false,T];done))))|((with_reducible apply TX.region);(focus (simp only[List.toList_toArray]<;>exact rfl));(focus rfl);(try dsimp only))|((with_reducible apply TX.drawn);(focus decide +kernel);(focus (simp only[List.toList_toArray]<;>exact rfl));(focus exact rfl);(try dsimp only))|fail));exact g))(g:H):G:=h T g
theorem wb_{A G H:Prop}(T:A)(h:A→H→G:=by (intro T g;(repeat (first|with_reducible refine mv ?_|with_reducible refine m12 rfl ?_|with_reducible refine TO.nil ?_|((with_reducible first|apply TO.mv|apply TO.asg|apply TO.bin|apply TO.fa|apply TO.ia|apply TO.pk|apply TO.sv|apply TO.al|apply TO.bf|apply TO.bld|apply TO.ext|apply TO.mf );(repeat (focus (show _=_;first|exact k1 rfl|exact k2 rfl|(simp only[zz,T,Nat.reduceAdd,Nat.reduceMul,Nat.reduceLeDiff,Nat.reduceEqDiff,tload,dL,dH,List.getElem?_map,aJ,aH,Nat.zero_add,tlen,tbuild,tfill,tfield]<;>exact rfl)|exact rfl)));(with_reducible apply TO.here))|((with_reducible apply TO.skip1);(repeat (focus (show _=_;first|exact k1 rfl|exact k2 rfl|(simp only[zz,T,Nat.reduceAdd,Nat.reduceMul,Nat.reduceLeDiff,Nat.reduceEqDiff,twant,List.getElem?_toArray,Option.bind_some]<;>exact rfl)|exact rfl)));(with_reducible apply TO.here))|with_reducible refine TD.nil ?_|((with_reducible first|apply TD.mv|apply TD.asg|apply TD.bin|apply TD.fa|apply TD.ia|apply TD.pk|apply TD.bld|apply TD.ext|apply TD.mf );(repeat (focus (show _=_;first|exact k1 rfl|exact k2 rfl|(simp only[zz,T,Nat.reduceAdd,Nat.reduceMul,Nat.reduceLeDiff,Nat.reduceEqDiff,tload,dL,dH,List.getElem?_map,aJ,aH,Nat.zero_add,tlen,tbuild,tfill,tfield]<;>exact rfl)|exact rfl)));(with_reducible refine TD.here ?_))|((with_reducible apply TD.skip1);(repeat (focus (show _=_;first|exact k1 rfl|exact k2 rfl|(simp only[zz,T,Nat.reduceAdd,Nat.reduceMul,Nat.reduceLeDiff,Nat.reduceEqDiff,twant,List.getElem?_toArray,Option.bind_some]<;>exact rfl)|exact rfl)));(with_reducible refine TD.here ?_))|((with_reducible apply TX.cond_true);(focus rfl);(focus (first|rfl|(simp only[z1,Bool.not_true,Bool.not_false,T];done))))|((with_reducible apply TX.cond_false);(focus rfl);(focus (first|rfl|(simp only[z1,Bool.not_true,Bool.not_false,T];done))))|((with_reducible apply TX.region);(focus (simp only[List.toList_toArray]<;>exact rfl));(focus rfl);(try dsimp only))|((with_reducible apply TX.drawn);(focus decide +kernel);(focus (simp only[List.toList_toArray]<;>exact rfl));(focus exact rfl);(try dsimp only))|fail));exact g))(g:H):G:=h T g
theorem wC{A G H:Prop}(T:A)(h:A→H→G:=by (intro T g;(repeat (first|with_reducible refine mv ?_|with_reducible refine m12 rfl ?_|with_reducible refine TO.nil ?_|((with_reducible first|apply TO.mv|apply TO.asg|apply TO.bin|apply TO.ld|apply TO.fa|apply TO.ia|apply TO.pk|apply TO.sv|apply TO.al|apply TO.len|apply TO.bld|apply TO.ext|apply TO.mf );(repeat (focus (show _=_;first|exact k1 rfl|exact k2 rfl|(simp only[zz,T,Nat.reduceAdd,Nat.reduceMul,Nat.reduceLeDiff,Nat.reduceEqDiff,tload,dL,dH,List.getElem?_map,aJ,aH,Nat.zero_add,tlen,tbuild,tfill,tfield]<;>exact rfl)|exact rfl)));(with_reducible apply TO.here))|((with_reducible apply TO.skip1);(repeat (focus (show _=_;first|exact k1 rfl|exact k2 rfl|(simp only[zz,T,Nat.reduceAdd,Nat.reduceMul,Nat.reduceLeDiff,Nat.reduceEqDiff,twant,List.getElem?_toArray,Option.bind_some]<;>exact rfl)|exact rfl)));(with_reducible apply TO.here))|with_reducible refine TD.nil ?_|((with_reducible first|apply TD.mv|apply TD.asg|apply TD.bin|apply TD.ld|apply TD.fa|apply TD.ia|apply TD.pk|apply TD.len|apply TD.bld|apply TD.ext|apply TD.mf );(repeat (focus (show _=_;first|exact k1 rfl|exact k2 rfl|(simp only[zz,T,Nat.reduceAdd,Nat.reduceMul,Nat.reduceLeDiff,Nat.reduceEqDiff,tload,dL,dH,List.getElem?_map,aJ,aH,Nat.zero_add,tlen,tbuild,tfill,tfield]<;>exact rfl)|exact rfl)));(with_reducible refine TD.here ?_))|((with_reducible apply TD.skip1);(repeat (focus (show _=_;first|exact k1 rfl|exact k2 rfl|(simp only[zz,T,Nat.reduceAdd,Nat.reduceMul,Nat.reduceLeDiff,Nat.reduceEqDiff,twant,List.getElem?_toArray,Option.bind_some]<;>exact rfl)|exact rfl)));(with_reducible refine TD.here ?_))|((with_reducible apply TX.cond_true);(focus rfl);(focus (first|rfl|(simp only[z1,Bool.not_true,Bool.not_false,T];done))))|((with_reducible apply TX.cond_false);(focus rfl);(focus (first|rfl|(simp only[z1,Bool.not_true,Bool.not_false,T];done))))|((with_reducible apply TX.region);(focus (simp only[List.toList_toArray]<;>exact rfl));(focus rfl);(try dsimp only))|((with_reducible apply TX.drawn);(focus decide +kernel);(focus (simp only[List.toList_toArray]<;>exact rfl));(focus exact rfl);(try dsimp only))|fail));exact g))(g:H):G:=h T g
theorem wc_{A G H:Prop}(T:A)(h:A→H→G:=by (intro T g;(repeat (first|with_reducible refine mv ?_|with_reducible refine m12 rfl ?_|with_reducible refine TO.nil ?_|((with_reducible first|apply TO.mv|apply TO.asg|apply TO.bin|apply TO.fa|apply TO.ia|apply TO.pk|apply TO.sv|apply TO.al|apply TO.len|apply TO.bld|apply TO.ext|apply TO.mf );(repeat (focus (show _=_;first|exact k1 rfl|exact k2 rfl|(simp only[zz,T,Nat.reduceAdd,Nat.reduceMul,Nat.reduceLeDiff,Nat.reduceEqDiff,tload,dL,dH,List.getElem?_map,aJ,aH,Nat.zero_add,tlen,tbuild,tfill,tfield]<;>exact rfl)|exact rfl)));(with_reducible apply TO.here))|((with_reducible apply TO.skip1);(repeat (focus (show _=_;first|exact k1 rfl|exact k2 rfl|(simp only[zz,T,Nat.reduceAdd,Nat.reduceMul,Nat.reduceLeDiff,Nat.reduceEqDiff,twant,List.getElem?_toArray,Option.bind_some]<;>exact rfl)|exact rfl)));(with_reducible apply TO.here))|with_reducible refine TD.nil ?_|((with_reducible first|apply TD.mv|apply TD.asg|apply TD.bin|apply TD.fa|apply TD.ia|apply TD.pk|apply TD.len|apply TD.bld|apply TD.ext|apply TD.mf );(repeat (focus (show _=_;first|exact k1 rfl|exact k2 rfl|(simp only[zz,T,Nat.reduceAdd,Nat.reduceMul,Nat.reduceLeDiff,Nat.reduceEqDiff,tload,dL,dH,List.getElem?_map,aJ,aH,Nat.zero_add,tlen,tbuild,tfill,tfield]<;>exact rfl)|exact rfl)));(with_reducible refine TD.here ?_))|((with_reducible apply TD.skip1);(repeat (focus (show _=_;first|exact k1 rfl|exact k2 rfl|(simp only[zz,T,Nat.reduceAdd,Nat.reduceMul,Nat.reduceLeDiff,Nat.reduceEqDiff,twant,List.getElem?_toArray,Option.bind_some]<;>exact rfl)|exact rfl)));(with_reducible refine TD.here ?_))|((with_reducible apply TX.cond_true);(focus rfl);(focus (first|rfl|(simp only[z1,Bool.not_true,Bool.not_false,T];done))))|((with_reducible apply TX.cond_false);(focus rfl);(focus (first|rfl|(simp only[z1,Bool.not_true,Bool.not_false,T];done))))|((with_reducible apply TX.region);(focus (simp only[List.toList_toArray]<;>exact rfl));(focus rfl);(try dsimp only))|((with_reducible apply TX.drawn);(focus decide +kernel);(focus (simp only[List.toList_toArray]<;>exact rfl));(focus exact rfl);(try dsimp only))|fail));exact g))(g:H):G:=h T g
theorem wD{A G H:Prop}(T:A)(h:A→H→G:=by (intro T g;(repeat (first|with_reducible refine mv ?_|with_reducible refine m12 rfl ?_|with_reducible refine TO.nil ?_|((with_reducible first|apply TO.mv|apply TO.asg|apply TO.bin|apply TO.ld|apply TO.fa|apply TO.ia|apply TO.pk|apply TO.sv|apply TO.al|apply TO.bf|apply TO.len|apply TO.bld|apply TO.ext|apply TO.mf );(repeat (focus (show _=_;first|exact k1 rfl|exact k2 rfl|(simp only[zz,T,Nat.reduceAdd,Nat.reduceMul,Nat.reduceLeDiff,Nat.reduceEqDiff,tload,dL,dH,List.getElem?_map,aJ,aH,Nat.zero_add,tlen,tbuild,tfill,tfield]<;>exact rfl)|exact rfl)));(with_reducible apply TO.here))|((with_reducible apply TO.skip1);(repeat (focus (show _=_;first|exact k1 rfl|exact k2 rfl|(simp only[zz,T,Nat.reduceAdd,Nat.reduceMul,Nat.reduceLeDiff,Nat.reduceEqDiff,twant,List.getElem?_toArray,Option.bind_some]<;>exact rfl)|exact rfl)));(with_reducible apply TO.here))|with_reducible refine TD.nil ?_|((with_reducible first|apply TD.mv|apply TD.asg|apply TD.bin|apply TD.ld|apply TD.fa|apply TD.ia|apply TD.pk|apply TD.len|apply TD.bld|apply TD.ext|apply TD.mf );(repeat (focus (show _=_;first|exact k1 rfl|exact k2 rfl|(simp only[zz,T,Nat.reduceAdd,Nat.reduceMul,Nat.reduceLeDiff,Nat.reduceEqDiff,tload,dL,dH,List.getElem?_map,aJ,aH,Nat.zero_add,tlen,tbuild,tfill,tfield]<;>exact rfl)|exact rfl)));(with_reducible refine TD.here ?_))|((with_reducible apply TD.skip1);(repeat (focus (show _=_;first|exact k1 rfl|exact k2 rfl|(simp only[zz,T,Nat.reduceAdd,Nat.reduceMul,Nat.reduceLeDiff,Nat.reduceEqDiff,twant,List.getElem?_toArray,Option.bind_some]<;>exact rfl)|exact rfl)));(with_reducible refine TD.here ?_))|((with_reducible apply TX.cond_true);(focus rfl);(focus (first|rfl|(simp only[z1,Bool.not_true,Bool.not_false,T];done))))|((with_reducible apply TX.cond_false);(focus rfl);(focus (first|rfl|(simp only[z1,Bool.not_true,Bool.not_false,T];done))))|((with_reducible apply TX.region);(focus (simp only[List.toList_toArray]<;>exact rfl));(focus rfl);(try dsimp only))|((with_reducible apply TX.drawn);(focus decide +kernel);(focus (simp only[List.toList_toArray]<;>exact rfl));(focus exact rfl);(try dsimp only))|fail));exact g))(g:H):G:=h T g
theorem we_{A G H:Prop}(T:A)(h:A→H→G:=by (intro T g;(repeat (first|with_reducible refine mv ?_|with_reducible refine m12 rfl ?_|with_reducible refine TO.nil ?_|((with_reducible first|apply TO.mv|apply TO.asg|apply TO.bin|apply TO.fa|apply TO.ia|apply TO.pk|apply TO.sv|apply TO.al|apply TO.bld|apply TO.ext|apply TO.bs|apply TO.mf );(repeat (focus (show _=_;first|exact k1 rfl|exact k2 rfl|(simp only[zz,T,Nat.reduceAdd,Nat.reduceMul,Nat.reduceLeDiff,Nat.reduceEqDiff,tload,dL,dH,List.getElem?_map,aJ,aH,Nat.zero_add,tlen,tbuild,tfill,tfield,tslice,tparts]<;>exact rfl)|exact rfl)));(with_reducible apply TO.here))|((with_reducible apply TO.skip1);(repeat (focus (show _=_;first|exact k1 rfl|exact k2 rfl|(simp only[zz,T,Nat.reduceAdd,Nat.reduceMul,Nat.reduceLeDiff,Nat.reduceEqDiff,twant,List.getElem?_toArray,Option.bind_some]<;>exact rfl)|exact rfl)));(with_reducible apply TO.here))|with_reducible refine TD.nil ?_|((with_reducible first|apply TD.mv|apply TD.asg|apply TD.bin|apply TD.fa|apply TD.ia|apply TD.pk|apply TD.bld|apply TD.ext|apply TD.bs|apply TD.mf );(repeat (focus (show _=_;first|exact k1 rfl|exact k2 rfl|(simp only[zz,T,Nat.reduceAdd,Nat.reduceMul,Nat.reduceLeDiff,Nat.reduceEqDiff,tload,dL,dH,List.getElem?_map,aJ,aH,Nat.zero_add,tlen,tbuild,tfill,tfield,tslice,tparts]<;>exact rfl)|exact rfl)));(with_reducible refine TD.here ?_))|((with_reducible apply TD.skip1);(repeat (focus (show _=_;first|exact k1 rfl|exact k2 rfl|(simp only[zz,T,Nat.reduceAdd,Nat.reduceMul,Nat.reduceLeDiff,Nat.reduceEqDiff,twant,List.getElem?_toArray,Option.bind_some]<;>exact rfl)|exact rfl)));(with_reducible refine TD.here ?_))|((with_reducible apply TX.cond_true);(focus rfl);(focus (first|rfl|(simp only[z1,Bool.not_true,Bool.not_false,T];done))))|((with_reducible apply TX.cond_false);(focus rfl);(focus (first|rfl|(simp only[z1,Bool.not_true,Bool.not_false,T];done))))|((with_reducible apply TX.region);(focus (simp only[List.toList_toArray]<;>exact rfl));(focus rfl);(try dsimp only))|((with_reducible apply TX.drawn);(focus decide +kernel);(focus (simp only[List.toList_toArray]<;>exact rfl));(focus exact rfl);(try dsimp only))|fail));exact g))(g:H):G:=h T g
theorem wF{A G H:Prop}(T:A)(h:A→H→G:=by (intro T g;(repeat (first|with_reducible refine mv ?_|with_reducible refine m12 rfl ?_|with_reducible refine TO.nil ?_|((with_reducible first|apply TO.mv|apply TO.asg|apply TO.bin|apply TO.ld|apply TO.fa|apply TO.ia|apply TO.pk|apply TO.sv|apply TO.al|apply TO.bf|apply TO.bld|apply TO.ext|apply TO.bs|apply TO.mf );(repeat (focus (show _=_;first|exact k1 rfl|exact k2 rfl|(simp only[zz,T,Nat.reduceAdd,Nat.reduceMul,Nat.reduceLeDiff,Nat.reduceEqDiff,tload,dL,dH,List.getElem?_map,aJ,aH,Nat.zero_add,tlen,tbuild,tfill,tfield,tslice,tparts]<;>exact rfl)|exact rfl)));(with_reducible apply TO.here))|((with_reducible apply TO.skip1);(repeat (focus (show _=_;first|exact k1 rfl|exact k2 rfl|(simp only[zz,T,Nat.reduceAdd,Nat.reduceMul,Nat.reduceLeDiff,Nat.reduceEqDiff,twant,List.getElem?_toArray,Option.bind_some]<;>exact rfl)|exact rfl)));(with_reducible apply TO.here))|with_reducible refine TD.nil ?_|((with_reducible first|apply TD.mv|apply TD.asg|apply TD.bin|apply TD.ld|apply TD.fa|apply TD.ia|apply TD.pk|apply TD.bld|apply TD.ext|apply TD.bs|apply TD.mf );(repeat (focus (show _=_;first|exact k1 rfl|exact k2 rfl|(simp only[zz,T,Nat.reduceAdd,Nat.reduceMul,Nat.reduceLeDiff,Nat.reduceEqDiff,tload,dL,dH,List.getElem?_map,aJ,aH,Nat.zero_add,tlen,tbuild,tfill,tfield,tslice,tparts]<;>exact rfl)|exact rfl)));(with_reducible refine TD.here ?_))|((with_reducible apply TD.skip1);(repeat (focus (show _=_;first|exact k1 rfl|exact k2 rfl|(simp only[zz,T,Nat.reduceAdd,Nat.reduceMul,Nat.reduceLeDiff,Nat.reduceEqDiff,twant,List.getElem?_toArray,Option.bind_some]<;>exact rfl)|exact rfl)));(with_reducible refine TD.here ?_))|((with_reducible apply TX.cond_true);(focus rfl);(focus (first|rfl|(simp only[z1,Bool.not_true,Bool.not_false,T];done))))|((with_reducible apply TX.cond_false);(focus rfl);(focus (first|rfl|(simp only[z1,Bool.not_true,Bool.not_false,T];done))))|((with_reducible apply TX.region);(focus (simp only[List.toList_toArray]<;>exact rfl));(focus rfl);(try dsimp only))|((with_reducible apply TX.drawn);(focus decide +kernel);(focus (simp only[List.toList_toArray]<;>exact rfl));(focus exact rfl);(try dsimp only))|fail));exact g))(g:H):G:=h T g
theorem wI{A G H:Prop}(T:A)(h:A→H→G:=by (intro T g;(repeat (first|with_reducible refine mv ?_|with_reducible refine m12 rfl ?_|with_reducible refine TO.nil ?_|((with_reducible first|apply TO.mv|apply TO.asg|apply TO.bin|apply TO.ld|apply TO.fa|apply TO.ia|apply TO.pk|apply TO.sv|apply TO.al|apply TO.bld|apply TO.ext|apply TO.mf );(repeat (focus (show _=_;first|exact k1 rfl|exact k2 rfl|(simp only[zz,T,Nat.reduceAdd,Nat.reduceMul,Nat.reduceLeDiff,Nat.reduceEqDiff,tload,dL,dH,List.getElem?_map,aJ,aH,Nat.zero_add,tlen,tbuild,tfill,tfield,z5,Int.reduceToNat,Int.reduceLE,Int.reduceLT,Int.cast_ofNat_Int]<;>exact rfl)|exact rfl)));(with_reducible apply TO.here))|((with_reducible apply TO.skip1);(repeat (focus (show _=_;first|exact k1 rfl|exact k2 rfl|(simp only[zz,T,Nat.reduceAdd,Nat.reduceMul,Nat.reduceLeDiff,Nat.reduceEqDiff,twant,List.getElem?_toArray,Option.bind_some]<;>exact rfl)|exact rfl)));(with_reducible apply TO.here))|with_reducible refine TD.nil ?_|((with_reducible first|apply TD.mv|apply TD.asg|apply TD.bin|apply TD.ld|apply TD.fa|apply TD.ia|apply TD.pk|apply TD.bld|apply TD.ext|apply TD.mf );(repeat (focus (show _=_;first|exact k1 rfl|exact k2 rfl|(simp only[zz,T,Nat.reduceAdd,Nat.reduceMul,Nat.reduceLeDiff,Nat.reduceEqDiff,tload,dL,dH,List.getElem?_map,aJ,aH,Nat.zero_add,tlen,tbuild,tfill,tfield,z5,Int.reduceToNat,Int.reduceLE,Int.reduceLT,Int.cast_ofNat_Int]<;>exact rfl)|exact rfl)));(with_reducible refine TD.here ?_))|((with_reducible apply TD.skip1);(repeat (focus (show _=_;first|exact k1 rfl|exact k2 rfl|(simp only[zz,T,Nat.reduceAdd,Nat.reduceMul,Nat.reduceLeDiff,Nat.reduceEqDiff,twant,List.getElem?_toArray,Option.bind_some]<;>exact rfl)|exact rfl)));(with_reducible refine TD.here ?_))|((with_reducible apply TX.cond_true);(focus rfl);(focus (first|rfl|(simp only[z1,Bool.not_true,Bool.not_false,T];done))))|((with_reducible apply TX.cond_false);(focus rfl);(focus (first|rfl|(simp only[z1,Bool.not_true,Bool.not_false,T];done))))|((with_reducible apply TX.region);(focus (simp only[List.toList_toArray]<;>exact rfl));(focus rfl);(try dsimp only))|((with_reducible apply TX.drawn);(focus decide +kernel);(focus (simp only[List.toList_toArray]<;>exact rfl));(focus exact rfl);(try dsimp only))|fail));exact g))(g:H):G:=h T g
theorem sd{A:Prop}{α:Type}{a b:α}(T:A)(h:A→a=b:=by (intro T;first|exact k1 rfl|exact k2 rfl|(simp only[zz,T,Nat.reduceAdd,Nat.reduceMul,Nat.reduceLeDiff,Nat.reduceEqDiff,shift,kill,gW,frz,wK,view,tml,tmlc,List.length_set,tlen,tslice,tparts]<;>exact rfl)|exact rfl)):a=b:=h T
theorem wn{A:Prop}{α:Type}{a b:α}(T:A)(h:A→a=b:=by (intro T;first|rfl|(simp only[twant,z1,z7,T]<;>rfl))):a=b:=h T
theorem ry{A:Prop}{α:Type}{a b:α}(T:A)(h:A→a=b:=by (intro T;simp only[zy,T,iE,tres,tload,dL,dH];exact rfl)):a=b:=h T
theorem wk_{A:Prop}(T:A){tm tm':List TV}{hp hp':List TB}(fl:List (Option Nat))(hok:oN fl=true)(hB:RB fl hp hp' fl)(hT:A→RNs fl tm tm':=by (intro T;(repeat (first|exact RNs.nil|refine RNs.cons .Z ?_|refine RNs.cons (.keep rfl rfl) ?_|refine RNs.cons (.lsl rfl rfl) ?_|refine RNs.cons (.lsl rfl (by simp only[List.length_set])) ?_|refine RNs.cons (.lptr rfl) ?_|refine RNs.cons (.nil rfl) ?_|refine RNs.cons .nl ?_|refine RNs.cons (.keep (by simp only[T]) rfl) ?_|refine RNs.cons (.tuple' ?_) ?_|refine RNs.cons (.agg' ?_) ?_)))):Wk ⟨tm,hp⟩ ⟨tm',hp'⟩:=Wk.ren fl hok hB (hT T)
theorem ifs{α:Type}{b:Bool}{x y r:Option α}(h:(if b=true then x else y)=r):(b=true∧x=r)∨(b=false∧y=r):=by cases b<;>simp_all
theorem bs{α β:Type}{x:Option α}{f:α→Option β}{r:β}(h:x.bind f=some r):∃ a,x=some a∧f a=some r:=Option.bind_eq_some_iff.1 h
theorem gx{α:Type}{xs:List α}{i:Int}{a:α}(f:α→List TV)(h:cJ xs i=some a):tidx (xs.map f) i=some (f a)∧(0≤i∧i<xs.length)∧xs[i.toNat]?=some a:=And.intro (pV (f:=f) h) (And.intro (pD h) (pE h))
theorem lv{A:Prop}(T:A){b:Bool}{G:Prop}(hr:some b=some true)(h:A→b=true→G:=by (intro T hb;first|(cases hb;done)|((first|refine⟨.inl rfl,?_⟩|refine⟨.inr rfl,?_⟩);first|(simp only[iE,tres,z1,hb,Option.map_some]<;>exact rfl)|(simp only[T] at hb;simp only[iE,tres,z1,hb,Option.map_some]<;>exact rfl)))):G:=h T (a6 hr)
theorem vw{A:Prop}{α:Type}{a b:α}(T:A)(h:A→a=b:=by (intro T;simp only[view,z1,z3,List.toList_toArray,tml,tmlc,List.length_set,Nat.reduceEqDiff,if_false]<;>rfl)):a=b:=h T
end Go.Rex
namespace Go.Rex
open Go.RowKit
def al2{α β:Type}(p:α→β→Bool):List α→List β→Bool
 | [],[]=>true
 | a::s,b::t=>p a b&&al2 p s t
 | _,_=>false
theorem hG{α β:Type}{p:α→β→Bool}:∀ {s:List α} {t:List β},al2 p s t=true→t.length=s.length∧∀(i:Nat) a b,s[i]?=some a→t[i]?=some b→p a b=true
 | [],[],_=>⟨rfl,fun i a b h=>by simp at h⟩
 | [],_::_,hh=>by simp[al2] at hh
 | _::_,[],hh=>by simp[al2] at hh
 | a::s,b::t,hh=>by
  simp only[al2,Bool.and_eq_true] at hh
  obtain⟨h1,h2⟩:=hG hh.2
  refine⟨by simp[h1],fun i x y hx hy=>?_⟩
  cases i with
  | zero=>simp at hx hy;subst hx hy;exact hh.1
  | succ i=>exact h2 i x y (by simpa using hx) (by simpa using hy)
theorem vU{α:Type}{p:α→α→Bool}(h:∀ a b,p a b=true→a=b){s t:List α}(hh:al2 p s t=true):s=t:=by
 obtain⟨h1,h2⟩:=hG hh
 apply j4
 intro i
 cases hs:s[i]? with
 | none=>rw[e9] at hs;rw[eq_comm,e9];omega
 | some a =>
  have hi:=(a7.1 hs).1
  have ht:t[i]?=some t[i]:=a9 (by omega)
  rw[ht,h a _ (h2 i a _ hs ht)]
def nZ(σ:List Nat):Addr→Addr→Bool
 | ⟨n,o,none⟩,⟨n',o',none⟩=>(match σ[n]? with|some k=>Nat.beq k n'|none=>false)&&Nat.beq o o'
 | _,_=>false
def mV(σ:List Nat):Nat→Value→Value→Bool
 | 0,_,_=>false
 | d+1,a,b=>match a,b with
  | .bool x,.bool y=>x==y
  | .int k x,.int k' y=>decide (k=k')&&decide (x=y)
  | .float k x,.float k' y=>decide (k=k')&&Nat.beq x y
  | .complex k x z,.complex k' y u=>decide (k=k')&&(Nat.beq x y&&Nat.beq z u)
  | .string ⟨⟨s⟩⟩,.string ⟨⟨t⟩⟩=>decide (s=t)
  | .pointer none,.pointer none=>true
  | .pointer (some x),.pointer (some y)=>nZ σ x y
  | .slice none l c,.slice none l' c'=>Nat.beq l l'&&Nat.beq c c'
  | .slice (some x) l c,.slice (some y) l' c'=>nZ σ x y&&(Nat.beq l l'&&Nat.beq c c')
  | .map none,.map none=>true
  | .func (.func f) ⟨a⟩ ⟨b⟩,.func (.func g) ⟨a'⟩ ⟨b'⟩=>Nat.beq f g&&(al2 (mV σ d) a a'&&al2 (mV σ d) b b')
  | .nilFunc,.nilFunc=>true
  | .nilIface,.nilIface=>true
  | .iface t v,.iface t' v'=>Nat.beq t t'&&mV σ d v v'
  | .agg ⟨a⟩,.agg ⟨a'⟩=>al2 (mV σ d) a a'
  | .tuple ⟨a⟩,.tuple ⟨a'⟩=>al2 (mV σ d) a a'
  | _,_=>false
def dS(σ:List Nat)(D:Nat→Prop):Nat→Prop:=fun n=>∃ k,σ[n]?=some k∧D k
def mS(σ:List Nat)(m:NMap):NMap:=fun n=>m (σ[n]?.getD 0)
theorem Ca{σ:List Nat}{D:Nat→Prop}{m:NMap}:∀(d:Nat) (a b b':Value),mV σ d a b=true→VR D m b b'→VR (dS σ D) (mS σ m) a b':=by
 intro d
 induction d with
 | zero=>intro a b b' h;cases h
 | succ d ih =>
  intro a b b' h hr
  have hl:∀ {s t t':List Value},al2 (mV σ d) s t=true→VRs D m t t'→VRs (dS σ D) (mS σ m) s t':=by
   intro s t t' hh hs
   obtain⟨h1,h2⟩:=hG hh
   refine⟨hs.len.trans h1,fun i v v' hv hv'=>?_⟩
   have hi:=(a7.1 hv).1
   have ht:t[i]?=some t[i]:=a9 (by omega)
   exact ih v _ v' (h2 i v _ hv ht) (hs.at' i _ v' ht hv')
  have ha:∀ {x y:Addr},nZ σ x y=true→∃ n o k,x=⟨n,o,none⟩∧y=⟨k,o,none⟩∧σ[n]?=some k:=by
   intro x y hh
   obtain⟨n,o,s⟩:=x
   obtain⟨n',o',s'⟩:=y
   cases s<;>cases s'<;>simp only[nZ] at hh<;>try (cases hh;done)
   simp only[Bool.and_eq_true] at hh
   obtain⟨h1,h2⟩:=hh
   have h2:=Nat.eq_of_beq_eq_true h2
   subst h2
   split at h1
   ·rename_i k hk
    have h1:=Nat.eq_of_beq_eq_true h1
    subst h1
    exact⟨n,o,k,rfl,rfl,hk⟩
   ·cases h1
  have hms:∀ {n k:Nat},σ[n]?=some k→mS σ m n=m k:=fun hk=>by unfold mS;rw[hk];rfl
  unfold mV at h
  split at h
  ·cases hr;rw[eq_of_beq h];exact .bool _
  ·simp only[Bool.and_eq_true,decide_eq_true_eq] at h;cases hr;rw[h.1,h.2];exact .int _ _
  ·simp only[Bool.and_eq_true,decide_eq_true_eq] at h;cases hr;rw[h.1,Nat.eq_of_beq_eq_true h.2];exact .float _ _ _ ‹_›
  ·simp only[Bool.and_eq_true,decide_eq_true_eq] at h;cases hr;rw[h.1,Nat.eq_of_beq_eq_true h.2.1,Nat.eq_of_beq_eq_true h.2.2];exact .complex _ _ _ _ _ ‹_› ‹_›
  ·simp only[decide_eq_true_eq] at h;cases hr;rw[h];exact .string _
  ·cases hr;exact .nilPtr
  ·obtain⟨n,o,k,rfl,rfl,hk⟩:=ha h
   cases hr
   rename_i hD
   have:=VR.ptr (D:=dS σ D) (m:=mS σ m) n o ⟨k,hk,hD⟩
   rwa [hms hk] at this
  ·simp only[Bool.and_eq_true] at h;cases hr;rw[Nat.eq_of_beq_eq_true h.1,Nat.eq_of_beq_eq_true h.2];exact .nilSlice _ _
  ·simp only[Bool.and_eq_true] at h
   obtain⟨n,o,k,rfl,rfl,hk⟩:=ha h.1
   have e1:=Nat.eq_of_beq_eq_true h.2.1
   have e2:=Nat.eq_of_beq_eq_true h.2.2
   subst e1 e2
   cases hr with
   | slice _ _ _ _ c' hD hlc hcc he =>
    have:=VR.slice (D:=dS σ D) (m:=mS σ m) n o _ _ c' ⟨k,hk,hD⟩ hlc hcc (by rw[hms hk];exact he)
    rwa [hms hk] at this
  ·cases hr;exact .nilMap
  ·simp only[Bool.and_eq_true] at h
   cases hr with
   | func _ _ _ a' b' la ha' lb hb' =>
    rw[Nat.eq_of_beq_eq_true h.1]
    have h1:=hl h.2.1 ⟨la,ha'⟩
    have h2:=hl h.2.2 ⟨lb,hb'⟩
    exact .func _ _ _ _ _ h1.len h1.at' h2.len h2.at'
  ·cases hr;exact .nilFunc
  ·cases hr;exact .nilIface
  ·simp only[Bool.and_eq_true] at h
   cases hr with
   | iface _ _ v' hv=>rw[Nat.eq_of_beq_eq_true h.1];exact .iface _ _ _ (ih _ _ _ h.2 hv)
  ·cases hr with
   | agg _ a' la ha'=>exact .agg' (hl h ⟨la,ha'⟩)
  ·cases hr with
   | tuple _ a' la ha'=>exact .tuple' (hl h ⟨la,ha'⟩)
  ·cases h
def mB(σ:List Nat):Blk→Option Blk→Bool
 | .cells es c,some (.cells es' c')=>Nat.beq es es'&&al2 (mV σ 60) c c'
 | _,_=>false
def mH(σ:List Nat)(h:List Blk):List Nat→List Blk→Bool
 | [],[]=>true
 | n::t,b::s=>mB σ b h[n]?&&mH σ h t s
 | _,_=>false
theorem Cd{σ:List Nat}{h:List Blk}:∀ {t:List Nat} {s:List Blk},mH σ h t s=true→s.length=t.length∧∀(i:Nat) b,s[i]?=some b→∃ n,t[i]?=some n∧mB σ b h[n]?=true
 | [],[],_=>⟨rfl,fun i b h=>by simp at h⟩
 | [],_::_,hh=>by simp[mH] at hh
 | _::_,[],hh=>by simp[mH] at hh
 | n::t,b::s,hh=>by
  simp only[mH,Bool.and_eq_true] at hh
  obtain⟨h1,h2⟩:=Cd hh.2
  refine⟨by simp[h1],fun i x hx=>?_⟩
  cases i with
  | zero=>simp at hx;subst hx;exact⟨n,rfl,hh.1⟩
  | succ i=>exact h2 i x (by simpa using hx)
def Eg(σ:List Nat):Option Addr→List Nat
 | some ⟨n,_,none⟩=>if σ.contains n then σ else σ++[n]
 | _=>σ
def lL:Nat→List Nat→Value→List Nat
 | 0,σ,_=>σ
 | d+1,σ,v=>match v with
  | .pointer a=>Eg σ a
  | .slice a _ _=>Eg σ a
  | .func _ ⟨a⟩ ⟨b⟩=>b.foldl (lL d) (a.foldl (lL d) σ)
  | .iface _ v=>lL d σ v
  | .agg ⟨a⟩=>a.foldl (lL d) σ
  | .tuple ⟨a⟩=>a.foldl (lL d) σ
  | _=>σ
def reach(h:List Blk):Nat→Nat→List Nat→List Nat
 | 0,_,σ=>σ
 | k+1,i,σ=>match σ[i]? with
  | none=>σ
  | some n=>match h[n]? with
   | some (.cells _ c)=>reach h k (i+1) (c.foldl (lL 60) σ)
   | _=>reach h k (i+1) σ
def tH(args:List Value)(h:List Blk):List Nat:=reach h 1000 0 (args.foldl (lL 60) (List.range NG))
structure Piece where
 f:FuncId
 args:List Value
 h:List Blk
 v:Value
def fits(p:Piece)(args:List Value)(h:List Blk)(σ:List Nat):Bool:=al2 Nat.beq (List.range NG) (σ.take NG)&&(al2 (mV σ 60) p.args args&&mH σ h σ p.h)
def look:List Piece→FuncId→List Value→List Blk→Option Value
 | [],_,_,_=>none
 | p::t,f,args,h=>match Nat.beq p.f f with
  | true=>(match fits p args h (tH args h) with
   | true=>some p.v
   | false=>look t f args h)
  | false=>look t f args h
def Dg(P:Program)(tab:List Piece)(k:Nat):Nat→Ctx
 | 0=>⟨fun _ _ _=>none,fun _ _ _=>none⟩
 | d + 1 => ⟨fun f args h => match look tab f args h with
     | some v=>some (v,h,none)
     | none=>dF (Dg P tab k d) P k f args h,iY (Dg P tab k d) P k⟩
def Es(P:Program)(tab:List Piece)(k d:Nat)(p:Piece):AOut:=dF (Dg P tab k d) P k p.f p.args p.h
theorem Ce{σ:List Nat}{D D':Nat→Prop}{m m':NMap}(hσ:∀ n k,σ[n]?=some k→D n→D' k∧m' k=m n):∀(d:Nat) (a b b':Value),mV σ d a b=true→VR D m a b'→VR D' m' b b':=by
 intro d
 induction d with
 | zero=>intro a b b' h;cases h
 | succ d ih =>
  intro a b b' h hr
  have hl:∀ {s t t':List Value},al2 (mV σ d) s t=true→VRs D m s t'→VRs D' m' t t':=by
   intro s t t' hh hs
   obtain⟨h1,h2⟩:=hG hh
   refine⟨hs.len.trans h1.symm,fun i v v' hv hv'=>?_⟩
   have hi:=(a7.1 hv).1
   have ht:s[i]?=some s[i]:=a9 (by omega)
   exact ih _ v v' (h2 i _ v ht hv) (hs.at' i _ v' ht hv')
  have ha:∀ {x y:Addr},nZ σ x y=true→∃ n o k,x=⟨n,o,none⟩∧y=⟨k,o,none⟩∧σ[n]?=some k:=by
   intro x y hh
   obtain⟨n,o,s⟩:=x
   obtain⟨n',o',s'⟩:=y
   cases s<;>cases s'<;>simp only[nZ] at hh<;>try (cases hh;done)
   simp only[Bool.and_eq_true] at hh
   obtain⟨h1,h2⟩:=hh
   have h2:=Nat.eq_of_beq_eq_true h2
   subst h2
   split at h1
   ·rename_i k hk
    have h1:=Nat.eq_of_beq_eq_true h1
    subst h1
    exact⟨n,o,k,rfl,rfl,hk⟩
   ·cases h1
  unfold mV at h
  split at h
  ·cases hr;rw[← eq_of_beq h];exact .bool _
  ·simp only[Bool.and_eq_true,decide_eq_true_eq] at h;cases hr;rw[← h.1,← h.2];exact .int _ _
  ·simp only[Bool.and_eq_true,decide_eq_true_eq] at h;cases hr;rw[← h.1,← Nat.eq_of_beq_eq_true h.2];exact .float _ _ _ (by assumption)
  ·simp only[Bool.and_eq_true,decide_eq_true_eq] at h;cases hr;rw[← h.1,← Nat.eq_of_beq_eq_true h.2.1,← Nat.eq_of_beq_eq_true h.2.2];exact .complex _ _ _ _ _ (by assumption) (by assumption)
  ·simp only[decide_eq_true_eq] at h;cases hr;rw[← h];exact .string _
  ·cases hr;exact .nilPtr
  ·obtain⟨n,o,k,rfl,rfl,hk⟩:=ha h
   cases hr
   rename_i hD
   obtain⟨e1,e2⟩:=hσ n k hk hD
   have:=VR.ptr (D:=D') (m:=m') k o e1
   rwa [e2] at this
  ·simp only[Bool.and_eq_true] at h;cases hr;rw[← Nat.eq_of_beq_eq_true h.1,← Nat.eq_of_beq_eq_true h.2];exact .nilSlice _ _
  ·simp only[Bool.and_eq_true] at h
   obtain⟨n,o,k,rfl,rfl,hk⟩:=ha h.1
   have e1:=Nat.eq_of_beq_eq_true h.2.1
   have e2:=Nat.eq_of_beq_eq_true h.2.2
   subst e1 e2
   cases hr with
   | slice _ _ _ _ c' hD hlc hcc he =>
    obtain⟨e1,e2⟩:=hσ n k hk hD
    have:=VR.slice (D:=D') (m:=m') k o _ _ c' e1 hlc hcc (by rw[e2];exact he)
    rwa [e2] at this
  ·cases hr;exact .nilMap
  ·simp only[Bool.and_eq_true] at h
   cases hr with
   | func _ _ _ a' b' la ha' lb hb' =>
    rw[← Nat.eq_of_beq_eq_true h.1]
    have h1:=hl h.2.1 ⟨la,ha'⟩
    have h2:=hl h.2.2 ⟨lb,hb'⟩
    exact .func _ _ _ _ _ h1.len h1.at' h2.len h2.at'
  ·cases hr;exact .nilFunc
  ·cases hr;exact .nilIface
  ·simp only[Bool.and_eq_true] at h
   cases hr with
   | iface _ _ v' hv=>rw[← Nat.eq_of_beq_eq_true h.1];exact .iface _ _ _ (ih _ _ _ h.2 hv)
  ·cases hr with
   | agg _ a' la ha'=>exact .agg' (hl h ⟨la,ha'⟩)
  ·cases hr with
   | tuple _ a' la ha'=>exact .tuple' (hl h ⟨la,ha'⟩)
  ·cases h
def Et(τ:List Nat):Addr→Addr
 | ⟨n,o,none⟩=>⟨aC τ n,o,none⟩
 | a=>a
def ren(τ:List Nat):Nat→Value→Value
 | 0,v=>v
 | d+1,v=>match v with
  | .pointer (some a)=>.pointer (some (Et τ a))
  | .slice (some a) l c=>.slice (some (Et τ a)) l c
  | .func f ⟨a⟩ ⟨b⟩=>.func f ⟨a.map (ren τ d)⟩ ⟨b.map (ren τ d)⟩
  | .iface t v=>.iface t (ren τ d v)
  | .agg ⟨a⟩=>.agg ⟨a.map (ren τ d)⟩
  | .tuple ⟨a⟩=>.tuple ⟨a.map (ren τ d)⟩
  | v=>v
def Ez(τ:List Nat):Blk→Blk
 | .cells es c=>.cells es (c.map (ren τ 60))
 | b=>b
def rng(n:Nat):Nat→List Nat
 | 0=>[]
 | k+1=>n::rng (n+1) k
theorem rY:∀(k n:Nat),(rng n k).length=k
 | 0,_=>rfl
 | k+1,n=>by simp[rng,rY k]
theorem vS:∀(k n i:Nat),i<k→(rng n k)[i]?=some (n+i)
 | 0,_,_,h=>by omega
 | k+1,n,0,_=>rfl
 | k+1,n,i+1,h=>by simp only[rng,List.getElem?_cons_succ];rw[vS k (n+1) i (by omega)];congr 1;omega
structure PieceN extends Piece where
 nb:List Blk
def mBs(σ:List Nat)(a b:Blk):Bool:=match a,b with
 | .dead,.dead=>true
 | _,_=>mB σ a (some b)
def qG:List PieceN→FuncId→List Value→List Blk→Option (Value×List Blk)
 | [],_,_,_=>none
 | p::t,f,args,h=>match Nat.beq p.f f with
  | true =>
   let σ:=tH args h
   match fits p.toPiece args h σ with
   | true =>
    let τ:=σ++rng h.length p.nb.length
    let v:=ren τ 60 p.v
    let bs:=p.nb.map (Ez τ)
    match mV τ 60 p.v v&&al2 (mBs τ) p.nb bs with
    | true=>some (v,h++bs)
    | false=>qG t f args h
   | false=>qG t f args h
  | false=>qG t f args h
def bY(P:Program)(p:PieceN):Prop:=
 ∀ {D:Nat→Prop} {m:NMap} {w:World} {args':List Value},Rel w.heap.size p.h.length D m p.h w→VRs D m p.args args'→Calls P p.f ⟨args'⟩ w (Good w.heap.size p.h.length D m p.h w p.v (p.h++p.nb))
theorem Bg{B lo:Nat}{D:Nat→Prop}{m m':NMap}{h hp nb bs:List Blk}{w w':World}{σ:List Nat}(hr:Rel B lo D m h w)(hlo:lo≤h.length)(hσ:σ.length=hp.length)
 (hp':Post w.heap.size hp.length (dS σ D) (mS σ m) hp w m' (hp++nb) w') (hbs:al2 (mBs (σ++rng h.length nb.length)) nb bs=true) :
 Post B lo D m h w (fun j=>if j<h.length then m j else m' (hp.length+(j-h.length))) (h++bs) w' ∧
  ∀ n k,(σ++rng h.length nb.length)[n]?=some k→Dx (dS σ D) hp.length (hp++nb).length n→Dx D h.length (h++bs).length k∧(fun j=>if j<h.length then m j else m' (hp.length+(j-h.length))) k=m' n:=by
 obtain⟨hbl,hba⟩:=hG hbs
 have hlt:∀ n,D n→(if n<h.length then m n else m' (hp.length+(n-h.length)))=m n:=fun n hn=>b5 (hr.dom n hn)
 have hge:∀ i,(if h.length+i<h.length then m (h.length+i) else m' (hp.length+(h.length+i-h.length)))=m' (hp.length+i):=fun i=>by
  rw[b6 (by omega),Nat.add_sub_cancel_left]
 have hτ:∀ n k,(σ++rng h.length nb.length)[n]?=some k→Dx (dS σ D) hp.length (hp++nb).length n→Dx D h.length (h++bs).length k∧(fun j=>if j<h.length then m j else m' (hp.length+(j-h.length))) k=m' n:=by
  intro n k hk hd
  by_cases hn:n<σ.length
  ·rw[b8 hn] at hk
   rcases hd with⟨k',hk',hD⟩|hd
   ·obtain rfl:=a6 (hk'.symm.trans hk)
    refine⟨.inl hD,?_⟩
    simp only[hlt _ hD]
    rw[hp'.agree n ⟨_,hk',hD⟩]
    unfold mS
    rw[hk']
    rfl
   ·omega
  ·rw[c9 (by omega)] at hk
   have hi:n-σ.length<nb.length:=by
    have:=(a7.1 hk).1
    rwa [rY] at this
   rw[vS _ _ _ hi] at hk
   obtain rfl:=a6 hk
   refine⟨.inr ⟨by omega,by rw[j1,hbl];omega⟩,?_⟩
   simp only[hge]
   congr 1
   omega
 refine⟨⟨fun n hn=>hlt n hn,?_,hp'.below.mono hr.le,by simp⟩,hτ⟩
 have hf:=hr.frame hp'.below
 have split:∀ n b,Dx D h.length (h++bs).length n→(h++bs)[n]?=some b→(D n∧h[n]?=some b)∨∃ i c,n=h.length+i∧nb[i]?=some c∧bs[i]?=some b∧mBs (σ++rng h.length nb.length) c b=true∧Dx (dS σ D) hp.length (hp++nb).length (hp.length+i)∧(hp++nb)[hp.length+i]?=some c:=by
  intro n b hd hb
  by_cases hn:n<h.length
  ·rw[b8 hn] at hb
   rcases hd with hd|hd
   ·exact .inl ⟨hd,hb⟩
   ·omega
  ·rw[c9 (by omega)] at hb
   have hi:=(a7.1 hb).1
   have hc:nb[n-h.length]?=some nb[n-h.length]:=a9 (by omega)
   refine .inr ⟨n-h.length,_,by omega,hc,hb,hba _ _ _ hc hb,.inr ⟨by omega,by rw[j1];omega⟩,?_⟩
   rw[c9 (by omega),Nat.add_sub_cancel_left]
   exact hc
 have cells:∀ {c b:Blk},mBs (σ++rng h.length nb.length) c b=true→b ≠ .dead→∃ es x y,c = .cells es x∧b = .cells es y∧al2 (mV (σ++rng h.length nb.length) 60) x y=true:=by
  intro c b hm hne
  unfold mBs at hm
  cases c<;>cases b<;>simp only[mB] at hm<;>try (cases hm;done)
  ·exact absurd rfl hne
  simp only[Bool.and_eq_true] at hm
  have e1:=Nat.eq_of_beq_eq_true hm.1
  subst e1
  exact⟨_,_,_,rfl,rfl,hm.2⟩
 refine⟨e6 hr.le hp'.below.size,fun n hd=>?_,fun n b hd hb=>?_,fun n b hd hb hne=>?_,fun n b hd hl hb hne=>?_,fun n b hd hl hb hne=>?_,fun n b hd hl hb=>?_,fun n n' b b' hd hd' hl hl' hb hb' hne hne' he=>?_,?_⟩
 ·rcases hd with hd|hd
  ·have:=hr.dom n hd;simp;omega
  ·exact hd.2
 ·rcases split n b hd hb with⟨h1,h2⟩|⟨i,c,rfl,h1,h2,h3,h4,h5⟩
  ·exact (hf.ok n b h1 h2).mono (fun k hk=>.inl hk) (fun k hk=>hlt k hk) (hlt n h1)
  ·by_cases hne:b = .dead
   ·subst hne;trivial
   obtain⟨es,x,y,rfl,rfl,hxy⟩:=cells h3 hne
   obtain⟨o1,o2⟩:=hp'.rel.ok _ _ h4 h5
   obtain⟨l1,l2⟩:=hG hxy
   refine⟨by simp only[hge];exact o1,fun q v hv=>?_⟩
   have hq:=(a7.1 hv).1
   have hx:x[q]?=some x[q]:=a9 (by omega)
   obtain⟨v',q1,q2⟩:=o2 q _ hx
   exact⟨v',by simp only[hge];exact q1,Ce hτ 60 _ v v' (l2 q _ v hx hv) q2⟩
 ·rcases split n b hd hb with⟨h1,h2⟩|⟨i,c,rfl,h1,h2,h3,h4,h5⟩
  ·simp only[hlt n h1];exact hf.lt n b h1 h2 hne
  ·obtain⟨es,x,y,rfl,rfl,hxy⟩:=cells h3 hne
   simp only[hge]
   exact hp'.rel.lt _ _ h4 h5 (by simp)
 ·rcases split n b hd hb with⟨h1,h2⟩|⟨i,c,rfl,h1,h2,h3,h4,h5⟩
  ·simp only[hlt n h1];exact hr.base n b h1 hl h2 hne
  ·obtain⟨es,x,y,rfl,rfl,hxy⟩:=cells h3 hne
   simp only[hge]
   exact e6 hr.le (hp'.rel.base _ _ h4 (by omega) h5 (by simp))
 ·rcases split n b hd hb with⟨h1,h2⟩|⟨i,c,rfl,h1,h2,h3,h4,h5⟩
  ·simp only[hlt n h1];exact hr.low n b h1 hl h2 hne
  ·omega
 ·rcases split n b hd hb with⟨h1,h2⟩|⟨i,c,rfl,h1,h2,h3,h4,h5⟩
  ·have:=hf.own n b h1 hl h2
   cases b<;>try trivial
   all_goals
    unfold Owns at this ⊢
    simp only[hlt n h1]
    exact this
  ·by_cases hne:b = .dead
   ·subst hne;trivial
   obtain⟨es,x,y,rfl,rfl,hxy⟩:=cells h3 hne
   have:=hp'.rel.own _ _ h4 (by omega) h5
   unfold Owns at this ⊢
   simp only[hge]
   rw[(hG hxy).1]
   exact this
 ·rcases split n b hd hb with⟨h1,h2⟩|⟨i,c,rfl,h1,h2,h3,h4,h5⟩<;>rcases split n' b' hd' hb' with⟨h1',h2'⟩|⟨i',c',rfl,h1',h2',h3',h4',h5'⟩
  ·simp only[hlt n h1,hlt n' h1'] at he
   exact hr.inj n n' b b' h1 h1' hl hl' h2 h2' hne hne' he
  ·obtain⟨es,x,y,rfl,rfl,hxy⟩:=cells h3' hne'
   simp only[hlt n h1,hge] at he
   have e1:=hr.lt n b h1 h2 hne
   have e2:=hp'.rel.base _ _ h4' (by omega) h5' (by simp)
   omega
  ·obtain⟨es,x,y,rfl,rfl,hxy⟩:=cells h3 hne
   simp only[hlt n' h1',hge] at he
   have e1:=hr.lt n' b' h1' h2' hne'
   have e2:=hp'.rel.base _ _ h4 (by omega) h5 (by simp)
   omega
  ·obtain⟨es,x,y,rfl,rfl,hxy⟩:=cells h3 hne
   obtain⟨es',x',y',rfl,rfl,hxy'⟩:=cells h3' hne'
   simp only[hge] at he
   have:=hp'.rel.inj _ _ _ _ h4 h4' (by omega) (by omega) h5 h5' (by simp) (by simp) he
   omega
 ·exact hf.gl.mono (fun n hn=>.inl hn) (fun n hn=>hlt n hn)
theorem zY{p:Piece}{args:List Value}{h:List Blk}{σ:List Nat}{B lo:Nat}{D:Nat→Prop}{m:NMap}{w:World}{args':List Value}(hr:Rel B lo D m h w)(hargs:VRs D m args args')(hb:fits p args h σ=true) :
 σ.length=p.h.length∧Rel w.heap.size p.h.length (dS σ D) (mS σ m) p.h w∧VRs (dS σ D) (mS σ m) p.args args':=by
 simp only[fits,Bool.and_eq_true] at hb
 obtain⟨h0,h1,h2⟩:=hb
 have hg0:∀ g,g<NG→σ[g]?=some g:=fun g hg=>by
  obtain⟨k1,k2⟩:=hG h0
  have hl:g<(σ.take NG).length:=by rw[k1,List.length_range];exact hg
  have h3:=k2 g g _ (by simp[hg]) (a9 hl)
  have h4:=Nat.eq_of_beq_eq_true h3
  rw[List.getElem_take] at h4
  rw[a9 (by rw[List.length_take] at hl;omega),← h4]
 obtain⟨hlen,hat⟩:=Cd h2
 have hargs0:VRs (dS σ D) (mS σ m) p.args args':=by
  obtain⟨k1,k2⟩:=hG h1
  refine⟨hargs.len.trans k1,fun i v v' hv hv'=>?_⟩
  have hi:=(a7.1 hv).1
  have hb:args[i]?=some args[i]:=a9 (by omega)
  exact Ca 60 v _ v' (k2 i v _ hv hb) (hargs.at' i _ v' hb hv')
 have blk:∀ n b,dS σ D n→p.h[n]?=some b→BlkOk (dS σ D) (mS σ m) w n b∧(mS σ m n).block<w.heap.size:=by
  rintro n b ⟨k,hk,hD⟩ hb
  obtain⟨k',hk',hm⟩:=hat n b hb
  obtain rfl:=a6 (hk.symm.trans hk')
  have ems:mS σ m n=m k:=by unfold mS;rw[hk];rfl
  cases hx:h[k]? with
  | none=>rw[hx] at hm;cases b<;>simp[mB] at hm
  | some b' =>
   rw[hx] at hm
   cases b<;>cases b'<;>simp only[mB] at hm<;>try (cases hm;done)
   rename_i es c es' c'
   simp only[Bool.and_eq_true] at hm
   have e1:=Nat.eq_of_beq_eq_true hm.1
   subst e1
   obtain⟨o1,o2⟩:=hr.ok k _ hD hx
   have o3:=hr.lt k _ hD hx (by simp)
   rw[← ems] at o1 o2 o3
   obtain⟨l1,l2⟩:=hG hm.2
   refine⟨⟨o1,fun i v hv=>?_⟩,o3⟩
   have hi:=(a7.1 hv).1
   have hc':c'[i]?=some c'[i]:=a9 (by omega)
   obtain⟨v',q1,q2⟩:=o2 i _ hc'
   exact⟨v',q1,Ca 60 v _ v' (l2 i v _ hv hc') q2⟩
 have dom:∀ n,dS σ D n→n<p.h.length:=by
  rintro n ⟨k,hk,_⟩
  have:=(a7.1 hk).1
  omega
 have hR:Rel w.heap.size p.h.length (dS σ D) (mS σ m) p.h w:=
  ⟨b7 _,dom,fun n b hD hb=>(blk n b hD hb).1,fun n b hD hb _=>(blk n b hD hb).2,fun n b hD hl=>absurd (dom n hD) (by omega),fun n b hD _ hb _=>(blk n b hD hb).2,
   fun n b hD hl=>absurd (dom n hD) (by omega),fun n n' b b' hD _ hl=>absurd (dom n hD) (by omega),⟨fun g hg=>by
    obtain⟨q1,q2⟩:=hr.gl.nm g hg
    have ems:mS σ m g=m g:=by unfold mS;rw[hg0 g hg];rfl
    rw[ems]
    exact⟨⟨g,hg0 g hg,q1⟩,q2⟩,e6 hr.gl.gb hr.le,hr.gl.gw⟩⟩
 exact⟨hlen.symm,hR,hargs0⟩
theorem uU{P:Program}:∀ {tab:List PieceN},(∀ p∈tab,bY P p)→∀ {f:FuncId} {args:List Value} {h:List Blk} {r:Value×List Blk},qG tab f args h=some r →
 ∀(B lo:Nat) (D:Nat→Prop) (m:NMap) (w:World) (args':List Value),Rel B lo D m h w→lo≤h.length→VRs D m args args'→Calls P f ⟨args'⟩ w (Good B lo D m h w r.1 r.2)
 | [],_,f,args,h,r,hv=>by cases hv
 | p::t,ht,f,args,h,r,hv=>by
  intro B lo D m w args' hr hlo hargs
  have next:qG t f args h=some r→Calls P f ⟨args'⟩ w (Good B lo D m h w r.1 r.2):=fun hv=>uU (fun p hp=>ht p (by simp[hp])) hv B lo D m w args' hr hlo hargs
  simp only[qG] at hv
  split at hv
  ·rename_i hf
   have hf:=Nat.eq_of_beq_eq_true hf
   subst hf
   split at hv
   ·rename_i hb
    split at hv
    ·rename_i hm
     obtain rfl:=a6 hv
     generalize tH args h=σ at hb hm
     obtain⟨hσ,hR,hargs0⟩:=zY hr hargs hb
     rw[Bool.and_eq_true] at hm
     refine (ht p (by simp) hR hargs0).mono ?_
     rintro e w' ⟨v',m',rfl,hp,hvr⟩
     obtain⟨q1,q2⟩:=Bg hr hlo hσ hp hm.2
     exact⟨v',_,rfl,q1,Ce q2 60 _ _ v' hm.1 hvr⟩
    ·exact next hv
   ·exact next hv
  ·exact next hv
def qS(P:Program)(tab:List PieceN)(k:Nat):Nat→Ctx
 | 0=>⟨fun _ _ _=>none,fun _ _ _=>none⟩
 | d + 1 => ⟨fun f args h => match qG tab f args h with
     | some r=>some (r.1,r.2,none)
     | none=>dF (qS P tab k d) P k f args h,iY (qS P tab k d) P k⟩
theorem kY{P:Program}(hm:P.follows .mixedOrders=true){tab:List PieceN}(ht:∀ p∈tab,bY P p)(k:Nat):∀ d,CtxOk P (qS P tab k d)
 | 0=>⟨fun h=>by simp[qS] at h,fun h=>by simp[qS] at h⟩
 | d+1 =>
  have hD:fX P (qS P tab k d):=fun {_ _ _ _ _ _ _} hv {_ _ _ _ _ _ _ _ _} hr hlo hA hw hQ=>iV (kY hm ht k d) hm hv hr hlo hA hw hQ
  ⟨fun {f args h v h' wr} hv {B lo D m w args'} hr hlo hw hargs=>by
   simp only[qS] at hv
   split at hv
   ·rename_i r hl
    have hv:=a6 hv
    obtain⟨rfl,rfl,rfl⟩:r.1=v∧r.2=h'∧none=wr:=by simpa using hv
    exact uU ht hl B lo D m w args' hr hlo hargs
   ·exact eY (kY hm ht k d) hD hv hr hlo hw hargs,fun h=>hE (kY hm ht k d) hD h⟩
def yF(P:Program)(tab:List PieceN)(k d:Nat)(p:PieceN):AOut:=dF (qS P tab k d) P k p.f p.args p.h
def kdB(σ:List Nat)(a b:Blk):Bool:=match a with
 | .dead=>true
 | _=>mBs σ a b
theorem Rel.kills{B lo:Nat}{D:Nat→Prop}{m:NMap}{h h2:List Blk}{w:World}(hr:Rel B lo D m h w)(hl:h2.length=h.length)(hk:∀(n:Nat) (b:Blk),h2[n]?=some b→b=Blk.dead∨h[n]?=some b):Rel B lo D m h2 w:=by
 refine⟨hr.le,fun n hn=>by rw[hl];exact hr.dom n hn,fun n b hd hb=>?_,fun n b hd hb hne=>?_,fun n b hd hlo hb hne=>?_,fun n b hd hlo hb hne=>?_,fun n b hd hlo hb=>?_,fun n n' b b' hd hd' hl1 hl2 hb hb' hne hne' he=>?_,hr.gl⟩
 ·rcases hk n b hb with rfl|h
  ·trivial
  ·exact hr.ok n b hd h
 ·exact hr.lt n b hd ((hk n b hb).resolve_left hne) hne
 ·exact hr.base n b hd hlo ((hk n b hb).resolve_left hne) hne
 ·exact hr.low n b hd hlo ((hk n b hb).resolve_left hne) hne
 ·rcases hk n b hb with rfl|h
  ·trivial
  ·exact hr.own n b hd hlo h
 ·exact hr.inj n n' b b' hd hd' hl1 hl2 ((hk n b hb).resolve_left hne) ((hk n' b' hb').resolve_left hne') hne hne' he
def eqN(p:PieceN):AOut→Bool
 | some (v,h,none)=>mV (rng 0 h.length) 60 p.v v&&al2 (kdB (rng 0 h.length)) p.nb (h.drop p.h.length)&&al2 (mBs (rng 0 h.length)) p.h (h.take p.h.length)
 | _=>false
theorem Cb{N:Nat}:∀(d:Nat) (a b:Value),mV (rng 0 N) d a b=true→a=b:=by
 intro d
 induction d with
 | zero=>intro a b h;cases h
 | succ d ih =>
  intro a b h
  have hl:∀ {s t:List Value},al2 (mV (rng 0 N) d) s t=true→s=t:=fun hh=>vU ih hh
  have ha:∀ {x y:Addr},nZ (rng 0 N) x y=true→x=y:=by
   intro x y hh
   obtain⟨n,o,s⟩:=x
   obtain⟨n',o',s'⟩:=y
   cases s<;>cases s'<;>simp only[nZ] at hh<;>try (cases hh;done)
   simp only[Bool.and_eq_true] at hh
   obtain⟨h1,h2⟩:=hh
   have h2:=Nat.eq_of_beq_eq_true h2
   subst h2
   split at h1
   ·rename_i k hk
    have h1:=Nat.eq_of_beq_eq_true h1
    subst h1
    have hn:n<N:=by have:=(a7.1 hk).1;rwa [rY] at this
    rw[vS _ _ _ hn] at hk
    have:=a6 hk
    simp at this
    subst this
    rfl
   ·cases h1
  unfold mV at h
  split at h
  ·rw[eq_of_beq h]
  ·simp only[Bool.and_eq_true,decide_eq_true_eq] at h;rw[h.1,h.2]
  ·simp only[Bool.and_eq_true,decide_eq_true_eq] at h;rw[h.1,Nat.eq_of_beq_eq_true h.2]
  ·simp only[Bool.and_eq_true,decide_eq_true_eq] at h;rw[h.1,Nat.eq_of_beq_eq_true h.2.1,Nat.eq_of_beq_eq_true h.2.2]
  ·simp only[decide_eq_true_eq] at h;rw[h]
  ·rfl
  ·rw[ha h]
  ·simp only[Bool.and_eq_true] at h;rw[Nat.eq_of_beq_eq_true h.1,Nat.eq_of_beq_eq_true h.2]
  ·simp only[Bool.and_eq_true] at h;rw[ha h.1,Nat.eq_of_beq_eq_true h.2.1,Nat.eq_of_beq_eq_true h.2.2]
  ·rfl
  ·simp only[Bool.and_eq_true] at h;rw[Nat.eq_of_beq_eq_true h.1,hl h.2.1,hl h.2.2]
  ·rfl
  ·rfl
  ·simp only[Bool.and_eq_true] at h;rw[Nat.eq_of_beq_eq_true h.1,ih _ _ h.2]
  ·rw[hl h]
  ·rw[hl h]
  ·cases h
theorem Bf{N:Nat}{a b:Blk}(h:mBs (rng 0 N) a b=true):a=b:=by
 unfold mBs at h
 cases a<;>cases b<;>simp only[mB] at h<;>try (cases h;done)
 ·rfl
 simp only[Bool.and_eq_true] at h
 rw[Nat.eq_of_beq_eq_true h.1,vU (fun a b hh=>Cb 60 a b hh) h.2]
theorem aL{P:Program}(hm:P.follows .mixedOrders=true){tab:List PieceN}(ht:∀ p∈tab,bY P p){k d:Nat}{p:PieceN}(hv:eqN p (yF P tab k d p)=true):bY P p:=by
 unfold eqN at hv
 split at hv
 ·rename_i v h hx
  simp only[Bool.and_eq_true] at hv
  obtain⟨⟨h1,h2⟩,h3⟩:=hv
  have e1:=Cb 60 _ _ h1
  have e3:p.h=h.take p.h.length:=vU (fun a b hh=>Bf hh) h3
  obtain⟨k1,k2⟩:=hG h2
  have k3:p.h.length≤h.length:=by
   have:=congrArg List.length e3
   rw[List.length_take] at this
   omega
  have hlen:(p.h++p.nb).length=h.length:=by rw[j1,← k1,List.length_drop];omega
  have hk:∀(n:Nat) (b:Blk),(p.h++p.nb)[n]?=some b→b=Blk.dead∨h[n]?=some b:=by
   intro n b hb
   by_cases hn:n<p.h.length
   ·rw[b8 hn] at hb
    refine .inr ?_
    have hq:(h.take p.h.length)[n]?=h[n]?:=by rw[j6,b5 hn]
    rw[← hq,← e3]
    exact hb
   ·rw[c9 (by omega)] at hb
    have hi:=(a7.1 hb).1
    have hd:(h.drop p.h.length)[n-p.h.length]?=some (h.drop p.h.length)[n-p.h.length]:=a9 (by omega)
    have hm:=k2 _ _ _ hb hd
    unfold kdB at hm
    split at hm
    ·exact .inl rfl
    ·refine .inr ?_
     rw[Bf hm,← hd,j2]
     congr 1
     omega
  intro D m w args' hr hargs
  have hD:fX P (qS P tab k d):=fun {_ _ _ _ _ _ _} hv {_ _ _ _ _ _ _ _ _} hr hlo hA hw hQ=>iV (kY hm ht k d) hm hv hr hlo hA hw hQ
  rw[e1]
  refine (eY (kY hm ht k d) hD hx hr (b7 _) (fun n hn=>by cases hn) hargs).mono ?_
  rintro e w' ⟨v',m',rfl,hp,hvr⟩
  refine⟨v',m',rfl,⟨hp.agree,?_,hp.below,by simp⟩,by rw[hlen];exact hvr⟩
  rw[hlen]
  exact hp.rel.kills hlen hk
 ·cases hv
theorem qM{P:Program}(hm:P.follows .mixedOrders=true){tab:List PieceN}(ht:∀ p∈tab,bY P p){k d:Nat}{f:FuncId}(hv:nX ((qS P tab k d).call f [] GH)=true):AwT P f:=by
 intro w hgw hgs
 unfold nX at hv
 split at hv
 ·rename_i h' hx
  refine ((kY hm ht k d).call hx (Rel.start w hgw hgs) (b7 _) (fun n h=>by cases h) VRs.nil).mono ?_
  rintro e w' ⟨v',m',rfl,hp,hvr⟩
  cases hvr
  exact⟨rfl,hp.below⟩
 ·cases hv
theorem aP{P:Program}:∀ p∈([]:List PieceN),bY P p:=fun p hp=>by simp at hp
theorem aD{P:Program}{p:PieceN}{tab:List PieceN}(h:bY P p)(ht:∀ p∈tab,bY P p):∀ q∈p::tab,bY P q:=by
 intro q hq
 rcases j5.1 hq with rfl|hq
 ·exact h
 ·exact ht q hq
end Go.Rex
