/- An executor of the program's functions on trees of values, proved sound. -/
import Derived.Test.YtjhneebncpmneaaGreatDoorRexG7
import Derived.IntWalk
import Derived.KernelRfl
set_option linter.unusedSimpArgs false
set_option linter.unusedVariables false
set_option linter.defProp false
namespace Go.Rex
open Go.RowKit
section
variable {P : Program} {Fz : Nat → Prop} {h h0 : List Blk} {L : Nat → LI}
theorem flat_at : ∀ {rows : List (List TV)} {es : Nat},(∀ r ∈ rows,r.length = es) → ∀ {i j : Nat} {row : List TV},rows[i]? = some row → j < es → rows.flatten[i * es + j]? = row[j]?
  | [],es,_,i,j,row,hr,_=>by simp at hr
  | r :: rows,es,hw,0,j,row,hr,hj=>by
    simp at hr
    subst hr
    have:=hw r (by simp)
    simp only [List.flatten_cons,Nat.zero_mul,Nat.zero_add]
    rw [List.getElem?_append_left (by omega)]
  | r :: rows,es,hw,i + 1,j,row,hr,hj=>by
    have h1:=hw r (by simp)
    simp only [List.getElem?_cons_succ] at hr
    simp only [List.flatten_cons]
    rw [List.getElem?_append_right (by rw [h1,Nat.succ_mul];omega),h1,show (i + 1) * es + j - es = i * es + j by rw [Nat.succ_mul];omega]
    exact flat_at (fun r hr=>hw r (by simp [hr])) hr hj
theorem flat_len : ∀ {rows : List (List TV)} {es : Nat},(∀ r ∈ rows,r.length = es) → rows.flatten.length = rows.length * es
  | [],es,_=>by simp
  | r :: rows,es,hw=>by
    simp only [List.flatten_cons,List.length_append,List.length_cons,Nat.succ_mul]
    rw [hw r (by simp),flat_len (fun r hr=>hw r (by simp [hr]))]
    omega

theorem partT_sound {t : TypeId} {l : List TV} {l' : List Value} (hs : VLs Fz h L l l') {o : Nat} {p : TV} (hp : partT P t l o = some p) : ∃ v,partV P t l' o = some v ∧ VL Fz h L p v:=by
  unfold partT at hp
  unfold partV
  split at hp
  · rename_i hg
    split at hp
    · rename_i hc
      obtain rfl:=Option.some.inj hp
      rw [hg]
      simp only
      rw [if_pos (show (P.info? t).isSome = true from hc.1)]
      exact ⟨_,rfl,.agg' (hs.extract _ _)⟩
    · cases hp
  · rename_i hg
    rw [hg]
    exact hs.at hp
  · cases hp

theorem tpop_sound {hpp : List TB} {tm : List TV} {vm : List Value} (hz : FZ Fz h) (hs : VLs Fz h L tm vm) (hB : ∀ n es rows,hpp[n]? = some (.rows es rows) → (L n).es = es) {o : Oper} {p : TV} (hp : tpop P hpp tm o = some p) : ∃ v,Rex.pop P (ev vm) o = some v ∧ VL Fz h L p v:=by
  have hgen : ∀ {p},tgen P tm o = some p → ∃ v,Rex.pop P (ev vm) o = some v ∧ VL Fz h L p v:=fun hp=>tgen_sound hz hs hp
  obtain ⟨dst,op,ty,pos,after,guard⟩:=o
  have ht:=fun x=>tev_vl hz hs x
  have hor : ∀ {a b : Option TV} {p},orT a b = some p → a = some p ∨ b = some p:=by
    intro a b p h
    cases a with
    | none=>exact .inr h
    | some x=>exact .inl h
  cases op<;>simp only [tpop] at hp<;>try exact hgen hp
  case move x=>obtain rfl:=Option.some.inj hp;exact ⟨_,rfl,ht x⟩
  case assign x=>obtain rfl:=Option.some.inj hp;exact ⟨_,rfl,ht x⟩
  case pick c a b =>
    unfold tpick at hp
    split at hp
    · rename_i t hc
      have h1:=ht c
      rw [hc] at h1
      have h2:=h1.bool_inv
      simp only [Rex.pop,Rex.pop0,h2]
      cases t with
      | true=>obtain rfl:=Option.some.inj hp;exact ⟨_,rfl,ht a⟩
      | false=>obtain rfl:=Option.some.inj hp;exact ⟨_,rfl,ht b⟩
    · cases hp
  case nilCheck x =>
    have h1:=ht x
    simp only [Rex.pop,Rex.pop0]
    generalize tev tm x = q at *
    generalize ev vm x = y at *
    split at hp
    · obtain rfl:=Option.some.inj hp
      refine ⟨y,?_,h1⟩
      cases h1;rfl
    · obtain rfl:=Option.some.inj hp
      refine ⟨y,?_,h1⟩
      cases h1;rfl
    · obtain rfl:=Option.some.inj hp
      refine ⟨y,?_,h1⟩
      cases h1;rfl
    · cases hp
  case build t ps =>
    suffices H : ∃ v,buildV P t (mapParts (ev vm) ps) = some v ∧ VL Fz h L p v by
      obtain ⟨v,k1,k2⟩:=H
      exact ⟨v,pop_of0 k1,k2⟩
    refine tbuild_sound (ps':=mapParts (ev vm) ps) ⟨by simp [mapParts],fun i p p' h1 h2=>?_⟩ hp
    simp only [mapParts,Array.toList_map,List.getElem?_map] at h1 h2
    cases hq : ps.toList[i]? with
    | none=>rw [hq] at h1;cases h1
    | some q =>
      rw [hq] at h1 h2
      simp only [Option.map_some,Option.some.injEq] at h1 h2
      subst h1 h2
      exact ⟨rfl,ht q.2⟩
  case makeFunc fn first caps =>
    cases fn<;>simp only [] at hp<;>try (cases hp;done)
    rename_i f
    split at hp
    · rename_i hc
      simp only [Bool.and_eq_true] at hc
      obtain rfl:=Option.some.inj hp
      refine ⟨_,rfl,?_⟩
      have key : ∀ xs : Array Operand,(xs.toList.all fun x=>lf 4 (tev tm x)) = true → VLs Fz h noL (xs.toList.map (tev tm)) (xs.map (ev vm)).toList:=by
        intro xs hx
        refine ⟨by simp,fun i p y h1 h2=>?_⟩
        simp only [Array.toList_map,List.getElem?_map] at h1 h2
        cases hq : xs.toList[i]? with
        | none=>rw [hq] at h1;cases h1
        | some q =>
          rw [hq] at h1 h2
          simp only [Option.map_some,Option.some.injEq] at h1 h2
          subst h1 h2
          exact (ht q).toNo 4 (by simpa using List.all_eq_true.1 hx q (List.mem_of_getElem? hq))
      have k1:=key first hc.1
      have k2:=key caps hc.2
      exact .func L f _ _ _ _ k1.len k1.at' k2.len k2.at'
    · cases hp
  case extract t i =>
    split at hp
    · rename_i l hl
      have h1:=ht t
      rw [hl] at h1
      simp only [Rex.pop,Rex.pop0]
      generalize ev vm t = y at *
      cases h1 with
      | tuple _ _ l' hl' ha =>
        have hi:=(List.getElem?_eq_some_iff.1 hp).1
        have hx : l'[i]? = some l'[i]:=List.getElem?_eq_getElem (by omega)
        exact ⟨_,by simp only [hx],ha i p _ hp hx⟩
    · cases hp
  case fieldAddr t x f =>
    unfold tfieldAddr fieldT at hp
    have h1:=ht x
    simp only [Rex.pop,Rex.pop0,fieldAddrV]
    split at hp
    · rename_i off ft hf
      split at hf
      · rename_i fields hu
        split at hf
        · rename_i fd hfd
          split at hf
          · rename_i hc
            obtain ⟨rfl,rfl⟩:=Prod.mk.inj (Option.some.inj hf)
            generalize tev tm x = q at *
            generalize ev vm x = y at *
            split at hp
            · obtain rfl:=Option.some.inj hp
              cases h1 with
              | fptr _ vb row' off' n base es cs hn hb hv hle ha =>
                simp only [hu,hfd]
                rw [if_pos hc]
                exact ⟨_,rfl,by rw [Nat.add_assoc];exact .fptr L _ _ _ n base es cs hn hb hv hle ha⟩
            · obtain rfl:=Option.some.inj hp
              cases h1 with
              | lptr _ n' r' o' nm ok hn =>
                simp only [hu,hfd]
                rw [if_pos hc]
                exact ⟨_,rfl,by rw [Nat.add_assoc];exact .lptr L _ _ _ nm ok hn⟩
            · cases hp
          · cases hf
        · cases hf
      · cases hf
    · cases hp
  case indexAddr t x ix =>
    unfold tindexAddr at hp
    have h1:=ht x
    have h2:=ht ix
    simp only [Rex.pop,Rex.pop0,indexAddrV]
    split at hp
    · rename_i k i hix
      rw [hix] at h2
      have h3:=h2.bool_inv
      generalize tev tm x = q at *
      generalize ev vm x = y at *
      split at hp
      · rename_i e he
        unfold sliceOf at he
        split at he
        · rename_i e' hu
          obtain rfl:=Option.some.inj he
          split at hp
          · rename_i hok
            split at hp
            · rename_i es rows
              split at hp
              · rename_i hes
                obtain ⟨row,hrow,rfl⟩:=Option.map_eq_some_iff.1 hp
                unfold tidx at hrow
                split at hrow
                · rename_i h0
                  have hlt:=(List.getElem?_eq_some_iff.1 hrow).1
                  cases h1 with
                  | nillist=>simp at hrow
                  | vague=>simp at hrow
                  | list _ _ _ n o c cs eb hn hb he hw hc hle ha =>
                    simp only [hu,h3]
                    rw [if_pos ⟨h0,by omega,hok⟩]
                    have hrl:=hw row (List.mem_of_getElem? hrow)
                    refine ⟨_,rfl,?_⟩
                    rw [hes]
                    have hmul : i.toNat * es + es ≤ rows.length * es:=by rw [← Nat.succ_mul];exact Nat.mul_le_mul_right _ hlt
                    have:=VL.fptr (Fz:=Fz) (h:=h) L false row 0 n (o + i.toNat * es) eb cs hn hb (fun h=>by cases h) (by omega) (fun j p x hj hx=>by
                      have hjl:=(List.getElem?_eq_some_iff.1 hj).1
                      refine ha (i.toNat * es + j) p x ?_ (by rw [← Nat.add_assoc];exact hx)
                      rw [flat_at hw hrow (by omega)];exact hj)
                    simpa using this
                · cases hrow
              · cases hp
            · rename_i n o len
              split at hp
              · rename_i es rows hbn
                split at hp
                · rename_i hi
                  obtain rfl:=Option.some.inj hp
                  cases h1 with
                  | lslnil=>simp at hi;omega
                  | lsl _ _ _ _ nm ok hn hle =>
                    simp only [hu,h3]
                    rw [if_pos ⟨hi.1,hi.2.1,hok⟩]
                    refine ⟨_,rfl,?_⟩
                    have he:=hB _ _ _ hbn
                    have:=VL.lptr (Fz:=Fz) (h:=h) L n (o + i.toNat) 0 nm ok hn
                    rw [he] at this ⊢
                    rw [hi.2.2,← Nat.add_mul]
                    exact this
                · cases hp
              · cases hp
            · cases hp
          · cases hp
        · cases he
      · rename_i he
        split at hp
        · rename_i n e ha
          unfold arrayOf at ha
          split at ha
          · rename_i n' e' hu
            obtain ⟨rfl,rfl⟩:=Prod.mk.inj (Option.some.inj ha)
            split at hp
            · rename_i hi
              split at hp
              · obtain rfl:=Option.some.inj hp
                cases h1 with
                | fptr _ _ row off' nn base es cs hn hb hv hle hh =>
                  simp only [hu,h3]
                  rw [if_pos (show 0 ≤ i ∧ i < ((n' : Nat) : Int) ∧ (P.info? e').isSome = true from hi)]
                  exact ⟨_,rfl,by rw [Nat.add_assoc];exact .fptr L _ _ _ nn base es cs hn hb hv hle hh⟩
              · obtain rfl:=Option.some.inj hp
                cases h1 with
                | lptr _ nn r o nm ok hn =>
                  simp only [hu,h3]
                  rw [if_pos (show 0 ≤ i ∧ i < ((n' : Nat) : Int) ∧ (P.info? e').isSome = true from hi)]
                  exact ⟨_,rfl,by rw [Nat.add_assoc];exact .lptr L _ _ _ nm ok hn⟩
              · cases hp
            · cases hp
          · cases ha
        · cases hp
    · cases hp
  case field t x f =>
    unfold tfield fieldT at hp
    have h1:=ht x
    simp only [Rex.pop,Rex.pop0,fieldV]
    split at hp
    · rename_i off ft row hf hx
      rw [hx] at h1
      generalize ev vm x = y at *
      split at hf
      · rename_i fields hu
        split at hf
        · rename_i fd hfd
          split at hf
          · rename_i hc
            obtain ⟨rfl,rfl⟩:=Prod.mk.inj (Option.some.inj hf)
            cases h1 with
            | agg _ _ l' hl ha =>
              simp only [hu,hfd]
              obtain ⟨v,k1,k2⟩:=partT_sound (P:=P) ⟨hl,ha⟩ hp
              exact ⟨v,by simp only [k1],k2⟩
          · cases hf
        · cases hf
      · cases hf
    · cases hp
  case index t x ix =>
    rcases hor hp with hp|hp
    · unfold tindex at hp
      have h1:=ht x
      have h2:=ht ix
      split at hp
      · rename_i n e row k i ha hx hix
        rw [hx] at h1
        rw [hix] at h2
        have h3:=h2.bool_inv
        split at hp
        · rename_i hi
          unfold arrayOf at ha
          split at ha
          · rename_i n' e' hu
            obtain ⟨rfl,rfl⟩:=Prod.mk.inj (Option.some.inj ha)
            simp only [Rex.pop,Rex.pop0,h3]
            generalize ev vm x = y at *
            cases h1 with
            | agg _ _ l' hl hh =>
              obtain ⟨v,h4,h5⟩:=partT_sound (P:=P) ⟨hl,hh⟩ hp
              refine ⟨v,?_,h5⟩
              simp only [indexV,hu]
              rw [if_pos (show 0 ≤ i ∧ i < ((n' : Nat) : Int) ∧ (P.info? e').isSome = true from hi),h4]
              rfl
          · cases ha
        · cases hp
      · cases hp
    · exact hgen hp
  case call c =>
    obtain ⟨callee,args,tys⟩:=c
    cases callee with
    | builtin b =>
      simp only at hp
      split at hp
      · rename_i hb
        subst hb
        split at hp
        · rename_i x hxs
          rcases hor hp with hp|hp
          · unfold tlen at hp
            have h1:=ht x
            split at hp
            · cases hp
            · rename_i t htt
              split at hp
              · cases hp
              · rename_i e he
                unfold sliceOf at he
                split at he
                · rename_i e' hu
                  simp only [Rex.pop,Rex.pop0,bpop,if_true,hxs]
                  generalize tev tm x = q at *
                  generalize ev vm x = y at *
                  split at hp
                  · obtain rfl:=Option.some.inj hp
                    cases h1 with
                    | nillist=>exact ⟨.int .i64 0,by simp [lenV,htt,hu,orGen],.v L _ rfl⟩
                    | vague=>exact ⟨.int .i64 0,by simp [lenV,htt,hu,orGen,vag],.v L _ rfl⟩
                    | list _ _ _ n o c cs eb hn hb he hw hc hle ha=>exact ⟨_,by simp only [lenV,htt,hu,orGen],.v L _ rfl⟩
                  · obtain rfl:=Option.some.inj hp
                    cases h1 with
                    | lslnil=>exact ⟨.int .i64 0,by simp [lenV,htt,hu,orGen],.v L _ rfl⟩
                    | lsl _ _ _ _ nm ok hn hle=>exact ⟨_,by simp only [lenV,htt,hu,orGen],.v L _ rfl⟩
                  · cases hp
                · cases he
          · exact hgen hp
        · cases hp
      · exact hgen hp
    | _=>cases hp
  case binOp op t x y u =>
    rcases hor hp with hp|hp
    · unfold tbin at hp
      split at hp
      · rename_i a b hx hy
        obtain ⟨r,hr,rfl⟩:=Option.map_eq_some_iff.1 hp
        have h1:=ht x
        have h2:=ht y
        rw [hx] at h1
        rw [hy] at h2
        have e1:=h1.bool_inv
        have e2:=h2.bool_inv
        refine ⟨r,by simp [Rex.pop,Rex.pop0,e1,e2,hr,orGen],.v L r ?_⟩
        unfold fastBin at hr
        split at hr
        · split at hr
          · cases op <;> simp only [] at hr <;> first
              | (cases hr;done)
              | (obtain rfl:=Option.some.inj hr;rfl)
              | (split at hr
                 · cases hr
                 · obtain rfl:=Option.some.inj hr;rfl)
          · cases hr
        · cases hr
      · cases hp
    · exact hgen hp
  all_goals first|(cases hp;done)|exact hgen hp

theorem St.es {s : TS} {tm : List Value} (hs : St h0 Fz L s tm h) : ∀ n es rows,s.hp[n]? = some (.rows es rows) → (L n).es = es:=fun n _ _ hb=>(hs.blk n _ hb).2.1
theorem OpP.of {o : Oper} {s : TS} {p : TV} (hp : tpop P s.hp s.tm o = some p) : OpP P o s ⟨tput s.tm o.dst p,s.hp⟩:=by
  refine ⟨rfl,fun h0 Fz L tm h hs=>?_⟩
  obtain ⟨v,h1,h2⟩:=tpop_sound hs.fz hs.tmr hs.es hp
  exact ⟨v,h1,hs.put o.dst h2⟩
end
end Go.Rex

namespace Go.Rex
open Go.RowKit
section
variable {C : Ctx} {P : Program} {Fz : Nat → Prop} {h h0 : List Blk} {L : Nat → LI} {s : TS} {tm : List Value}
variable {dst : Option Tmp} {ty : TypeId} {pos : String} {aft : Array Edge} {gd : Option (Nat × Bool)}

def rowOf (hp : List TB) : TV → Option (List TV × Nat)
  | .fptr _ row o=>some (row,o)
  | .lptr n r o=>match hp[n]? with
    | some (.rows _ rows)=>(rows[r]?).map fun row=>(row,o)
    | some (.var row)=>if r = 0 then some (row,o) else none
    | _=>none
  | _=>none
theorem VLs.seg {l : List TV} {cs : List Value} {b : Nat} (hle : b + l.length ≤ cs.length) (ha : ∀ (j : Nat) p x,l[j]? = some p → cs[b + j]? = some x → VL Fz h L p x) : VLs Fz h L l ((cs.drop b).take l.length):=by
  refine ⟨by simp;omega,fun i p x hp hx=>?_⟩
  rw [List.getElem?_take,List.getElem?_drop] at hx
  split at hx
  · exact ha i p x hp hx
  · cases hx
theorem rowOf_sound (hs : St h0 Fz L s tm h) {p : TV} {x : Value} (hp : VL Fz h L p x) {row : List TV} {o : Nat} (hr : rowOf s.hp p = some (row, o)) :
    ∃ n b es cs,x = .pointer (some ⟨n,b + o,none⟩) ∧ h[n]? = some (.cells es cs) ∧ b + row.length ≤ cs.length ∧ VLs Fz h L row ((cs.drop b).take row.length):=by
  cases hp with
  | fptr _ vb row' off n base es cs hn hb hv hle ha =>
    obtain ⟨rfl,rfl⟩:=Prod.mk.inj (Option.some.inj hr)
    exact ⟨n,base,es,cs,rfl,hb,hle,VLs.seg hle fun j p x h1 h2=>(ha j p x h1 h2).ofNo⟩
  | lptr _ n r o' nm ok hn =>
    simp only [rowOf] at hr
    split at hr
    · rename_i es rows hb
      obtain ⟨row',hrow,he⟩:=Option.map_eq_some_iff.1 hr
      obtain ⟨rfl,rfl⟩:=Prod.mk.inj he
      obtain ⟨q1,q2,q3,q4,q5⟩:=hs.blk n _ hb
      rcases q5 with q5|⟨nm',cs,e1,e2,e3,e4,e5⟩
      · rw [q5.1] at hn;cases hn
      · rw [hn] at e1
        obtain rfl:=Option.some.inj e1
        have hlt:=(List.getElem?_eq_some_iff.1 hrow).1
        have hl:=q4 row' (List.mem_of_getElem? hrow)
        have hcl : cs.length = rows.length * es:=by rw [e5.len,flat_len q4]
        have hmul : r * es + es ≤ rows.length * es:=by rw [← Nat.succ_mul];exact Nat.mul_le_mul_right _ hlt
        rw [q2]
        refine ⟨nm,r * es,es,cs,rfl,e4,by omega,VLs.seg (by omega) fun j p x h1 h2=>?_⟩
        have hjl:=(List.getElem?_eq_some_iff.1 h1).1
        exact (e5.at' (r * es + j) p x (by rw [flat_at q4 hrow (by omega)];exact h1) h2).ofNo
    · rename_i row' hb
      split at hr
      · rename_i h0'
        subst h0'
        obtain ⟨rfl,rfl⟩:=Prod.mk.inj (Option.some.inj hr)
        obtain ⟨q1,nm',cs,e1,e2,e3,e4,e5⟩:=hs.blk n _ hb
        rw [hn] at e1
        obtain rfl:=Option.some.inj e1
        refine ⟨nm,0,0,cs,by simp,e4,by have:=e5.len;omega,?_⟩
        rw [List.drop_zero,List.take_of_length_le (by have:=e5.len;omega)]
        exact e5
      · cases hr
    · cases hr
  | _=>simp [rowOf] at hr

def tload (P : Program) (hp : List TB) (t : TypeId) (p : TV) : Option TV :=
  match rowOf hp p with
  | some (row,o)=>partT P t row o
  | none=>none
theorem tload_sound (hs : St h0 Fz L s tm h) {t : TypeId} {p q : TV} {x : Value} (hp : VL Fz h L p x) (hl : tload P s.hp t p = some q) : ∃ n o v,x = .pointer (some ⟨n,o,none⟩) ∧ loadV P t h n o = some v ∧ VL Fz h L q v:=by
  unfold tload at hl
  split at hl
  · rename_i row o hr
    obtain ⟨n,b,es,cs,rfl,hb,hle,hv⟩:=rowOf_sound hs hp hr
    unfold partT at hl
    split at hl
    · rename_i hg
      split at hl
      · rename_i hc
        obtain rfl:=Option.some.inj hl
        obtain ⟨hc1,hc2⟩:=hc
        obtain ⟨i,hi⟩:=Option.isSome_iff_exists.1 hc1
        have hsz : P.cellsOf t = i.size:=by simp [Program.cellsOf,hi]
        rw [hsz] at hc2 ⊢
        refine ⟨n,b + o,.agg ⟨(cs.drop (b + o)).take i.size⟩,rfl,?_,.agg' ?_⟩
        · simp only [loadV,hg,hi,readCells,hb]
          rw [if_pos (by omega)]
          rfl
        · have:=hv.extract o i.size
          rw [List.drop_take,List.take_take,List.drop_drop,Nat.min_eq_left (by omega)] at this
          exact this
      · cases hl
    · rename_i hg
      obtain ⟨v,h1,h2⟩:=hv.at hl
      rw [List.getElem?_take,List.getElem?_drop] at h1
      split at h1
      · exact ⟨n,b + o,v,rfl,load1 hg hb h1,h2⟩
      · cases h1
    · cases hl
  · cases hl
theorem OpG.load {t : TypeId} {a : Operand} {q : TV} (hl : tload P s.hp t (tev s.tm a) = some q) : OpG C P { dst:=dst,op:=.load t a,type:=ty,pos:=pos,after:=aft,guard:=gd } s ⟨tput s.tm dst q,s.hp⟩:=by
  intro h0 Fz L tm h hs
  obtain ⟨n,o,v,hx,hv,hq⟩:=tload_sound hs (tev_vl hs.fz hs.tmr a) hl
  refine ⟨rfl,v,h,?_,Ext.refl h,Fz,L,Grow.refl _ _,hs.put dst hq⟩
  simp only [xop,hop,hx,hv,Option.map_some]
/-- a new block of one's own -/
def newL (L : Nat → LI) (k nm es tot : Nat) : Nat → LI:=fun n=>if n = k then ⟨true,some nm,es,tot⟩ else L n
theorem newL_old (hs : St h0 Fz L s tm h) {nm es tot : Nat} : ∀ n,(L n).ok = true → newL L s.hp.length nm es tot n = L n:=fun n hn=>by
  have:=hs.dom n hn
  unfold newL
  rw [if_neg (by omega)]
theorem newL_new {k nm es tot : Nat} : newL L k nm es tot k = ⟨true,some nm,es,tot⟩:=by unfold newL;rw [if_pos rfl]
theorem St.new (hs : St h0 Fz L s tm h) {b : TB} {es tot : Nat} {cs : List Value} (hb : BR h0.length Fz (h ++ [.cells es cs]) (newL L s.hp.length h.length es tot) s.hp.length b) :
    St h0 Fz (newL L s.hp.length h.length es tot) ⟨s.tm,s.hp ++ [b]⟩ tm (h ++ [.cells es cs]):=by
  have hold:=newL_old hs (nm:=h.length) (es:=es) (tot:=tot)
  have hs1:=hs.heap (Ext.app h [.cells es cs]) (Fz':=Fz) (fun _ h=>h) (fun n hn=>.inl hn)
  have hlow : ∀ n b nm,s.hp[n]? = some b → b.live = true → (L n).nm = some nm → nm < h.length:=by
    intro n b nm hb hlv hn
    have:=hs.blk n b hb
    cases b with
    | dead=>cases hlv
    | rows es rows =>
      obtain ⟨-,-,-,-,h5⟩:=this
      rcases h5 with h5|⟨nm',cs,e1,e2,e3,e4,e5⟩
      · rw [h5.1] at hn;cases hn
      · rw [e1] at hn;obtain rfl:=Option.some.inj hn
        exact (List.getElem?_eq_some_iff.1 e4).1
    | var row =>
      obtain ⟨-,nm',cs,e1,e2,e3,e4,e5⟩:=this
      rw [e1] at hn;obtain rfl:=Option.some.inj hn
      exact (List.getElem?_eq_some_iff.1 e4).1
  refine ⟨hs1.tmr.own hold,?_,?_,?_,hs1.fz,hs1.ext⟩
  · intro n b' hb'
    rcases Nat.lt_or_ge n s.hp.length with hlt|hge
    · rw [List.getElem?_append_left hlt] at hb'
      exact (hs1.blk n b' hb').own hold (by unfold newL;rw [if_neg (by omega)])
    · rw [List.getElem?_append_right hge] at hb'
      have hlt:=(List.getElem?_eq_some_iff.1 hb').1
      simp only [List.length_singleton] at hlt
      obtain rfl : n = s.hp.length:=by omega
      simp at hb'
      subst hb'
      exact hb
  · intro n hn
    simp only [List.length_append,List.length_singleton]
    unfold newL at hn
    split at hn
    · omega
    · have:=hs.dom n hn;omega
  · intro n n' b1 b2 nm hb1 hb2 l1 l2 e1 e2
    have f : ∀ n (b' : TB),(s.hp ++ [b])[n]? = some b' → (n < s.hp.length ∧ s.hp[n]? = some b') ∨ n = s.hp.length:=by
      intro n b' hb'
      rcases Nat.lt_or_ge n s.hp.length with hlt|hge
      · rw [List.getElem?_append_left hlt] at hb';exact .inl ⟨hlt,hb'⟩
      · rw [List.getElem?_append_right hge] at hb'
        have hlt:=(List.getElem?_eq_some_iff.1 hb').1
        simp only [List.length_singleton] at hlt
        exact .inr (by omega)
    rcases f n b1 hb1 with ⟨a1,a2⟩|rfl<;>rcases f n' b2 hb2 with ⟨c1,c2⟩|rfl
    · unfold newL at e1 e2
      rw [if_neg (by omega)] at e1 e2
      exact hs.inj n n' b1 b2 nm a2 c2 l1 l2 e1 e2
    · unfold newL at e1
      rw [if_neg (by omega)] at e1
      rw [newL_new] at e2
      obtain rfl:=Option.some.inj e2
      have:=hlow n b1 _ a2 l1 e1
      omega
    · unfold newL at e2
      rw [if_neg (by omega)] at e2
      rw [newL_new] at e1
      obtain rfl:=Option.some.inj e1
      have:=hlow n' b2 _ c2 l2 e2
      omega
    · rfl

theorem newL_vl {k nm es tot : Nat} : VL Fz h (newL L k nm es tot) (.lptr k 0 0) (.pointer (some ⟨nm,0,none⟩)):=by
  have:=VL.lptr (Fz:=Fz) (h:=h) (newL L k nm es tot) k 0 0 nm (by rw [newL_new]) (by rw [newL_new])
  simpa using this
theorem newVarBR (hs : St h0 Fz L s tm h) {row : List TV} {cs : List Value} (hv : VLs Fz h L row cs) : BR h0.length Fz (h ++ [.cells 0 cs]) (newL L s.hp.length h.length 0 0) s.hp.length (.var row):=by
  have hold:=newL_old hs (nm:=h.length) (es:=0) (tot:=0)
  refine ⟨by rw [newL_new],h.length,cs,by rw [newL_new],hs.ext.le,fun hf=>by have:=hs.fz _ hf;omega,by simp,(hv.own hold).mono (fun _ h=>h) (fun n hn=>?_)⟩
  have:=hs.fz n hn
  rw [List.getElem?_append_left this]
/-- a variable that is not written again -/
theorem OpG.boxF {e : TypeId} {x : Operand} {p : TV} (hp : tev s.tm x = p) (hj : isJunk p = false) (hl : (tcells p).all (lf 4) = true) : OpG C P { dst:=dst,op:=.box e x,type:=ty,pos:=pos,after:=aft,guard:=gd } s ⟨tput s.tm dst (.fptr true (tcells p) 0),s.hp⟩:=by
  intro h0 Fz L tm h hs
  subst hp
  have hv:=tcells_vl (tev_vl hs.fz hs.tmr x) hj
  have hx:=Ext.app h [Blk.cells (esOf P e) (ev tm x).cells.toList]
  refine ⟨rfl,_,_,rfl,hx,fun n=>Fz n ∨ n = h.length,L,⟨fun n hn=>.inl hn,fun n hn=>?_,(Grow.ext (h0:=h0) hs.fz hx).3⟩,?_⟩
  · rcases hn with hn|rfl
    · exact .inl hn
    · exact .inr hs.ext.le
  · refine (hs.heap hx (fun n hn=>.inl hn) (fun n hn=>?_)).put dst ?_
    · rcases hn with hn|rfl
      · exact .inl hn
      · exact .inr (by simp)
    · have := VL.fptr (Fz := fun n => Fz n ∨ n = h.length) (h := h ++ [Blk.cells (esOf P e) (ev tm x).cells.toList]) L true (tcells (tev s.tm x)) 0 h.length 0 (esOf P e) (ev tm x).cells.toList (.inr rfl) (by simp) (fun _ => rfl) (by have := hv.len; omega) (fun j p y h1 h2 => by
        rw [Nat.zero_add] at h2
        refine (VL.toNo 4 (by simpa using List.all_eq_true.1 hl p (List.mem_of_getElem? h1)) (hv.at' j p y h1 h2)).mono (fun n hn=>.inl hn) (fun n hn=>?_)
        have:=hs.fz n hn
        rw [List.getElem?_append_left this])
      simpa using this
theorem OpG.alloc {e : TypeId} {z : List Value} (hz : zeroC P e = some z) : OpG C P { dst:=dst,op:=.alloc e,type:=ty,pos:=pos,after:=aft,guard:=gd } s ⟨tput s.tm dst (.lptr s.hp.length 0 0),s.hp ++ [.var (z.map .v)]⟩:=by
  intro h0 Fz L tm h hs
  obtain ⟨i,z0,hi,hz0,hcl,rfl,hsz,hat⟩:=zeroC_parts hz
  refine ⟨rfl,.pointer (some ⟨h.length,0,none⟩),h ++ [.cells (esOf P e) z0.cells.toList],?_,Ext.app _ _,Fz,_,Grow.ext hs.fz (Ext.app _ _),(hs.new (newVarBR hs (atoms_vl hat))).put dst newL_vl⟩
  simp only [xop,hop,hi,hz0,hcl,if_true,varBlk,(zeroC_self hz).1,Bool.false_eq_true,if_false]

end
end Go.Rex

namespace Go.Rex
open Go.RowKit
section
variable {C : Ctx} {P : Program} {Fz : Nat → Prop} {h h0 : List Blk} {L : Nat → LI} {s : TS} {tm : List Value}
variable {dst : Option Tmp} {ty : TypeId} {pos : String} {aft : Array Edge} {gd : Option (Nat × Bool)}

/-- parts in their order -/
def tparts (es : Nat) : Nat → List (Nat × TV) → Option (List (List TV))
  | _,[]=>some []
  | i,(k,p) :: l=>if k = i ∧ isJunk p = false ∧ (tcells p).length = es ∧ (tcells p).all (lf 4) = true then (tparts es (i + 1) l).map fun r=>tcells p :: r else none
theorem tparts_fill {es : Nat} : ∀ (ps : List (Nat × TV)) (ps' : List (Nat × Value)) (i : Nat) (rows : List (List TV)), PLs Fz h L ps ps' → tparts es i ps = some rows →
    rows.length = ps.length ∧ (∀ r ∈ rows,r.length = es) ∧ ∀ (c : Array Value) (pre : List Value),c.size = (i + rows.length) * es → c.toList.take (i * es) = pre →
      ∃ c',Instr.fill (fun i=>some (i * es,es)) c ps' = some c' ∧ ∃ new,c'.toList = pre ++ new ∧ VLs Fz h noL rows.flatten new
  | [],ps',i,rows,hp,ht=>by
    have : ps' = []:=by have:=hp.len;simpa using this
    subst this
    obtain rfl:=Option.some.inj ht
    refine ⟨rfl,by simp,fun c pre hc hpre=>⟨c,rfl,[],?_,VLs.nil⟩⟩
    rw [← hpre,List.append_nil,List.take_of_length_le (by simp [hc])]
  | (k,v) :: ps,ps',i,rows,hp,ht=>by
    obtain ⟨p',rest,rfl⟩ : ∃ v' rest,ps' = v' :: rest:=by
      have h1:=hp.len
      cases ps' with
      | nil=>simp at h1
      | cons a b=>exact ⟨a,b,rfl⟩
    obtain ⟨k',v'⟩:=p'
    obtain ⟨e1,hv⟩:=hp.at' 0 _ _ rfl rfl
    simp only at e1 hv
    subst e1
    have hs : PLs Fz h L ps rest:=⟨by have:=hp.len;simpa using this,fun i x x' h h'=>hp.at' (i + 1) _ _ (by simpa using h) (by simpa using h')⟩
    simp only [tparts] at ht
    split at ht
    · rename_i hc
      obtain ⟨rfl,hj,hlen,hlf⟩:=hc
      obtain ⟨r,hr,rfl⟩:=Option.map_eq_some_iff.1 ht
      obtain ⟨g1,g2,g3⟩:=tparts_fill ps rest _ r hs hr
      refine ⟨by simp [g1],fun q hq=>?_,fun c pre hc hpre=>?_⟩
      · simp only [List.mem_cons] at hq
        rcases hq with rfl|hq
        · exact hlen
        · exact g2 q hq
      · have hcv:=tcells_vl hv hj
        have hsz : v'.cells.size = es:=by have:=hcv.len;simp at this;omega
        have hmul : k' * es + es ≤ (k' + (r.length + 1)) * es:=by rw [← Nat.succ_mul];exact Nat.mul_le_mul_right _ (by omega)
        simp only [List.length_cons] at hc
        simp only [Instr.fill]
        rw [if_neg (by simp [hsz,hc];omega)]
        have hsp:=foldl_set_splice v'.cells.toList 0 (k' * es) c (by simp [hsz,hc];omega)
        simp only [Nat.add_zero] at hsp
        have hlv : v'.cells.toList.length = es:=by simp [hsz]
        have hpl : pre.length = k' * es:=by rw [← hpre,List.length_take,Array.length_toList,hc];omega
        obtain ⟨c', h1, new, h2, h3⟩ := g3 (Array.foldl (fun (cs : Array Value) (x : Value × Nat) => cs.setIfInBounds (k' * es + x.2) x.1) c v'.cells.zipIdx) (pre ++ v'.cells.toList) (by
            have : (Array.foldl (fun (cs : Array Value) (x : Value × Nat)=>cs.setIfInBounds (k' * es + x.2) x.1) c v'.cells.zipIdx).toList.length = c.toList.length:=by
              simp only [← Array.foldl_toList,Array.toList_zipIdx]
              rw [hsp,splice_len (by simp [hsz,hc];omega)]
            simp only [Array.length_toList] at this
            rw [this,hc];congr 1;omega) (by
          simp only [← Array.foldl_toList,Array.toList_zipIdx]
          rw [hsp]
          unfold splice
          rw [hpre,List.take_append_of_le_length (by simp [hpl,hlv];rw [Nat.succ_mul];omega),List.take_of_length_le (by simp [hpl,hlv];rw [Nat.succ_mul];omega)])
        refine ⟨c',h1,v'.cells.toList ++ new,by rw [h2,List.append_assoc],?_⟩
        simp only [List.flatten_cons]
        refine VLs.append ⟨hcv.len,fun j p x hp hx=>VL.toNo 4 (by simpa using List.all_eq_true.1 hlf p (List.mem_of_getElem? hp)) (hcv.at' j p x hp hx)⟩ h3
    · cases ht
theorem parts_pls (hz : FZ Fz h) (hs : VLs Fz h L s.tm tm) (ps : Array (Nat × Operand)) : PLs Fz h L (ps.toList.map fun q=>(q.1,tev s.tm q.2)) (mapParts (ev tm) ps).toList:=by
  refine ⟨by simp [mapParts],fun i p p' h1 h2=>?_⟩
  simp only [mapParts,Array.toList_map,List.getElem?_map] at h1 h2
  cases hq : ps.toList[i]? with
  | none=>rw [hq] at h1;cases h1
  | some q =>
    rw [hq] at h1 h2
    simp only [Option.map_some,Option.some.injEq] at h1 h2
    subst h1 h2
    exact ⟨rfl,tev_vl hz hs q.2⟩
def tslice (P : Program) (t : TypeId) (len : Nat) (ps : List (Nat × TV)) : Option (Nat × List (List TV)) :=
  match sliceOf P t with
  | some e=>match zeroC P e with
    | some z=>if ps.length = len ∧ len * z.length ≤ 2 ^ 24 ∧ P.cellsOf e = z.length then (tparts z.length 0 ps).map fun r=>(z.length,r) else none
    | none=>none
  | none=>none
theorem tslice_sound {t : TypeId} {len : Nat} {ps : List (Nat × TV)} {ps' : Array (Nat × Value)} {es : Nat} {rows : List (List TV)} (hp : PLs Fz h L ps ps'.toList) (ht : tslice P t len ps = some (es, rows)) :
    rows.length = len ∧ (∀ r ∈ rows,r.length = es) ∧ ∃ cs,buildSliceV P t len ps' h = some (.slice (some ⟨h.length,0,none⟩) len len,h ++ [.cells es cs]) ∧ VLs Fz h noL rows.flatten cs:=by
  unfold tslice at ht
  split at ht
  · rename_i e he
    split at ht
    · rename_i z hz
      split at ht
      · rename_i hc
        obtain ⟨hc1,hc2,hc3⟩:=hc
        obtain ⟨r,hr,he'⟩:=Option.map_eq_some_iff.1 ht
        obtain ⟨rfl,rfl⟩:=Prod.mk.inj he'
        obtain ⟨i,z0,hi,hz0,hcl,hzz,hsz,hat⟩:=zeroC_parts hz
        unfold sliceOf at he
        split at he
        · rename_i e' hu
          obtain rfl:=Option.some.inj he
          obtain ⟨g1,g2,g3⟩:=tparts_fill ps ps'.toList 0 r hp hr
          have hrl : r.length = len:=by omega
          refine ⟨hrl,g2,?_⟩
          have hlen : ∀ a : Array Value,(zeroRow a (len * z.length)).size = len * z.length:=fun a=>by simp [zeroRow]
          by_cases hn0 : len * z.length = 0
          · obtain ⟨c',h1,new,h2,h3⟩:=g3 (zeroRow #[] (len * z.length)) [] (by rw [hlen,hrl];simp) (by simp)
            refine ⟨new,?_,h3⟩
            unfold buildSliceV
            simp only [hu,hc3]
            rw [if_pos ⟨by rw [hi];rfl,by omega⟩]
            simp only [zeroOf,hn0,if_true]
            rw [hn0] at h1
            rw [h1]
            simp only [Option.bind_some]
            have hsz' : c'.size = 0:=by
              have hl:=h3.len
              rw [flat_len g2,hrl,hn0] at hl
              have : c'.toList.length = new.length:=by rw [h2];simp
              simp only [Array.length_toList] at this
              omega
            rw [if_pos hsz',h2]
            simp
          · obtain ⟨c',h1,new,h2,h3⟩:=g3 (zeroRow z0.cells (len * z.length)) [] (by rw [hlen,hrl];simp) (by simp)
            refine ⟨new,?_,h3⟩
            unfold buildSliceV
            simp only [hu,hc3]
            rw [if_pos ⟨by rw [hi];rfl,by omega⟩]
            simp only [zeroOf,if_neg hn0,hi,hz0,hcl,if_true]
            rw [h1]
            simp only [Option.bind_some]
            have hsz' : c'.size = len * z.length:=by
              have hl:=h3.len
              rw [flat_len g2,hrl] at hl
              have : c'.toList.length = new.length:=by rw [h2];simp
              simp only [Array.length_toList] at this
              omega
            rw [if_pos hsz',h2]
            simp
        · cases he
      · cases ht
    · cases ht
  · cases ht
/-- a literal that is not written again -/
theorem OpG.buildSlice {t : TypeId} {len : Nat} {ps : Array (Nat × Operand)} {es : Nat} {rows : List (List TV)} (ht : tslice P t len (ps.toList.map fun q => (q.1, tev s.tm q.2)) = some (es, rows)) :
    OpG C P { dst:=dst,op:=.buildSlice t len ps,type:=ty,pos:=pos,after:=aft,guard:=gd } s ⟨tput s.tm dst (.list es rows),s.hp⟩:=by
  intro h0 Fz L tm h hs
  obtain ⟨h1,h2,cs,h3,h4⟩:=tslice_sound (P:=P) (parts_pls hs.fz hs.tmr ps) ht
  have hx:=Ext.app h [Blk.cells es cs]
  refine ⟨rfl,_,_,by simp only [xop,hop,newH,h3,Option.map_some];rfl,hx,fun n=>Fz n ∨ n = h.length,L,⟨fun n hn=>.inl hn,fun n hn=>?_,(Grow.ext (h0:=h0) hs.fz hx).3⟩,?_⟩
  · rcases hn with hn|rfl
    · exact .inl hn
    · exact .inr hs.ext.le
  · refine (hs.heap hx (fun n hn=>.inl hn) (fun n hn=>?_)).put dst ?_
    · rcases hn with hn|rfl
      · exact .inl hn
      · exact .inr (by simp)
    · have hl:=h4.len
      rw [flat_len h2] at hl
      have:=VL.list (Fz:=fun n=>Fz n ∨ n = h.length) (h:=h ++ [Blk.cells es cs]) L es rows h.length 0 len cs es (.inr rfl) (by simp) (.inl rfl) h2 (by omega) (by omega) (fun j p y q1 q2=>by
        rw [Nat.zero_add] at q2
        refine (h4.at' j p y q1 q2).mono (fun n hn=>.inl hn) (fun n hn=>?_)
        have:=hs.fz n hn
        rw [List.getElem?_append_left this])
      rw [h1] at this
      exact this
/-! ### stores -/
def tstore (P : Program) (hp : List TB) (t : TypeId) (p v : TV) : Option (List TB) :=
  match p with
  | .lptr n r o => if isJunk v = false ∧ okT P t = true ∧ (tcells v).length = P.cellsOf t ∧ (tcells v).all tone = true then
      match hp[n]? with
      | some (.rows es rows)=>match rows[r]? with
        | some row=>if o + (tcells v).length ≤ row.length ∧ (tcells v).all (lf 4) = true then some (hp.set n (.rows es (rows.set r (tsplice row o (tcells v))))) else none
        | none=>none
      | some (.var row)=>if r = 0 ∧ o + (tcells v).length ≤ row.length then some (hp.set n (.var (tsplice row o (tcells v)))) else none
      | _=>none
    else none
  | _=>none
theorem tone_one {p : TV} {x : Value} (hp : VL Fz h L p x) (ht : tone p = true) : x.oneCell' = true:=by
  cases hp with
  | v _ x hx=>cases x<;>first|rfl|(simp [isAtom] at hx)
  | junk=>simp [tone] at ht
  | agg=>simp [tone] at ht
  | tuple=>simp [tone] at ht
  | _=>rfl
theorem tones {l : List TV} {l' : List Value} (hs : VLs Fz h L l l') (ht : l.all tone = true) : l'.all (·.oneCell') = true:=by
  rw [List.all_eq_true]
  intro x hx
  obtain ⟨i,hi⟩:=List.mem_iff_getElem?.1 hx
  have hlt:=(List.getElem?_eq_some_iff.1 hi).1
  have hll:=hs.len
  have hp : l[i]? = some l[i]:=List.getElem?_eq_getElem (by omega)
  exact tone_one (hs.at' i _ _ hp hi) (by simpa using List.all_eq_true.1 ht _ (List.mem_of_getElem? hp))
theorem flat_set {es : Nat} : ∀ (rows : List (List TV)) (r : Nat) (row row' : List TV), (∀ q ∈ rows, q.length = es) → rows[r]? = some row → row'.length = es →
    (rows.set r row').flatten = tsplice rows.flatten (r * es) row'
  | [],r,row,row',hw,hr,hl=>by simp at hr
  | q :: rows,0,row,row',hw,hr,hl=>by
    have:=hw q (by simp)
    simp only [List.set_cons_zero,List.flatten_cons,tsplice,Nat.zero_mul,List.take_zero,List.nil_append,Nat.zero_add]
    rw [List.drop_append_of_le_length (by omega),List.drop_of_length_le (by omega),List.nil_append]
  | q :: rows,r + 1,row,row',hw,hr,hl=>by
    have h1:=hw q (by simp)
    simp only [List.getElem?_cons_succ] at hr
    simp only [List.set_cons_succ,List.flatten_cons]
    rw [flat_set rows r row row' (fun x hx=>hw x (by simp [hx])) hr hl]
    unfold tsplice
    have e : (r + 1) * es = q.length + r * es:=by rw [Nat.succ_mul,h1];omega
    rw [e,List.take_append,List.drop_append]
    rw [List.take_of_length_le (show q.length ≤ q.length + r * es by omega),List.drop_of_length_le (show q.length ≤ q.length + r * es + row'.length by omega)]
    simp [Nat.add_assoc]
theorem tsplice_len {c l : List TV} {o : Nat} (hl : o + l.length ≤ c.length) : (tsplice c o l).length = c.length:=by unfold tsplice;simp;omega
theorem tsplice_splice {c row l : List TV} {b o : Nat} (hb : (c.drop b).take row.length = row) (hle : b + row.length ≤ c.length) (hl : o + l.length ≤ row.length) : tsplice c b (tsplice row o l) = tsplice c (b + o) l:=by
  have h1 : c = c.take b ++ (row ++ c.drop (b + row.length)):=by
    conv=>lhs;rw [← List.take_append_drop b c,← List.take_append_drop row.length (c.drop b),hb,List.drop_drop]
  unfold tsplice
  have hlen : (row.take o ++ l ++ row.drop (o + l.length)).length = row.length:=by simp;omega
  rw [hlen]
  have e2 : c.take (b + o) = c.take b ++ row.take o:=by
    conv=>lhs;rw [h1]
    rw [List.take_append,List.take_of_length_le (by simp;omega),List.length_take,Nat.min_eq_left (by omega),Nat.add_sub_cancel_left,List.take_append_of_le_length (by omega)]
  have e3 : c.drop (b + o + l.length) = row.drop (o + l.length) ++ c.drop (b + row.length):=by
    conv=>lhs;rw [h1]
    rw [List.drop_append,List.drop_of_length_le (by simp;omega),List.nil_append,List.length_take,Nat.min_eq_left (by omega),show b + o + l.length - b = o + l.length by omega,List.drop_append_of_le_length hl]
  rw [e2,e3]
  simp only [List.append_assoc]
theorem OpW.store {t : TypeId} {a x : Operand} {hp' : List TB} (hst : tstore P s.hp t (tev s.tm a) (tev s.tm x) = some hp') :
    OpW C P { dst:=none,op:=.store t a x,type:=ty,pos:=pos,after:=aft,guard:=gd } s ⟨s.tm,hp'⟩:=by
  intro h0 Fz L tm h hs
  have ha:=tev_vl hs.fz hs.tmr a
  have hx:=tev_vl hs.fz hs.tmr x
  refine .inr ⟨rfl,?_⟩
  generalize tev s.tm x = v at *
  unfold tstore at hst
  split at hst
  · rename_i n r o hpa
    rw [hpa] at ha
    split at hst
    · rename_i hc
      obtain ⟨hj,hok,hlen,hone⟩:=hc
      have hcv:=tcells_vl hx hj
      obtain ⟨i,hi⟩:=Option.isSome_iff_exists.1 hok
      have hsz : P.cellsOf t = i.size:=by simp [Program.cellsOf,hi]
      have hones:=tones hcv hone
      have hvs : (ev tm x).cells.size = i.size:=by have:=hcv.len;simp at this;omega
      obtain ⟨nm,hnm,hav⟩ : ∃ nm,(L n).nm = some nm ∧ ev tm a = .pointer (some ⟨nm,r * (L n).es + o,none⟩):=by
        generalize ev tm a = y at *
        cases ha with
        | lptr _ _ _ _ nm ok hn=>exact ⟨nm,hn,rfl⟩
      -- the store of the executor
      have key : ∀ (es : Nat) (cs : List Value) (b' : TB) (b : TB), s.hp[n]? = some b → b.live = true → h[nm]? = some (.cells es cs) → h0.length ≤ nm → ¬ Fz nm → r * (L n).es + o + (ev tm x).cells.toList.length ≤ cs.length →
          BR h0.length Fz (h.set nm (.cells es (splice cs (r * (L n).es + o) (ev tm x).cells.toList))) L n b' → hp' = s.hp.set n b' →
          ∃ v1 h1 w1,xop C P (ev tm) { dst:=none,op:=.store t a x,type:=ty,pos:=pos,after:=aft,guard:=gd } h = some (v1,h1,w1) ∧ ((w1 = none ∧ Ext h h1) ∨ ∃ nm,w1 = some nm ∧ h0.length ≤ nm ∧ nm < h.length ∧ h.length ≤ h1.length) ∧
            ∃ Fz' L',Grow h0 Fz Fz' h h1 ∧ St h0 Fz' L' ⟨s.tm,hp'⟩ (putL tm none v1) h1:=by
        intro es cs b' b hb hlv hcs hlo hnf hle hB hp
        refine ⟨undef,h.set nm (.cells es (splice cs (r * (L n).es + o) (ev tm x).cells.toList)),some nm,?_,.inr ⟨nm,rfl,hlo,(List.getElem?_eq_some_iff.1 hcs).1,by simp⟩,Fz,L,Grow.set hnf,?_⟩
        · simp only [xop,hop,hav,storeV,hi,hvs,if_true,writeBlk,hcs]
          rw [if_pos ⟨hle,hones⟩]
          rfl
        · subst hp
          exact hs.write hb hlv hnm hcs hlo hnf hB
      have hh : ∀ (es : Nat) (cs : List Value),¬ Fz nm → ∀ k,Fz k → (h.set nm (.cells es cs))[k]? = h[k]?:=fun es cs hnf k hk=>by
        rw [List.getElem?_set_ne];rintro rfl;exact hnf hk
      split at hst
      · rename_i es rows hb
        split at hst
        · rename_i row hrow
          split at hst
          · rename_i hcond
            obtain ⟨hfit,hlf⟩:=hcond
            obtain rfl:=Option.some.inj hst
            obtain ⟨q1,q2,q3,q4,q5⟩:=hs.blk n _ hb
            rcases q5 with q5|⟨nm',cs,e1,e2,e3,e4,e5⟩
            · rw [q5.1] at hnm;cases hnm
            · rw [hnm] at e1
              obtain rfl:=Option.some.inj e1
              have hlt:=(List.getElem?_eq_some_iff.1 hrow).1
              have hrl:=q4 row (List.mem_of_getElem? hrow)
              have hcl : cs.length = rows.length * es:=by rw [e5.len,flat_len q4]
              have hmul : r * es + es ≤ rows.length * es:=by rw [← Nat.succ_mul];exact Nat.mul_le_mul_right _ hlt
              have hcvl : (ev tm x).cells.toList.length = (tcells v).length:=hcv.len
              refine key es cs (.rows es (rows.set r (tsplice row o (tcells v)))) _ hb rfl e4 e2 e3 (by rw [q2];omega) ?_ rfl
              have hseg : (rows.flatten.drop (r * es)).take row.length = row:=by
                apply List.ext_getElem?
                intro j
                rw [List.getElem?_take,List.getElem?_drop]
                split
                · rename_i hj'
                  exact flat_at q4 hrow (by omega)
                · rw [List.getElem?_eq_none (by omega)]
              have hfs : (rows.set r (tsplice row o (tcells v))).flatten = tsplice rows.flatten (r * es + o) (tcells v):=by
                rw [flat_set rows r row _ q4 hrow (by rw [tsplice_len hfit];exact hrl),tsplice_splice hseg (by rw [flat_len q4];omega) hfit]
              refine ⟨q1,q2,by simp [q3],fun q hq=>?_,.inr ⟨nm,_,hnm,e2,e3,by rw [List.getElem?_set_self (List.getElem?_eq_some_iff.1 e4).1],?_⟩⟩
              · rcases List.mem_or_eq_of_mem_set hq with hq|rfl
                · exact q4 q hq
                · rw [tsplice_len hfit];exact hrl
              · rw [hfs,q2]
                refine VLs.mono (splice_vl e5 ⟨hcv.len,fun j p y hp hy=>VL.toNo 4 (by simpa using List.all_eq_true.1 hlf p (List.mem_of_getElem? hp)) (hcv.at' j p y hp hy)⟩ _) (fun _ h=>h) (hh es _ e3)
          · cases hst
        · cases hst
      · rename_i row hb
        split at hst
        · rename_i hcond
          obtain ⟨rfl,hfit⟩:=hcond
          obtain rfl:=Option.some.inj hst
          obtain ⟨q1,nm',cs,e1,e2,e3,e4,e5⟩:=hs.blk n _ hb
          rw [hnm] at e1
          obtain rfl:=Option.some.inj e1
          have hcvl : (ev tm x).cells.toList.length = (tcells v).length:=hcv.len
          have hcl:=e5.len
          refine key 0 cs (.var (tsplice row o (tcells v))) _ hb rfl e4 e2 e3 (by omega) ?_ rfl
          rw [Nat.zero_mul,Nat.zero_add]
          refine ⟨q1,nm,_,hnm,e2,e3,by rw [List.getElem?_set_self (List.getElem?_eq_some_iff.1 e4).1],?_⟩
          exact (splice_vl e5 hcv o).mono (fun _ h=>h) (hh 0 _ e3)
        · cases hst
      · cases hst
    · cases hst
  · cases hst
end
end Go.Rex

namespace Go.Rex
open Go.RowKit
section
variable {C : Ctx} {P : Program} {Fz : Nat → Prop} {h h0 : List Blk} {L : Nat → LI} {s : TS} {tm : List Value}
variable {dst : Option Tmp} {ty : TypeId} {pos : String} {aft : Array Edge} {gd : Option (Nat × Bool)}

/-! ### a state that says less -/
inductive WT : List TV → List TV → Prop
  | nil : WT [] []
  | junk {p : TV} {l l' : List TV} (h : WT l l') : WT (p :: l) (.junk :: l')
  | keep {p q : TV} {l l' : List TV} (e : p = q) (h : WT l l') : WT (p :: l) (q :: l')
/-- own blocks named are among the first k -/
def bel (k : Nat) : Nat → TV → Bool
  | 0,_=>false
  | d + 1,p=>match p with
    | .lptr m _ _=>decide (m < k)
    | .lsl m _ _=>decide (m < k)
    | .agg l=>l.all (bel k d)
    | .tuple l=>l.all (bel k d)
    | _=>true
/-! ### the heap without writes to come -/
def frz (n : Nat) (b : TB) : Nat → TV → TV
  | 0,_=>.junk
  | d + 1,p=>match p with
    | .lsl m o len=>if m = n then (match b with
      | .rows es rows=>.list es ((rows.drop o).take len)
      | _=>.junk) else .lsl m o len
    | .lptr m r o=>if m = n then (match b with
      | .rows _ rows=>(match rows[r]? with|some row=>.fptr false row o|none=>.junk)
      | .var row=>if r = 0 then .fptr true row o else .junk
      | _=>.junk) else .lptr m r o
    | .agg l=>.agg (l.map (frz n b d))
    | .tuple l=>.tuple (l.map (frz n b d))
    | p=>p
theorem flat_drop {es : Nat} : ∀ {rows : List (List TV)} (_ : ∀ r ∈ rows,r.length = es) (k : Nat),(rows.drop k).flatten = rows.flatten.drop (k * es)
  | [],_,k=>by simp
  | r :: rows,hw,0=>by simp
  | r :: rows,hw,k + 1=>by
    have h1:=hw r (by simp)
    simp only [List.drop_succ_cons,List.flatten_cons]
    rw [flat_drop (fun r hr=>hw r (by simp [hr])) k,Nat.succ_mul,List.drop_append,List.drop_of_length_le (show r.length ≤ k * es + es by omega),List.nil_append]
    congr 1;omega
theorem flat_take {es : Nat} : ∀ {rows : List (List TV)} (_ : ∀ r ∈ rows,r.length = es) (k : Nat),(rows.take k).flatten = rows.flatten.take (k * es)
  | [],_,k=>by simp
  | r :: rows,hw,0=>by simp
  | r :: rows,hw,k + 1=>by
    have h1:=hw r (by simp)
    simp only [List.take_succ_cons,List.flatten_cons]
    rw [flat_take (fun r hr=>hw r (by simp [hr])) k,Nat.succ_mul,List.take_append,List.take_of_length_le (show r.length ≤ k * es + es by omega)]
    congr 2;omega
/-- a part of a row of rows, as a list -/
theorem VL.part {es eb : Nat} {rows : List (List TV)} {n o c : Nat} {cs : List Value} (hn : Fz n) (hb : h[n]? = some (.cells eb cs)) (he : eb = es ∨ eb = 0) (hw : ∀ r ∈ rows, r.length = es) (hle : o + rows.length * es ≤ cs.length)
    (ha : ∀ (j : Nat) p x,rows.flatten[j]? = some p → cs[o + j]? = some x → VL Fz h noL p x) (l m : Nat) (hlm : l + m ≤ rows.length) (hc : m ≤ c) : VL Fz h L (.list es ((rows.drop l).take m)) (.slice (some ⟨n,o + l * es,none⟩) m c):=by
  have hlen : ((rows.drop l).take m).length = m:=by simp;omega
  have hw' : ∀ r ∈ rows.drop l,r.length = es:=fun r hr=>hw r (List.mem_of_mem_drop hr)
  have hmul : l * es + m * es ≤ rows.length * es:=by rw [← Nat.add_mul];exact Nat.mul_le_mul_right _ hlm
  have:=VL.list (Fz:=Fz) (h:=h) L es ((rows.drop l).take m) n (o + l * es) c cs eb hn hb he (fun r hr=>hw' r (List.mem_of_mem_take hr)) (by omega) (by rw [hlen];omega) (fun j p x h1 h2=>by
    rw [flat_take hw',flat_drop hw,List.getElem?_take,List.getElem?_drop] at h1
    split at h1
    · exact ha (l * es + j) p x h1 (by rw [← Nat.add_assoc];exact h2)
    · cases h1)
  rw [hlen] at this
  exact this
def lfB : TB → Bool
  | .var row=>row.all (lf 4)
  | _=>true
theorem VL.frz {Fz' : Nat → Prop} {n : Nat} {b : TB} (hB : BR h0.length Fz h L n b) (hlf : lfB b = true) (hF : ∀ k,Fz k → Fz' k) (hN : ∀ nm,(L n).nm = some nm → Fz' nm) : ∀ (d : Nat) {p : TV} {x : Value},VL Fz h L p x → VL Fz' h L (frz n b d p) x
  | 0,p,x,hp=>by rw [Rex.frz];exact .junk L x
  | d + 1,p,x,hp=>by
    have key : ∀ (l : List TV) (l' : List Value),(∀ (i : Nat) p x,l[i]? = some p → l'[i]? = some x → VL Fz h L p x) → ∀ (i : Nat) p x,(l.map (Rex.frz n b d))[i]? = some p → l'[i]? = some x → VL Fz' h L p x:=by
      intro l l' ha i p x hp hx
      rw [List.getElem?_map] at hp
      cases hq : l[i]? with
      | none=>rw [hq] at hp;cases hp
      | some q=>rw [hq] at hp;obtain rfl:=Option.some.inj hp;exact VL.frz hB hlf hF hN d (ha i q x hq hx)
    cases hp with
    | junk _ x=>exact .junk L x
    | v _ x hx=>exact .v L x hx
    | agg _ l l' hl ha=>exact .agg L _ l' (by simp [hl]) (key l l' ha)
    | tuple _ l l' hl ha=>exact .tuple L _ l' (by simp [hl]) (key l l' ha)
    | func _ f a b a' b' la ha lb hb=>exact (VL.func L f a b a' b' la ha lb hb).mono hF (fun _ _=>rfl)
    | nillist _ es=>exact .nillist L es
    | vague _ es=>exact .vague L es
    | list _ es rows n o c cs eb hn hb he hw hc hle ha=>exact (VL.list L es rows n o c cs eb hn hb he hw hc hle ha).mono hF (fun _ _=>rfl)
    | fptr _ vb row off n base es cs hn hb hv hle ha=>exact (VL.fptr L vb row off n base es cs hn hb hv hle ha).mono hF (fun _ _=>rfl)
    | lptr _ m r o nm ok hn =>
      simp only [Rex.frz]
      split
      · rename_i e
        subst e
        cases b with
        | dead=>exact .junk L _
        | rows es rows =>
          simp only
          obtain ⟨q1,q2,q3,q4,q5⟩:=hB
          split
          · rename_i row hrow
            rcases q5 with q5|⟨nm',cs,e1,e2,e3,e4,e5⟩
            · rw [q5.1] at hn;cases hn
            · rw [hn] at e1
              obtain rfl:=Option.some.inj e1
              have hlt:=(List.getElem?_eq_some_iff.1 hrow).1
              have hl:=q4 row (List.mem_of_getElem? hrow)
              have hcl : cs.length = rows.length * es:=by rw [e5.len,flat_len q4]
              have hmul : r * es + es ≤ rows.length * es:=by rw [← Nat.succ_mul];exact Nat.mul_le_mul_right _ hlt
              rw [q2]
              refine .fptr L false row o nm (r * es) es cs (hN nm hn) e4 (fun h=>by cases h) (by omega) fun j p x h1 h2=>?_
              have hjl:=(List.getElem?_eq_some_iff.1 h1).1
              exact (e5.at' (r * es + j) p x (by rw [flat_at q4 hrow (by omega)];exact h1) h2).mono hF (fun _ _=>rfl)
          · exact .junk L _
        | var row =>
          simp only
          obtain ⟨q1,nm',cs,e1,e2,e3,e4,e5⟩:=hB
          rw [hn] at e1
          obtain rfl:=Option.some.inj e1
          split
          · rename_i hr0
            subst hr0
            refine .fptr L true row _ nm (0 * (L m).es) 0 cs (hN nm hn) e4 (fun _=>rfl) (by have:=e5.len;omega) fun j p x h1 h2=>?_
            rw [Nat.zero_mul,Nat.zero_add] at h2
            have hl : row.all (lf 4) = true:=by simpa [lfB] using hlf
            exact (VL.toNo 4 (by simpa using List.all_eq_true.1 hl p (List.mem_of_getElem? h1)) (e5.at' j p x h1 h2)).mono hF (fun _ _=>rfl)
          · exact .junk L _
      · exact .lptr L m r o nm ok hn
    | lslnil _ m ok hn =>
      simp only [Rex.frz]
      split
      · rename_i e
        subst e
        cases b with
        | rows es rows=>simp only [List.take_zero];exact .nillist L es
        | _=>exact .junk L _
      · exact .lslnil L m ok hn
    | lsl _ m o len nm ok hn hle =>
      simp only [Rex.frz]
      split
      · rename_i e
        subst e
        cases b with
        | rows es rows =>
          simp only
          obtain ⟨q1,q2,q3,q4,q5⟩:=hB
          rcases q5 with q5|⟨nm',cs,e1,e2,e3,e4,e5⟩
          · rw [q5.1] at hn;cases hn
          · rw [hn] at e1
            obtain rfl:=Option.some.inj e1
            have hcl : cs.length = rows.length * es:=by rw [e5.len,flat_len q4]
            have:=VL.part (Fz:=Fz') (h:=h) (L:=L) (es:=es) (rows:=rows) (n:=nm) (o:=0) (c:=(L m).tot - o) (cs:=cs) (hN nm hn) e4 (.inl rfl) q4 (by omega) (fun j p x h1 h2=>by
              rw [Nat.zero_add] at h2
              exact (e5.at' j p x h1 h2).mono hF (fun _ _=>rfl)) o len (by rw [← q3];exact hle) (by omega)
            rw [Nat.zero_add] at this
            rw [q2]
            exact this
        | _=>exact .junk L _
      · exact .lsl L m o len nm ok hn hle
def frzB (n : Nat) (b : TB) : TB → TB
  | .var row=>.var (row.map (frz n b 4))
  | b'=>b'
/-- an own block is frozen: everything that names it sees its content -/
theorem Wk.freeze (n : Nat) {b : TB} (hb : s.hp[n]? = some b) (hlf : lfB b = true) : Wk s ⟨s.tm.map (frz n b 4),(s.hp.map (frzB n b)).set n .dead⟩:=by
  intro h0 Fz L tm h hs
  have hB:=hs.blk n b hb
  have hnmlt : ∀ nm,b.live = true → (L n).nm = some nm → h0.length ≤ nm ∧ nm < h.length:=by
    intro nm hlv hn
    cases b with
    | dead=>cases hlv
    | rows es rows =>
      obtain ⟨-,-,-,-,h5⟩:=hB
      rcases h5 with h5|⟨nm',cs,e1,e2,e3,e4,e5⟩
      · rw [h5.1] at hn;cases hn
      · rw [e1] at hn;obtain rfl:=Option.some.inj hn
        exact ⟨e2,(List.getElem?_eq_some_iff.1 e4).1⟩
    | var row =>
      obtain ⟨-,nm',cs,e1,e2,e3,e4,e5⟩:=hB
      rw [e1] at hn;obtain rfl:=Option.some.inj hn
      exact ⟨e2,(List.getElem?_eq_some_iff.1 e4).1⟩
  -- what is dead stays so
  by_cases hlv : b.live = true
  · refine ⟨fun k=>Fz k ∨ (L n).nm = some k,L,⟨fun k hk=>.inl hk,fun k hk=>?_,fun _ _=>rfl⟩,?_⟩
    · rcases hk with hk|hk
      · exact .inl hk
      · exact .inr (hnmlt k hlv hk).1
    have hF : ∀ k,Fz k → (fun k=>Fz k ∨ (L n).nm = some k) k:=fun k hk=>.inl hk
    have hN : ∀ nm,(L n).nm = some nm → (fun k=>Fz k ∨ (L n).nm = some k) nm:=fun nm hn=>.inr hn
    have hmap : ∀ (l : List TV) (x : List Value),VLs Fz h L l x → VLs (fun k=>Fz k ∨ (L n).nm = some k) h L (l.map (frz n b 4)) x:=by
      intro l x hx
      refine ⟨by simp [hx.len],fun i p y hp hy=>?_⟩
      rw [List.getElem?_map] at hp
      cases hq : l[i]? with
      | none=>rw [hq] at hp;cases hp
      | some q=>rw [hq] at hp;obtain rfl:=Option.some.inj hp;exact VL.frz hB hlf hF hN 4 (hx.at' i q y hq hy)
    have inv : ∀ (k : Nat) (b' : TB),((s.hp.map (frzB n b)).set n .dead)[k]? = some b' → b'.live = true → k ≠ n ∧ ∃ b0 : TB,s.hp[k]? = some b0 ∧ b0.live = true ∧ b' = frzB n b b0:=by
      intro k b' hk hl
      by_cases e : k = n
      · subst e
        rw [List.getElem?_set_self (by simpa using (List.getElem?_eq_some_iff.1 hb).1)] at hk
        obtain rfl:=Option.some.inj hk
        cases hl
      · rw [List.getElem?_set_ne (Ne.symm e),List.getElem?_map] at hk
        cases hq : s.hp[k]? with
        | none=>rw [hq] at hk;cases hk
        | some b0 =>
          rw [hq] at hk
          obtain rfl:=Option.some.inj hk
          refine ⟨e,b0,rfl,?_,rfl⟩
          cases b0<;>first|rfl|exact hl
    refine ⟨hmap _ _ hs.tmr,?_,fun k hk=>by simpa using hs.dom k hk,?_,hs.fz.to hF (fun _ _=>rfl) ?_,hs.ext⟩
    · intro k b' hk
      by_cases hl : b'.live = true
      · obtain ⟨hne,b0,hb0,hl0,rfl⟩:=inv k b' hk hl
        have hB0:=hs.blk k b0 hb0
        have hnf : ∀ nm,(L k).nm = some nm → ¬ Fz nm → ¬ (Fz nm ∨ (L n).nm = some nm):=fun nm hn hf hor=>by
          rcases hor with h1|h1
          · exact hf h1
          · exact hne (hs.inj k n b0 b nm hb0 hb hl0 hlv hn h1)
        cases b0 with
        | dead=>cases hl0
        | rows es rows =>
          obtain ⟨q1,q2,q3,q4,q5⟩:=hB0
          refine ⟨q1,q2,q3,q4,?_⟩
          rcases q5 with q5|⟨nm,cs,e1,e2,e3,e4,e5⟩
          · exact .inl q5
          · exact .inr ⟨nm,cs,e1,e2,hnf nm e1 e3,e4,e5.mono hF (fun _ _=>rfl)⟩
        | var row =>
          obtain ⟨q1,nm,cs,e1,e2,e3,e4,e5⟩:=hB0
          exact ⟨q1,nm,cs,e1,e2,hnf nm e1 e3,e4,hmap _ _ e5⟩
      · cases b' with
        | dead=>trivial
        | _=>exact absurd rfl hl
    · intro k k' c c' nm hk hk' l1 l2 e1 e2
      obtain ⟨-,b1,g1,g2,-⟩:=inv k c hk l1
      obtain ⟨-,b2,g3,g4,-⟩:=inv k' c' hk' l2
      exact hs.inj k k' b1 b2 nm g1 g3 g2 g4 e1 e2
    · intro k hk
      rcases hk with hk|hk
      · exact hs.fz k hk
      · exact (hnmlt k hlv hk).2
  · -- dead already: nothing is said of it
    obtain rfl : b = .dead:=by cases b<;>first|rfl|exact absurd rfl hlv
    have hmap : ∀ (l : List TV) (x : List Value),VLs Fz h L l x → VLs Fz h L (l.map (frz n .dead 4)) x:=by
      intro l x hx
      refine ⟨by simp [hx.len],fun i p y hp hy=>?_⟩
      rw [List.getElem?_map] at hp
      cases hq : l[i]? with
      | none=>rw [hq] at hp;cases hp
      | some q =>
        rw [hq] at hp;obtain rfl:=Option.some.inj hp
        have hv:=hx.at' i q y hq hy
        have : ∀ (d : Nat) {p : TV} {x : Value},VL Fz h L p x → VL Fz h L (frz n .dead d p) x:=by
          intro d
          induction d with
          | zero=>intro p x _;exact .junk L x
          | succ d ih =>
            intro p x hp
            have key : ∀ (l : List TV) (l' : List Value),(∀ (i : Nat) p x,l[i]? = some p → l'[i]? = some x → VL Fz h L p x) → ∀ (i : Nat) p x,(l.map (Rex.frz n .dead d))[i]? = some p → l'[i]? = some x → VL Fz h L p x:=by
              intro l l' ha i p x hp hx
              rw [List.getElem?_map] at hp
              cases hq : l[i]? with
              | none=>rw [hq] at hp;cases hp
              | some q=>rw [hq] at hp;obtain rfl:=Option.some.inj hp;exact ih (ha i q x hq hx)
            cases hp with
            | agg _ l l' hl ha=>exact .agg L _ l' (by simp [hl]) (key l l' ha)
            | tuple _ l l' hl ha=>exact .tuple L _ l' (by simp [hl]) (key l l' ha)
            | lptr _ m r o nm ok hn =>
              simp only [Rex.frz]
              split
              · exact .junk L _
              · exact .lptr L m r o nm ok hn
            | lslnil _ m ok hn =>
              simp only [Rex.frz]
              split
              · exact .junk L _
              · exact .lslnil L m ok hn
            | lsl _ m o len nm ok hn hle =>
              simp only [Rex.frz]
              split
              · exact .junk L _
              · exact .lsl L m o len nm ok hn hle
            | junk _ x=>exact .junk L x
            | v _ x hx=>exact .v L x hx
            | func _ f a b a' b' la ha lb hb=>exact .func L f a b a' b' la ha lb hb
            | nillist _ es=>exact .nillist L es
            | vague _ es=>exact .vague L es
            | list _ es rows n o c cs eb hn hb he hw hc hle ha=>exact .list L es rows n o c cs eb hn hb he hw hc hle ha
            | fptr _ vb row off n base es cs hn hb hv hle ha=>exact .fptr L vb row off n base es cs hn hb hv hle ha
        exact this 4 hv
    refine ⟨Fz,L,Grow.refl _ _,hmap _ _ hs.tmr,?_,fun k hk=>by simpa using hs.dom k hk,?_,hs.fz,hs.ext⟩
    all_goals
      have inv : ∀ (k : Nat) (b' : TB),((s.hp.map (frzB n .dead)).set n .dead)[k]? = some b' → b'.live = true → ∃ b0 : TB,s.hp[k]? = some b0 ∧ b0.live = true ∧ b' = frzB n .dead b0:=by
        intro k b' hk hl
        by_cases e : k = n
        · subst e
          rw [List.getElem?_set_self (by simpa using (List.getElem?_eq_some_iff.1 hb).1)] at hk
          obtain rfl:=Option.some.inj hk
          cases hl
        · rw [List.getElem?_set_ne (Ne.symm e),List.getElem?_map] at hk
          cases hq : s.hp[k]? with
          | none=>rw [hq] at hk;cases hk
          | some b0 =>
            rw [hq] at hk
            obtain rfl:=Option.some.inj hk
            refine ⟨b0,rfl,?_,rfl⟩
            cases b0<;>first|rfl|exact hl
    · intro k b' hk
      by_cases hl : b'.live = true
      · obtain ⟨b0,hb0,hl0,rfl⟩:=inv k b' hk hl
        have hB0:=hs.blk k b0 hb0
        cases b0 with
        | dead=>cases hl0
        | rows es rows=>exact hB0
        | var row =>
          obtain ⟨q1,nm,cs,e1,e2,e3,e4,e5⟩:=hB0
          exact ⟨q1,nm,cs,e1,e2,e3,e4,hmap _ _ e5⟩
      · cases b' with
        | dead=>trivial
        | _=>exact absurd rfl hl
    · intro k k' c c' nm hk hk' l1 l2 e1 e2
      obtain ⟨b1,g1,g2,-⟩:=inv k c hk l1
      obtain ⟨b2,g3,g4,-⟩:=inv k' c' hk' l2
      exact hs.inj k k' b1 b2 nm g1 g3 g2 g4 e1 e2
end
end Go.Rex

namespace Go.Rex
open Go.RowKit
section
variable {C : Ctx} {P : Program} {Fz : Nat → Prop} {h h0 : List Blk} {L : Nat → LI} {s : TS} {tm : List Value}
variable {dst : Option Tmp} {ty : TypeId} {pos : String} {aft : Array Edge} {gd : Option (Nat × Bool)}

/-! ### append -/
def killB (n : Nat) : TB → TB
  | .var row=>.var (row.map (kill n 4))
  | b=>b
end
end Go.Rex

namespace Go.Rex
open Go.RowKit
section
variable {C : Ctx} {P : Program} {Fz : Nat → Prop} {h h0 : List Blk} {L : Nat → LI} {s : TS} {tm : List Value}
variable {dst : Option Tmp} {ty : TypeId} {pos : String} {aft : Array Edge} {gd : Option (Nat × Bool)}
/-! ### slices of slices -/
/-! ### calls -/
theorem xcall_go {g : FuncId} {f : Operand} {args : Array Operand} {tys : Array TypeId} {first caps : List Value} (hf : ev tm f = .func (.func g) ⟨first⟩ ⟨caps⟩) (hg : goFn P g = true) :
    xop C P (ev tm) { dst:=dst,op:=.call { callee:=.value f,args:=args,argTypes:=tys },type:=ty,pos:=pos,after:=aft,guard:=gd } h = C.call g (first ++ (args.toList.map (ev tm) ++ caps)) h:=by
  simp only [xop,hop,bhop]
  rw [xcall_eq]
  simp only [hf]
  rw [if_pos hg]
theorem args_vls (hz : FZ Fz h) (hs : VLs Fz h L s.tm tm) (args : List Operand) : VLs Fz h L (args.map (tev s.tm)) (args.map (ev tm)):=by
  refine ⟨by simp,fun i p x hp hx=>?_⟩
  rw [List.getElem?_map] at hp hx
  cases hq : args[i]? with
  | none=>rw [hq] at hp;cases hp
  | some q =>
    rw [hq] at hp hx
    obtain rfl:=Option.some.inj hp
    obtain rfl:=Option.some.inj hx
    exact tev_vl hz hs q
theorem VLs.toNo {l : List TV} {x : List Value} (hs : VLs Fz h L l x) (hl : l.all (lf 4) = true) {L' : Nat → LI} : VLs Fz h L' l x :=
  ⟨hs.len,fun i p y hp hy=>VL.toNo 4 (by simpa using List.all_eq_true.1 hl p (List.mem_of_getElem? hp)) (hs.at' i p y hp hy)⟩
/-- a call whose arguments own nothing -/
theorem OpG.call {f : Operand} {g : FuncId} {args : Array Operand} {tys : Array TypeId} {first caps as : List TV} {p : TV} {th : List TB} (hf : tev s.tm f = .func g first caps) (hg : goFn P g = true) (has : first ++ (args.toList.map (tev s.tm) ++ caps) = as)
    (hl : as.all (lf 4) = true) (hsp : Spec C g as ⟨[p],th⟩) (hth : th.all resTB = true) :
    OpG C P { dst:=dst,op:=.call { callee:=.value f,args:=args,argTypes:=tys },type:=ty,pos:=pos,after:=aft,guard:=gd } s ⟨tput s.tm dst (shift s.hp.length 4 p),s.hp ++ th⟩:=by
  intro h0 Fz L tm h hs
  subst has
  have hfv:=tev_vl hs.fz hs.tmr f
  rw [hf] at hfv
  obtain ⟨f',c',hfe,vf,vc⟩ : ∃ f' c',ev tm f = .func (.func g) ⟨f'⟩ ⟨c'⟩ ∧ VLs Fz h noL first f' ∧ VLs Fz h noL caps c':=by
    generalize ev tm f = y at *
    cases hfv with
    | func _ _ _ _ a' b' la ha lb hb=>exact ⟨a',b',rfl,⟨la,ha⟩,⟨lb,hb⟩⟩
  have hargs : VLs Fz h noL (first ++ (args.toList.map (tev s.tm) ++ caps)) (f' ++ (args.toList.map (ev tm) ++ c')):=by
    refine VLs.append vf (VLs.append (VLs.toNo (args_vls hs.fz hs.tmr args.toList) ?_) vc)
    simp only [List.all_append,Bool.and_eq_true] at hl
    exact hl.2.1
  obtain ⟨v,h',F1,L1,hc,g1,hr⟩:=hsp Fz h _ hs.fz hargs
  obtain ⟨L3,h3⟩:=hs.adopt dst hr hth g1
  refine ⟨rfl,v,h',by rw [xcall_go hfe hg];exact hc,hr.ext,F1,L3,⟨g1.1,fun n hn=>?_,g1.3⟩,h3⟩
  rcases g1.2 n hn with h1|h1
  · exact .inl h1
  · exact .inr (Nat.le_trans hs.ext.le h1)

/-- what one owns, seen for the time of a call -/
def view (hp : List TB) : Nat → TV → TV
  | 0,_=>.junk
  | d + 1,p=>match p with
    | .lsl n o len=>(match hp[n]? with
      | some (.rows es rows)=>.list es ((rows.drop o).take len)
      | _=>.junk)
    | .lptr n r o=>(match rowOf hp (.lptr n r o) with
      | some (row,o)=>if row.all (lf 4) = true then .fptr false row o else .junk
      | none=>.junk)
    | .agg l=>.agg (l.map (view hp d))
    | .tuple l=>.tuple (l.map (view hp d))
    | p=>p
/-- what is frozen, or one's own -/
def FzAll (Fz : Nat → Prop) (L : Nat → LI) (s : TS) : Nat → Prop:=fun k=>Fz k ∨ ∃ n b,s.hp[n]? = some b ∧ b.live = true ∧ (L n).nm = some k
theorem VL.view (hs : St h0 Fz L s tm h) : ∀ (d : Nat) {p : TV} {x : Value},VL Fz h L p x → VL (FzAll Fz L s) h noL (view s.hp d p) x
  | 0,p,x,hp=>by rw [Rex.view];exact .junk noL x
  | d + 1,p,x,hp=>by
    have hF : ∀ n,Fz n → FzAll Fz L s n:=fun n hn=>.inl hn
    have key : ∀ (l : List TV) (l' : List Value),(∀ (i : Nat) p x,l[i]? = some p → l'[i]? = some x → VL Fz h L p x) → ∀ (i : Nat) p x,(l.map (Rex.view s.hp d))[i]? = some p → l'[i]? = some x → VL (FzAll Fz L s) h noL p x:=by
      intro l l' ha i p x hp hx
      rw [List.getElem?_map] at hp
      cases hq : l[i]? with
      | none=>rw [hq] at hp;cases hp
      | some q=>rw [hq] at hp;obtain rfl:=Option.some.inj hp;exact VL.view hs d (ha i q x hq hx)
    cases hp with
    | junk _ x=>exact .junk noL x
    | v _ x hx=>exact .v noL x hx
    | agg _ l l' hl ha=>exact .agg noL _ l' (by simp [hl]) (key l l' ha)
    | tuple _ l l' hl ha=>exact .tuple noL _ l' (by simp [hl]) (key l l' ha)
    | func _ f a b a' b' la ha lb hb=>exact (VL.func noL f a b a' b' la ha lb hb).mono hF (fun _ _=>rfl)
    | nillist _ es=>exact .nillist noL es
    | vague _ es=>exact .vague noL es
    | list _ es rows n o c cs eb hn hb he hw hc hle ha=>exact (VL.list noL es rows n o c cs eb hn hb he hw hc hle ha).mono hF (fun _ _=>rfl)
    | fptr _ vb row off n base es cs hn hb hv hle ha=>exact (VL.fptr noL vb row off n base es cs hn hb hv hle ha).mono hF (fun _ _=>rfl)
    | lptr _ n r o nm ok hn =>
      simp only [Rex.view]
      split
      · rename_i row o' hr
        split
        · rename_i hlf
          have hbl : ∃ b,s.hp[n]? = some b ∧ b.live = true:=by
            simp only [rowOf] at hr
            split at hr
            · rename_i hb;exact ⟨_,hb,rfl⟩
            · rename_i hb;exact ⟨_,hb,rfl⟩
            · cases hr
          obtain ⟨b,hb,hlv⟩:=hbl
          obtain ⟨n',bb,es,cs,he,hcs,hle,hv⟩:=rowOf_sound hs (VL.lptr (Fz:=Fz) (h:=h) L n r o nm ok hn) hr
          injection he with he
          injection he with he
          injection he with he1 he2
          subst he1
          rw [he2]
          have:=VL.fptr (Fz:=FzAll Fz L s) (h:=h) noL false row o' nm bb es cs (.inr ⟨n,b,hb,hlv,hn⟩) hcs (fun h=>by cases h) hle (fun j p x h1 h2=>by
            have hjl:=(List.getElem?_eq_some_iff.1 h1).1
            have h3 : ((cs.drop bb).take row.length)[j]? = some x:=by
              rw [List.getElem?_take,if_pos hjl,List.getElem?_drop];exact h2
            exact (VL.toNo 4 (by simpa using List.all_eq_true.1 hlf p (List.mem_of_getElem? h1)) (hv.at' j p x h1 h3)).mono hF (fun _ _=>rfl))
          exact this
        · exact .junk noL _
      · exact .junk noL _
    | lslnil _ n ok hn =>
      simp only [Rex.view]
      split
      · simp only [List.take_zero];exact .nillist noL _
      · exact .junk noL _
    | lsl _ n o len nm ok hn hle =>
      simp only [Rex.view]
      split
      · rename_i es rows hb
        obtain ⟨q1,q2,q3,q4,q5⟩:=hs.blk n _ hb
        rcases q5 with q5|⟨nm',cs,e1,e2,e3,e4,e5⟩
        · rw [q5.1] at hn;cases hn
        · rw [hn] at e1
          obtain rfl:=Option.some.inj e1
          have hcl : cs.length = rows.length * es:=by rw [e5.len,flat_len q4]
          have:=VL.part (Fz:=FzAll Fz L s) (h:=h) (L:=noL) (es:=es) (rows:=rows) (n:=nm) (o:=0) (c:=(L n).tot - o) (cs:=cs) (.inr ⟨n,_,hb,rfl,hn⟩) e4 (.inl rfl) q4 (by omega) (fun j p x h1 h2=>by
            rw [Nat.zero_add] at h2
            exact (e5.at' j p x h1 h2).mono hF (fun _ _=>rfl)) o len (by rw [← q3];exact hle) (by omega)
          rw [Nat.zero_add] at this
          rw [q2]
          exact this
      · exact .junk noL _
/-! ### a function -/
def tresAll (P : Program) (hp : List TB) (tm : List TV) : List ResultVar → Option (List TV)
  | []=>some []
  | r :: rs=>match tres (tload P hp) tm r with
    | some v=>(tresAll P hp tm rs).map fun vs=>v :: vs
    | none=>none
theorem tresAll_sound (hs : St h0 Fz L s tm h) : ∀ (rs : List ResultVar) (ps : List TV),tresAll P s.hp s.tm rs = some ps → ∃ vs,resAll P h tm rs = some vs ∧ VLs Fz h L ps vs
  | [],ps,hp=>by obtain rfl:=Option.some.inj hp;exact ⟨[],rfl,VLs.nil⟩
  | r :: rs,ps,hp=>by
    simp only [tresAll] at hp
    split at hp
    · rename_i p hr
      obtain ⟨ps',h1,rfl⟩:=Option.map_eq_some_iff.1 hp
      obtain ⟨vs,h2,h3⟩:=tresAll_sound hs rs ps' h1
      have : ∃ v,resV P h tm r = some v ∧ VL Fz h L p v:=by
        cases r with
        | tmp t =>
          simp only [tres] at hr
          obtain rfl:=Option.some.inj hr
          exact ⟨_,rfl,tev_vl hs.fz hs.tmr (.tmp t)⟩
        | cell a t =>
          simp only [tres] at hr
          obtain ⟨n,o,v,hx,hl,hv⟩:=tload_sound hs (tev_vl hs.fz hs.tmr (.tmp a)) hr
          refine ⟨v,?_,hv⟩
          simp only [ev] at hx
          simp only [resV,hx,hl]
      obtain ⟨v,h4,h5⟩:=this
      exact ⟨v :: vs,by simp only [resAll,h4,h2,Option.map_some],VLs.cons h5 h3⟩
    · cases hp
theorem Spec.fn {f : FuncId} {fd : Func} {c : Code} {args : List TV} {r : TS} (hf : P.funcs[f]? = some fd) (hb : fd.body = some c) {tm0 : List TV} (htm : args ++ List.replicate (fd.ntmps - args.length) TV.junk = tm0)
    (hx : TX (lim P) P c ⟨tm0,[]⟩ (fun e s=>(e = .normal ∨ e = .ret) ∧ ∃ ps,tresAll P s.hp s.tm fd.results.toList = some ps ∧ Wk ⟨[oneT ps],s.hp⟩ r)) (hcov : cov r = true) : Spec (lim P) f args r:=by
  intro Fz h vs hfz hargs
  subst htm
  have hs : St h Fz noL ⟨args ++ List.replicate (fd.ntmps - args.length) TV.junk,[]⟩ (vs ++ List.replicate (fd.ntmps - vs.length) undef) h:=by
    refine ⟨?_,fun n b hb=>by simp at hb,fun n hn=>by simp [noL] at hn,fun n n' b b' nm hb=>by simp at hb,hfz,Ext.refl h⟩
    refine VLs.append hargs ?_
    rw [hargs.len]
    exact VLs.replicate (.junk noL undef) _
  obtain ⟨K,e,a1,h1,w1,hexec,hw,hdf,s1,F1,L1,⟨he,ps,hps,hwk⟩,g1,hs1⟩:=hx h Fz noL _ h hs
  obtain ⟨vs1,hres,hvs1⟩:=tresAll_sound (P:=P) hs1 _ ps hps
  have hs2 : St h F1 L1 ⟨[oneT ps],s1.hp⟩ [oneOf vs1] h1:=⟨VLs.cons (oneT_vl hvs1) VLs.nil,hs1.blk,hs1.dom,hs1.inj,hs1.fz,hs1.ext⟩
  obtain ⟨F2,L2,g2,hs3⟩:=hwk h F1 L1 _ h1 hs2
  have hm : wmin w1 none = w1:=by cases w1<;>rfl
  by_cases hcl : isClean (oneOf vs1) = true
  · obtain ⟨L4,hs4⟩:=hs3.clean hcl hcov hfz
    refine ⟨oneOf vs1,h,Fz,L4,lim_runCall (K:=K) ?_,Grow.refl _ _,hs4⟩
    unfold runCall
    simp only [hf,hb,hexec]
    have hend : runEnd P fd h.length h a1 h1 w1 = some (oneOf vs1,h,none):=by
      simp only [runEnd,hdf,takeDefers,hres,hcl,if_true,hm,hw]
    rcases he with rfl|rfl<;>exact hend
  · refine ⟨oneOf vs1,h1,F2,L2,lim_runCall (K:=K) ?_,g1.trans g2,hs3⟩
    unfold runCall
    simp only [hf,hb,hexec]
    have hend : runEnd P fd h.length h a1 h1 w1 = some (oneOf vs1,h1,none):=by
      simp [runEnd,hdf,takeDefers,hres,hcl,hm,hw]
    rcases he with rfl|rfl<;>exact hend
/-! ### a law: it may call f,which is true -/
theorem Spec.ov {f g : FuncId} {args : List TV} {r : TS} (hs : Spec (lim P) g args r) (hne : g ≠ f) : Spec (over P f) g args r:=by
  intro Fz h vs hfz hargs
  obtain ⟨v,h',F1,L1,hc,g1,hr⟩:=hs Fz h vs hfz hargs
  refine ⟨v,h',F1,L1,?_,g1,hr⟩
  rw [over_call,if_neg (fun hh=>hne hh.1)]
  exact hc
theorem Spec.awake {f : FuncId} : Spec (over P f) f [] ⟨[.v (.bool true)],[]⟩:=by
  intro Fz h vs hfz hargs
  have : vs = []:=by have:=hargs.len;simpa using this
  subst this
  exact ⟨.bool true,h,Fz,noL,by rw [over_call,if_pos ⟨rfl,rfl⟩],Grow.refl _ _,⟨VLs.cons (.v noL _ rfl) VLs.nil,fun n b hb=>by simp at hb,fun n hn=>by simp [noL] at hn,fun n n' b b' nm hb=>by simp at hb,hfz,Ext.refl h⟩⟩
theorem law_tex (hm : P.follows .mixedOrders = true) {f : FuncId} (hv : AwT P f) {g : FuncId} {fd : Func} {c : Code} {args : List TV} (hf : P.funcs[g]? = some fd) (hb : fd.body = some c)
    {tm0 : List TV} (htm : args ++ List.replicate (fd.ntmps - args.length) TV.junk = tm0)
    (hx : TX (over P f) P c ⟨tm0,[]⟩ (fun e s=>(e = .normal ∨ e = .ret) ∧ tresAll P s.hp s.tm fd.results.toList = some [.v (.bool true)]))
    {Fz : Nat → Prop} {h : List Blk} {vs : List Value} (hfz : FZ Fz h) (hargs : VLs Fz h noL args vs)
    {B lo : Nat} {D : Nat → Prop} {m : NMap} {w : World} {args' : List Value} (hr : Rel B lo D m h w) (hlo : lo ≤ h.length) (hargs' : VRs D m vs args') : Calls P g ⟨args'⟩ w (fun e w'=>e = .returned (.bool true) ∧ Below w.heap.size w w'):=by
  refine law_call hm hv hf hb (args:=vs) rfl ?_ hr hlo hargs'
  subst htm
  have hs : St h Fz noL ⟨args ++ List.replicate (fd.ntmps - args.length) TV.junk,[]⟩ (vs ++ List.replicate (fd.ntmps - vs.length) undef) h:=by
    refine ⟨?_,fun n b hb=>by simp at hb,fun n hn=>by simp [noL] at hn,fun n n' b b' nm hb=>by simp at hb,hfz,Ext.refl h⟩
    refine VLs.append hargs ?_
    rw [hargs.len]
    exact VLs.replicate (.junk noL undef) _
  refine (hx h Fz noL _ h hs).mono ?_
  rintro e a' h' ⟨hd,s',F',L',⟨he,hres⟩,g,hs'⟩
  refine ⟨he,hd,?_⟩
  obtain ⟨vs1,h1,h2⟩:=tresAll_sound (P:=P) hs' _ _ hres
  have hl:=h2.len
  match vs1,hl,h1,h2 with
  | [x],_,h1,h2 =>
    have:=h2.at' 0 _ x rfl rfl
    exact ⟨[x],h1,by rw [this.bool_inv];rfl⟩
end
end Go.Rex

namespace Go.Rex
open Go.RowKit
section
/-! ### states that say less: renamed,forgotten,nil as a row of nothing -/
inductive RN (fl : List (Option Nat)) : TV → TV → Prop
  | junk {p : TV} : RN fl p .junk
  | keep {p q : TV} (e : p = q) (h : lf 4 q = true) : RN fl p q
  | lsl {n o len j len' : Nat} (h : fl[j]? = some (some n)) (e : len = len') : RN fl (.lsl n o len) (.lsl j o len')
  | lptr {n r o j : Nat} (h : fl[j]? = some (some n)) : RN fl (.lptr n r o) (.lptr j r o)
  | nil {j : Nat} (h : fl[j]? = some none) : RN fl (.v (.slice none 0 0)) (.lsl j 0 0)
  | nl {es : Nat} : RN fl (.v (.slice none 0 0)) (.list es [])
  | agg {l l' : List TV} (hl : l'.length = l.length) (h : ∀ (i : Nat) p q,l[i]? = some p → l'[i]? = some q → RN fl p q) : RN fl (.agg l) (.agg l')
  | tuple {l l' : List TV} (hl : l'.length = l.length) (h : ∀ (i : Nat) p q,l[i]? = some p → l'[i]? = some q → RN fl p q) : RN fl (.tuple l) (.tuple l')
structure RNs (fl : List (Option Nat)) (l l' : List TV) : Prop where
  len : l'.length = l.length
  at' : ∀ (i : Nat) p q,l[i]? = some p → l'[i]? = some q → RN fl p q
theorem RNs.nil {fl : List (Option Nat)} : RNs fl [] []:=⟨rfl,fun i p q h=>by simp at h⟩
theorem RNs.cons {fl : List (Option Nat)} {p q : TV} {l l' : List TV} (h : RN fl p q) (hs : RNs fl l l') : RNs fl (p :: l) (q :: l'):=by
  refine ⟨by simp [hs.len],fun i p q hp hq=>?_⟩
  cases i with
  | zero=>simp at hp hq;subst hp hq;exact h
  | succ i=>simp at hp hq;exact hs.at' i _ _ hp hq
variable {Fz : Nat → Prop} {h : List Blk} {L L' : Nat → LI}
theorem RN.vl {fl : List (Option Nat)} (hL : ∀ j n,fl[j]? = some (some n) → L' j = L n) (hV : ∀ j,fl[j]? = some none → (L' j).ok = true ∧ (L' j).nm = none) {p q : TV} (hr : RN fl p q) : ∀ {x : Value},VL Fz h L p x → VL Fz h L' q x:=by
  induction hr with
  | junk=>intro x _;exact .junk L' x
  | keep e hl=>intro x hp;subst e;exact VL.toNo 4 hl hp
  | lsl hj e =>
    intro x hp
    subst e
    have e:=hL _ _ hj
    cases hp with
    | lslnil _ _ ok hn=>rw [← e] at ok hn;exact .lslnil L' _ ok hn
    | lsl _ _ _ _ nm ok hn hle=>rw [← e] at ok hn hle ⊢;exact .lsl L' _ _ _ nm ok hn hle
  | lptr hj =>
    intro x hp
    have e:=hL _ _ hj
    cases hp with
    | lptr _ _ _ _ nm ok hn=>rw [← e] at ok hn ⊢;exact .lptr L' _ _ _ nm ok hn
  | nil hj =>
    intro x hp
    obtain rfl:=hp.bool_inv
    exact .lslnil L' _ (hV _ hj).1 (hV _ hj).2
  | nl =>
    intro x hp
    obtain rfl:=hp.bool_inv
    exact .nillist L' _
  | @agg l l' hl hh ih =>
    intro x hp
    cases hp with
    | agg _ _ l2 hl2 ha =>
      refine .agg L' l' l2 (by omega) fun i p y h1 h2=>?_
      have hlt:=(List.getElem?_eq_some_iff.1 h1).1
      have h0 : l[i]? = some l[i]:=List.getElem?_eq_getElem (by omega)
      exact ih i _ _ h0 h1 (ha i _ _ h0 h2)
  | @tuple l l' hl hh ih =>
    intro x hp
    cases hp with
    | tuple _ _ l2 hl2 ha =>
      refine .tuple L' l' l2 (by omega) fun i p y h1 h2=>?_
      have hlt:=(List.getElem?_eq_some_iff.1 h1).1
      have h0 : l[i]? = some l[i]:=List.getElem?_eq_getElem (by omega)
      exact ih i _ _ h0 h1 (ha i _ _ h0 h2)
def renOk : List (Option Nat) → Bool
  | []=>true
  | none :: l=>renOk l
  | some n :: l=>l.all (fun x=>x != some n) && renOk l
theorem renOk_inj : ∀ {fl : List (Option Nat)},renOk fl = true → ∀ (i j n : Nat),fl[i]? = some (some n) → fl[j]? = some (some n) → i = j
  | [],_,i,j,n,h,_=>by simp at h
  | none :: l,hr,i,j,n,h1,h2=>by
    cases i with
    | zero=>simp at h1
    | succ i=>cases j with
      | zero=>simp at h2
      | succ j=>rw [renOk_inj (fl:=l) (by simpa [renOk] using hr) i j n (by simpa using h1) (by simpa using h2)]
  | some m :: l,hr,i,j,n,h1,h2=>by
    simp only [renOk,Bool.and_eq_true] at hr
    have hne : ∀ k,l[k]? ≠ some (some m):=fun k hk=>by
      have:=List.all_eq_true.1 hr.1 _ (List.mem_of_getElem? hk)
      simp at this
    cases i with
    | zero=>cases j with
      | zero=>rfl
      | succ j=>simp at h1;subst h1;exact absurd (by simpa using h2) (hne j)
    | succ i=>cases j with
      | zero=>simp at h2;subst h2;exact absurd (by simpa using h1) (hne i)
      | succ j=>rw [renOk_inj (fl:=l) hr.2 i j n (by simpa using h1) (by simpa using h2)]
/-- blocks under new numbers -/
inductive RB (fl : List (Option Nat)) (hp : List TB) : List TB → List (Option Nat) → Prop
  | nil : RB fl hp [] []
  | virt {es : Nat} {hp' : List TB} {l : List (Option Nat)} (h : RB fl hp hp' l) : RB fl hp (.rows es [] :: hp') (none :: l)
  | rows {n es : Nat} {rows rows' : List (List TV)} {hp' : List TB} {l : List (Option Nat)} (h : RB fl hp hp' l) (hb : hp[n]? = some (.rows es rows)) (e : rows = rows') : RB fl hp (.rows es rows' :: hp') (some n :: l)
  | var {n : Nat} {row row' : List TV} {hp' : List TB} {l : List (Option Nat)} (h : RB fl hp hp' l) (hb : hp[n]? = some (.var row)) (hr : RNs fl row row') : RB fl hp (.var row' :: hp') (some n :: l)
theorem RB.at {fl : List (Option Nat)} {hp hp' : List TB} {l : List (Option Nat)} (hb : RB fl hp hp' l) : hp'.length = l.length ∧ ∀ (j : Nat) (b : TB),hp'[j]? = some b → (l[j]? = some none ∧ ∃ es,b = .rows es []) ∨ ∃ n,l[j]? = some (some n) ∧ ((∃ es rows,b = .rows es rows ∧ hp[n]? = some b) ∨ ∃ row row',b = .var row' ∧ hp[n]? = some (.var row) ∧ RNs fl row row'):=by
  induction hb with
  | nil=>exact ⟨rfl,fun j b h=>by simp at h⟩
  | virt h ih =>
    refine ⟨by simp [ih.1],fun j b hj=>?_⟩
    cases j with
    | zero=>simp at hj;subst hj;exact .inl ⟨rfl,_,rfl⟩
    | succ j=>exact ih.2 j b (by simpa using hj)
  | rows h hb e ih =>
    subst e
    refine ⟨by simp [ih.1],fun j b hj=>?_⟩
    cases j with
    | zero=>simp at hj;subst hj;exact .inr ⟨_,rfl,.inl ⟨_,_,rfl,hb⟩⟩
    | succ j=>exact ih.2 j b (by simpa using hj)
  | var h hb hr ih =>
    refine ⟨by simp [ih.1],fun j b hj=>?_⟩
    cases j with
    | zero=>simp at hj;subst hj;exact .inr ⟨_,rfl,.inr ⟨_,_,rfl,hb,hr⟩⟩
    | succ j=>exact ih.2 j b (by simpa using hj)
theorem Wk.ren {tm tm' : List TV} {hp hp' : List TB} (fl : List (Option Nat)) (hok : renOk fl = true) (hB : RB fl hp hp' fl) (hT : RNs fl tm tm') : Wk ⟨tm,hp⟩ ⟨tm',hp'⟩:=by
  intro h0 Fz L vm h hs
  obtain ⟨hlen,hat⟩:=hB.at
  have esOf' : ∀ j : Nat,∃ es : Nat,fl[j]? = some none → hp'[j]? = some (TB.rows es []):=by
    intro j
    cases hb : hp'[j]? with
    | none =>
      refine ⟨0,fun hf=>?_⟩
      have h1:=(List.getElem?_eq_some_iff.1 hf).1
      rw [List.getElem?_eq_none_iff] at hb
      omega
    | some b =>
      rcases hat j b hb with ⟨_,es,rfl⟩|⟨n,h1,_⟩
      · exact ⟨es,fun _=>rfl⟩
      · exact ⟨0,fun hf=>by rw [h1] at hf;cases hf⟩
  let es : Nat → Nat:=fun j=>Classical.choose (esOf' j)
  have hes : ∀ j : Nat,fl[j]? = some none → hp'[j]? = some (TB.rows (es j) []):=fun j=>Classical.choose_spec (esOf' j)
  let L' : Nat → LI:=fun j=>match fl[j]? with
    | some (some n)=>L n
    | some none=>⟨true,none,es j,0⟩
    | none=>⟨false,none,0,0⟩
  have hL : ∀ j n : Nat,fl[j]? = some (some n) → L' j = L n:=fun j n hj=>by simp only [L',hj]
  have hV' : ∀ j : Nat,fl[j]? = some none → L' j = ⟨true,none,es j,0⟩:=fun j hj=>by simp only [L',hj]
  have hV : ∀ j : Nat,fl[j]? = some none → (L' j).ok = true ∧ (L' j).nm = none:=fun j hj=>by rw [hV' j hj];exact ⟨rfl,rfl⟩
  have hN : ∀ j : Nat,fl[j]? = none → (L' j).ok = false:=fun j hj=>by simp only [L',hj]
  clear_value L'
  have hmap : ∀ (l l' : List TV) (x : List Value),RNs fl l l' → VLs Fz h L l x → VLs Fz h L' l' x:=by
    intro l l' x hr hx
    refine ⟨by have:=hr.len;have:=hx.len;omega,fun i q y hq hy=>?_⟩
    have hlt:=(List.getElem?_eq_some_iff.1 hq).1
    have hll:=hr.len
    have h0 : l[i]? = some l[i]:=List.getElem?_eq_getElem (by omega)
    exact (hr.at' i _ _ h0 hq).vl hL hV (hx.at' i _ _ h0 hy)
  refine ⟨Fz,L',Grow.refl _ _,⟨hmap _ _ _ hT hs.tmr,?_,?_,?_,hs.fz,hs.ext⟩⟩
  · intro j b hb
    rcases hat j b hb with ⟨hj,es',rfl⟩|⟨n,hj,h1⟩
    · have:=hes j hj
      rw [hb] at this
      injection this with this
      injection this with this _
      refine ⟨(hV j hj).1,by rw [hV' j hj];exact this.symm,by rw [hV' j hj];rfl,by simp,.inl ⟨(hV j hj).2,rfl⟩⟩
    · rcases h1 with ⟨es',rows,rfl,hn⟩|⟨row,row',rfl,hn,hr⟩
      · have:=hs.blk n _ hn
        unfold BR at this ⊢
        rw [hL j n hj]
        exact this
      · obtain ⟨q1,nm,cs,e1,e2,e3,e4,e5⟩:=hs.blk n _ hn
        unfold BR
        rw [hL j n hj]
        exact ⟨q1,nm,cs,e1,e2,e3,e4,hmap _ _ _ hr e5⟩
  · intro j hj
    show j < hp'.length
    rcases Nat.lt_or_ge j fl.length with hlt|hge
    · omega
    · rw [hN j (List.getElem?_eq_none_iff.2 hge)] at hj;cases hj
  · intro j j' b b' nm hb hb' l1 l2 e1 e2
    have f : ∀ (j : Nat) (b : TB),hp'[j]? = some b → b.live = true → (L' j).nm = some nm → ∃ (n : Nat) (b0 : TB),fl[j]? = some (some n) ∧ hp[n]? = some b0 ∧ b0.live = true ∧ (L n).nm = some nm:=by
      intro j b hb hl he
      rcases hat j b hb with ⟨hj,es',rfl⟩|⟨n,hj,h1⟩
      · rw [(hV j hj).2] at he;cases he
      · rw [hL j n hj] at he
        rcases h1 with ⟨es',rows,rfl,hn⟩|⟨row,row',rfl,hn,hr⟩
        · exact ⟨n,_,hj,hn,rfl,he⟩
        · exact ⟨n,_,hj,hn,rfl,he⟩
    obtain ⟨n,b0,g1,g2,g3,g4⟩:=f j b hb l1 e1
    obtain ⟨n',b0',k1,k2,k3,k4⟩:=f j' b' hb' l2 e2
    obtain rfl:=hs.inj n n' b0 b0' nm g2 k2 g3 k3 g4 k4
    exact renOk_inj hok j j' n g1 k1
end

section
variable {C : Ctx} {P : Program} {ops : Array Oper} {rest : List Oper} {tm tm2 : List TV} {hp hp2 : List TB} {Q : TS → Prop} {o : Oper}
variable {dst : Option Tmp} {ty : TypeId} {pos : String} {aft : Array Edge} {gd : Option (Nat × Bool)}
/-! ### the shallow side -/
def getI {α : Type} (xs : List α) (i : Int) : Option α:=if 0 ≤ i then xs[i.toNat]? else none
def mkI {α : Type} (bytes : Nat) (n : Int) (z : α) : Option (List α):=if 0 ≤ n ∧ n < 2 ^ 63 ∧ (bytes : Int) * n ≤ 2 ^ 48 then some (List.replicate n.toNat z) else none
def appI {α : Type} (bytes : Nat) (xs ys : List α) : Option (List α):=if xs.length + ys.length ≤ 2 ^ 40 ∧ (xs.length + ys.length) * bytes ≤ 140737488355328 then some (xs ++ ys) else none
theorem getI_lt {α : Type} {xs : List α} {i : Int} {x : α} (h : getI xs i = some x) : 0 ≤ i ∧ i < xs.length:=by
  unfold getI at h
  split at h
  · have:=(List.getElem?_eq_some_iff.1 h).1;omega
  · cases h
theorem getI_at {α : Type} {xs : List α} {i : Int} {x : α} (h : getI xs i = some x) : xs[i.toNat]? = some x:=by
  unfold getI at h
  split at h
  · exact h
  · cases h
theorem tidx_map {α : Type} {xs : List α} {f : α → List TV} {i : Int} {x : α} (h : getI xs i = some x) : tidx (xs.map f) i = some (f x):=by
  unfold tidx
  rw [if_pos (getI_lt h).1,List.getElem?_map,getI_at h]
  rfl

/-! ### operations,with the state as it is -/
theorem TO.pop1 {p : TV} (hw : twant ops tm o = some true) (hv : tpop P hp tm o = some p) (ht : tput tm o.dst p = tm2) (hq : TO C P ops rest ⟨tm2,hp⟩ Q) : TO C P ops (o :: rest) ⟨tm,hp⟩ Q:=by
  subst ht;exact TO.p hw (OpP.of hv) hq
theorem TO.skip1 (hw : twant ops tm o = some false) (ht : tput tm o.dst (.tuple []) = tm2) (hq : TO C P ops rest ⟨tm2,hp⟩ Q) : TO C P ops (o :: rest) ⟨tm,hp⟩ Q:=by
  subst ht;exact TO.skip hw hq
variable {ms : List Nat} {i : Nat} {np : List Nat} {c : Nat}
theorem TD.pop1 {p : TV} (hw : twant ops tm o = some true) (hv : tpop P hp tm o = some p) (ht : tput tm o.dst p = tm2) (hq : TD C P ops ms rest (i + 1) np c ⟨tm2,hp⟩ Q) : TD C P ops ms (o :: rest) i np c ⟨tm,hp⟩ Q:=by
  subst ht;exact TD.p hw (OpP.of hv) hq
theorem TD.skip1 (hw : twant ops tm o = some false) (ht : tput tm o.dst (.tuple []) = tm2) (hq : TD C P ops ms rest (i + 1) np c ⟨tm2,hp⟩ Q) : TD C P ops ms (o :: rest) i np c ⟨tm,hp⟩ Q:=by
  subst ht;exact TD.skip hw hq
/-! ### loops,with all that follows -/
theorem TX.loopE {σ ε : Type} {b : Code} {step : σ → Option (σ ⊕ ε)} {x : σ} {e : ε} {Q : Exit → TS → Prop} (hr : run step x = some e) (I : σ → TS) (J : ε → Exit × TS)
    (hB : ∀ x y,step x = some y → TX C P b (I x) (fun ex st=>match y with|.inl x'=>ex = .normal ∧ Wk st (I x')|.inr e=>ex = (J e).1 ∧ Wk st (J e).2)) (hne : ∀ e,(J e).1 ≠ .normal) (hq : Q (J e).1 (J e).2) {s : TS} (hw : Wk s (I x)) : TX C P (.loop b) s Q:=by
  refine TX.weak hw (TX.post ((TX.loop hr I (fun e ex st=>ex = (J e).1 ∧ Wk st (J e).2) (fun x x' h=>hB x _ h) (fun x e h=>?_)).mono ?_))
  · exact (hB x _ h).mono fun ex st hh=>⟨by rw [hh.1];exact hne e,hh⟩
  · rintro ex st ⟨rfl,hh⟩
    exact ⟨_,hh,hq⟩
end
end Go.Rex

namespace Go.Rex
open Go.RowKit
section
variable {C : Ctx} {P : Program} {ops : Array Oper} {rest : List Oper} {tm tm2 : List TV} {hp hp2 : List TB} {Q : TS → Prop} {o : Oper}
variable {dst : Option Tmp} {ty : TypeId} {pos : String} {aft : Array Edge} {gd : Option (Nat × Bool)} {p q : TV} {ms : List Nat} {i : Nat} {np : List Nat} {c : Nat}

theorem TO.mv {x : Operand} (hw : twant ops tm { dst:=dst,op:=.move x,type:=ty,pos:=pos,after:=aft,guard:=gd } = some true) (hv : tev tm x = p) (ht : tput tm dst p = tm2) (hq : TO C P ops rest ⟨tm2,hp⟩ Q) : TO C P ops ({ dst:=dst,op:=.move x,type:=ty,pos:=pos,after:=aft,guard:=gd } :: rest) ⟨tm,hp⟩ Q :=
  TO.pop1 hw (by subst hv;rfl) ht hq
theorem TD.mv {x : Operand} (hw : twant ops tm { dst:=dst,op:=.move x,type:=ty,pos:=pos,after:=aft,guard:=gd } = some true) (hv : tev tm x = p) (ht : tput tm dst p = tm2) (hq : TD C P ops ms rest (i + 1) np c ⟨tm2,hp⟩ Q) : TD C P ops ms ({ dst:=dst,op:=.move x,type:=ty,pos:=pos,after:=aft,guard:=gd } :: rest) i np c ⟨tm,hp⟩ Q :=
  TD.pop1 hw (by subst hv;rfl) ht hq
theorem TO.asg {x : Operand} (hw : twant ops tm { dst:=dst,op:=.assign x,type:=ty,pos:=pos,after:=aft,guard:=gd } = some true) (hv : tev tm x = p) (ht : tput tm dst p = tm2) (hq : TO C P ops rest ⟨tm2,hp⟩ Q) : TO C P ops ({ dst:=dst,op:=.assign x,type:=ty,pos:=pos,after:=aft,guard:=gd } :: rest) ⟨tm,hp⟩ Q :=
  TO.pop1 hw (by subst hv;rfl) ht hq
theorem TD.asg {x : Operand} (hw : twant ops tm { dst:=dst,op:=.assign x,type:=ty,pos:=pos,after:=aft,guard:=gd } = some true) (hv : tev tm x = p) (ht : tput tm dst p = tm2) (hq : TD C P ops ms rest (i + 1) np c ⟨tm2,hp⟩ Q) : TD C P ops ms ({ dst:=dst,op:=.assign x,type:=ty,pos:=pos,after:=aft,guard:=gd } :: rest) i np c ⟨tm,hp⟩ Q :=
  TD.pop1 hw (by subst hv;rfl) ht hq
theorem TO.bin {b : BinOp} {t u : TypeId} {x y : Operand} {a d r : Value} (hw : twant ops tm { dst:=dst,op:=.binOp b t x y u,type:=ty,pos:=pos,after:=aft,guard:=gd } = some true) (hx : tev tm x = .v a) (hy : tev tm y = .v d) (hv : fastBin b a d = some r) (ht : tput tm dst (.v r) = tm2) (hq : TO C P ops rest ⟨tm2,hp⟩ Q) : TO C P ops ({ dst:=dst,op:=.binOp b t x y u,type:=ty,pos:=pos,after:=aft,guard:=gd } :: rest) ⟨tm,hp⟩ Q :=
  TO.pop1 hw (by simp only [tpop,hx,hy,tbin,hv,Option.map_some,orT]) ht hq
theorem TD.bin {b : BinOp} {t u : TypeId} {x y : Operand} {a d r : Value} (hw : twant ops tm { dst:=dst,op:=.binOp b t x y u,type:=ty,pos:=pos,after:=aft,guard:=gd } = some true) (hx : tev tm x = .v a) (hy : tev tm y = .v d) (hv : fastBin b a d = some r) (ht : tput tm dst (.v r) = tm2) (hq : TD C P ops ms rest (i + 1) np c ⟨tm2,hp⟩ Q) : TD C P ops ms ({ dst:=dst,op:=.binOp b t x y u,type:=ty,pos:=pos,after:=aft,guard:=gd } :: rest) i np c ⟨tm,hp⟩ Q :=
  TD.pop1 hw (by simp only [tpop,hx,hy,tbin,hv,Option.map_some,orT]) ht hq
theorem TO.ext {x : Operand} {n : Nat} {l : List TV} (hw : twant ops tm { dst:=dst,op:=.extract x n,type:=ty,pos:=pos,after:=aft,guard:=gd } = some true) (hx : tev tm x = .tuple l) (hv : l[n]? = some p) (ht : tput tm dst p = tm2) (hq : TO C P ops rest ⟨tm2,hp⟩ Q) : TO C P ops ({ dst:=dst,op:=.extract x n,type:=ty,pos:=pos,after:=aft,guard:=gd } :: rest) ⟨tm,hp⟩ Q :=
  TO.pop1 hw (by simp only [tpop,hx,hv]) ht hq
theorem TO.fa {t : TypeId} {x : Operand} {f : Nat} (hw : twant ops tm { dst:=dst,op:=.fieldAddr t x f,type:=ty,pos:=pos,after:=aft,guard:=gd } = some true) (hx : tev tm x = q) (hv : tfieldAddr P t q f = some p) (ht : tput tm dst p = tm2) (hq : TO C P ops rest ⟨tm2,hp⟩ Q) : TO C P ops ({ dst:=dst,op:=.fieldAddr t x f,type:=ty,pos:=pos,after:=aft,guard:=gd } :: rest) ⟨tm,hp⟩ Q :=
  TO.pop1 hw (by simp only [tpop,hx,hv]) ht hq
theorem TD.fa {t : TypeId} {x : Operand} {f : Nat} (hw : twant ops tm { dst:=dst,op:=.fieldAddr t x f,type:=ty,pos:=pos,after:=aft,guard:=gd } = some true) (hx : tev tm x = q) (hv : tfieldAddr P t q f = some p) (ht : tput tm dst p = tm2) (hq : TD C P ops ms rest (i + 1) np c ⟨tm2,hp⟩ Q) : TD C P ops ms ({ dst:=dst,op:=.fieldAddr t x f,type:=ty,pos:=pos,after:=aft,guard:=gd } :: rest) i np c ⟨tm,hp⟩ Q :=
  TD.pop1 hw (by simp only [tpop,hx,hv]) ht hq
theorem TO.ia {t : TypeId} {x y : Operand} {q2 : TV} (hw : twant ops tm { dst:=dst,op:=.indexAddr t x y,type:=ty,pos:=pos,after:=aft,guard:=gd } = some true) (hx : tev tm x = q) (hy : tev tm y = q2) (hv : tindexAddr P hp t q q2 = some p) (ht : tput tm dst p = tm2) (hq : TO C P ops rest ⟨tm2,hp⟩ Q) : TO C P ops ({ dst:=dst,op:=.indexAddr t x y,type:=ty,pos:=pos,after:=aft,guard:=gd } :: rest) ⟨tm,hp⟩ Q :=
  TO.pop1 hw (by simp only [tpop,hx,hy,hv]) ht hq
theorem TO.pk {x y z : Operand} (hw : twant ops tm { dst:=dst,op:=.pick x y z,type:=ty,pos:=pos,after:=aft,guard:=gd } = some true) (hv : tpick (tev tm x) (tev tm y) (tev tm z) = some p) (ht : tput tm dst p = tm2) (hq : TO C P ops rest ⟨tm2,hp⟩ Q) : TO C P ops ({ dst:=dst,op:=.pick x y z,type:=ty,pos:=pos,after:=aft,guard:=gd } :: rest) ⟨tm,hp⟩ Q :=
  TO.pop1 hw (by simp only [tpop,hv]) ht hq
theorem TO.len {x : Operand} {t : TypeId} {ts : List TypeId} (hw : twant ops tm { dst:=dst,op:=.call { callee:=.builtin .len,args:=#[x],argTypes:=⟨t :: ts⟩ },type:=ty,pos:=pos,after:=aft,guard:=gd } = some true) (hx : tev tm x = q) (hv : tlen P (some t) q = some p) (ht : tput tm dst p = tm2) (hq : TO C P ops rest ⟨tm2,hp⟩ Q) : TO C P ops ({ dst:=dst,op:=.call { callee:=.builtin .len,args:=#[x],argTypes:=⟨t :: ts⟩ },type:=ty,pos:=pos,after:=aft,guard:=gd } :: rest) ⟨tm,hp⟩ Q :=
  TO.pop1 hw (by simp only [tpop,if_true,hx,List.getElem?_toArray,List.getElem?_cons_zero,hv,orT]) ht hq
theorem TO.bld {t : TypeId} {ps : Array (Nat × Operand)} {l : List (Nat × TV)} (hw : twant ops tm { dst:=dst,op:=.build t ps,type:=ty,pos:=pos,after:=aft,guard:=gd } = some true) (hx : ps.toList.map (fun q=>(q.1,tev tm q.2)) = l) (hv : tbuild P t l = some p) (ht : tput tm dst p = tm2) (hq : TO C P ops rest ⟨tm2,hp⟩ Q) : TO C P ops ({ dst:=dst,op:=.build t ps,type:=ty,pos:=pos,after:=aft,guard:=gd } :: rest) ⟨tm,hp⟩ Q :=
  TO.pop1 hw (by simp only [tpop,hx,hv]) ht hq
theorem TO.ld {t : TypeId} {a : Operand} (hw : twant ops tm { dst:=dst,op:=.load t a,type:=ty,pos:=pos,after:=aft,guard:=gd } = some true) (hx : tev tm a = p) (hv : tload P hp t p = some q) (ht : tput tm dst q = tm2) (hh2 : hp = hp2) (hq : TO C P ops rest ⟨tm2,hp2⟩ Q) : TO C P ops ({ dst:=dst,op:=.load t a,type:=ty,pos:=pos,after:=aft,guard:=gd } :: rest) ⟨tm,hp⟩ Q:=by
  subst ht hh2
  exact TO.g hw (OpG.load (by rw [show tev (TS.mk tm hp).tm a = p from hx];exact hv)) hq
theorem TD.ld {t : TypeId} {a : Operand} (hw : twant ops tm { dst:=dst,op:=.load t a,type:=ty,pos:=pos,after:=aft,guard:=gd } = some true) (hx : tev tm a = p) (hv : tload P hp t p = some q) (ht : tput tm dst q = tm2) (hh2 : hp = hp2) (hq : TD C P ops ms rest (i + 1) (i :: np) 0 ⟨tm2,hp2⟩ Q) : TD C P ops ms ({ dst:=dst,op:=.load t a,type:=ty,pos:=pos,after:=aft,guard:=gd } :: rest) i np 0 ⟨tm,hp⟩ Q:=by
  subst ht hh2
  exact TD.g hw (OpG.load (by rw [show tev (TS.mk tm hp).tm a = p from hx];exact hv)) hq
theorem TO.al {e : TypeId} {z : List Value} {zt : List TV} (hw : twant ops tm { dst:=dst,op:=.alloc e,type:=ty,pos:=pos,after:=aft,guard:=gd } = some true) (hv : zeroC P e = some z) (hz : z.map TV.v = zt) (ht : tput tm dst (.lptr hp.length 0 0) = tm2) (hh2 : (hp ++ [.var zt]) = hp2) (hq : TO C P ops rest ⟨tm2,hp2⟩ Q) : TO C P ops ({ dst:=dst,op:=.alloc e,type:=ty,pos:=pos,after:=aft,guard:=gd } :: rest) ⟨tm,hp⟩ Q:=by
  subst ht hh2
  exact TO.g hw (by subst hz;exact OpG.alloc hv) hq
theorem TO.bf {e : TypeId} {x : Operand} {l : List TV} (hw : twant ops tm { dst:=dst,op:=.box e x,type:=ty,pos:=pos,after:=aft,guard:=gd } = some true) (hx : tev tm x = p) (hj : isJunk p = false) (hl : tcells p = l) (hlf : l.all (lf 4) = true) (ht : tput tm dst (.fptr true l 0) = tm2) (hh2 : hp = hp2) (hq : TO C P ops rest ⟨tm2,hp2⟩ Q) : TO C P ops ({ dst:=dst,op:=.box e x,type:=ty,pos:=pos,after:=aft,guard:=gd } :: rest) ⟨tm,hp⟩ Q:=by
  subst ht hh2
  exact TO.g hw (by subst hl;exact OpG.boxF hx hj hlf) hq
theorem TO.cal {fo : Operand} {g : FuncId} {args : Array Operand} {tys : Array TypeId} {first caps as : List TV} {th : List TB} (hw : twant ops tm { dst:=dst,op:=.call { callee:=.value fo,args:=args,argTypes:=tys },type:=ty,pos:=pos,after:=aft,guard:=gd } = some true) (hf : tev tm fo = .func g first caps) (hg : goFn P g = true) (hsp : Spec C g as ⟨[p],th⟩) (has : first ++ (args.toList.map (tev tm) ++ caps) = as) (hl : as.all (lf 4) = true) (hth : th.all resTB = true) (ht : tput tm dst (shift hp.length 4 p) = tm2) (hh2 : hp ++ th = hp2) (hq : TO C P ops rest ⟨tm2,hp2⟩ Q) : TO C P ops ({ dst:=dst,op:=.call { callee:=.value fo,args:=args,argTypes:=tys },type:=ty,pos:=pos,after:=aft,guard:=gd } :: rest) ⟨tm,hp⟩ Q:=by
  subst ht hh2
  exact TO.g hw (OpG.call (s:=⟨tm,hp⟩) hf hg has hl hsp hth) hq
theorem TD.cal {fo : Operand} {g : FuncId} {args : Array Operand} {tys : Array TypeId} {first caps as : List TV} {th : List TB} (hw : twant ops tm { dst:=dst,op:=.call { callee:=.value fo,args:=args,argTypes:=tys },type:=ty,pos:=pos,after:=aft,guard:=gd } = some true) (hf : tev tm fo = .func g first caps) (hg : goFn P g = true) (hsp : Spec C g as ⟨[p],th⟩) (has : first ++ (args.toList.map (tev tm) ++ caps) = as) (hl : as.all (lf 4) = true) (hth : th.all resTB = true) (ht : tput tm dst (shift hp.length 4 p) = tm2) (hh2 : hp ++ th = hp2) (hq : TD C P ops ms rest (i + 1) (i :: np) 0 ⟨tm2,hp2⟩ Q) : TD C P ops ms ({ dst:=dst,op:=.call { callee:=.value fo,args:=args,argTypes:=tys },type:=ty,pos:=pos,after:=aft,guard:=gd } :: rest) i np 0 ⟨tm,hp⟩ Q:=by
  subst ht hh2
  exact TD.g hw (OpG.call (s:=⟨tm,hp⟩) hf hg has hl hsp hth) hq
theorem TO.frz (n : Nat) {l : List Oper} {b : TB} (hb : hp[n]? = some b) (hl : lfB b = true) (ht : tm.map (frz n b 4) = tm2) (hh2 : (hp.map (frzB n b)).set n .dead = hp2) (hq : TO C P ops l ⟨tm2,hp2⟩ Q) : TO C P ops l ⟨tm,hp⟩ Q:=by
  subst ht hh2
  exact TO.weak (Wk.freeze n hb hl) hq
theorem TD.frz (n : Nat) {l : List Oper} {b : TB} (hb : hp[n]? = some b) (hl : lfB b = true) (ht : tm.map (frz n b 4) = tm2) (hh2 : (hp.map (frzB n b)).set n .dead = hp2) (hcb : Nat.ble c 1 = true) (hq : TD C P ops ms l i np c ⟨tm2,hp2⟩ Q) : TD C P ops ms l i np c ⟨tm,hp⟩ Q:=by
  subst ht hh2
  exact TD.weak hcb (Wk.freeze n hb hl) hq
end
end Go.Rex

namespace Go.Rex
open Go.RowKit
section
variable {P : Program} {tm : List TV} {hp : List TB}
variable {dst : Option Tmp} {ty : TypeId} {pos : String} {aft : Array Edge} {gd : Option (Nat × Bool)} {x y : Operand} {t u : TypeId} {tys : List TypeId}
/-! ### operations on values without names -/
theorem tgen_of {o : Oper} {v : Value} (ha : o.op.operands.toList.all (fun x=>(er 3 (tev tm x)).isSome) = true) (hv : Rex.pop P (erased tm) o = some v) (hi : injOk 3 v = true) : tgen P tm o = some (inj 3 v):=by
  unfold tgen
  rw [if_pos ha,hv]
  simp only
  rw [if_pos hi]
theorem erased_v {a : Value} (h : tev tm x = .v a) : erased tm x = a:=by unfold erased;rw [h];rfl
theorem some_v {a : Value} (h : tev tm x = .v a) : (er 3 (tev tm x)).isSome = true:=by rw [h];rfl
theorem pop_not {b : Bool} (h : tev tm x = .v (.bool b)) : tpop P hp tm { dst:=dst,op:=.unOp .not t x,type:=ty,pos:=pos,after:=aft,guard:=gd } = some (.v (.bool (!b))):=by
  have : tgen P tm { dst:=dst,op:=.unOp .not t x,type:=ty,pos:=pos,after:=aft,guard:=gd } = some (inj 3 (.bool (!b))) :=
    tgen_of (by simp [Op.operands,some_v h]) (by simp only [Rex.pop,Rex.pop0,genP_not,erased_v h]) rfl
  exact this
theorem pop_neg {k : IntKind} {n : Int} (h : tev tm x = .v (.int k n)) : tpop P hp tm { dst:=dst,op:=.unOp .neg t x,type:=ty,pos:=pos,after:=aft,guard:=gd } = some (.v (.int k (k.wrap (0 - n)))):=by
  have : tgen P tm { dst:=dst,op:=.unOp .neg t x,type:=ty,pos:=pos,after:=aft,guard:=gd } = some (inj 3 (.int k (k.wrap (0 - n)))) :=
    tgen_of (by simp [Op.operands,some_v h]) (by simp only [Rex.pop,Rex.pop0,genP_neg,erased_v h]) rfl
  exact this
theorem pop_max {k k' : IntKind} {a b : Int} (h : tev tm x = .v (.int k a)) (g : tev tm y = .v (.int k' b)) : tpop P hp tm { dst:=dst,op:=.call { callee:=.builtin .max,args:=#[x,y],argTypes:=⟨tys⟩ },type:=ty,pos:=pos,after:=aft,guard:=gd } = some (.v (.int k (if b > a then b else a))):=by
  have : tgen P tm { dst:=dst,op:=.call { callee:=.builtin .max,args:=#[x,y],argTypes:=⟨tys⟩ },type:=ty,pos:=pos,after:=aft,guard:=gd } = some (inj 3 (.int k (if b > a then b else a))) :=
    tgen_of (by simpa [Op.operands,Call.operands] using ⟨some_v h,some_v g⟩) (by
      simp only [Rex.pop,Rex.pop0,bpop];rw [if_neg (by decide),genP_max,erased_v h,erased_v g]) rfl
  exact this
/-- from the model itself -/
theorem tgen_run {o : Oper} {v : Value} (hp0 : Rex.pop0 P (erased tm) o = genP P (erased tm) o) (hsel : ∀ cs b, o.op ≠ .select cs b) (ha : o.op.operands.toList.all (fun x => (er 3 (tev tm x)).isSome) = true) (hc : o.op.operands.toList.all (fun x => isFixed (erased tm x)) = true)
    (hv : prun P (execOp (erased tm) o) = some (.value v)) (hi : injOk 3 v = true) (hcv : isClean v = true) : tgen P tm o = some (inj 3 v):=by
  refine tgen_of ha (pop_of0 ?_) hi
  rw [hp0]
  unfold genP
  split
  · rename_i cs b e;exact absurd e (hsel _ _)
  · rw [if_pos hc,hv]
    simp only
    rw [if_pos hcv]
theorem prun_bind {α β : Type} {s : Sem α} {f : α → Sem β} : prun P (s >>= f) = (prun P s).bind fun a=>prun P (f a):=by
  induction s with
  | pure a=>rfl
  | program k ih=>exact ih _
  | mark m k ih=>exact ih
  | _=>rfl
theorem prun_pure {α : Type} {a : α} : prun P (pure a : Sem α) = some a:=rfl
theorem prun_under {t : TypeId} {d : TypeDesc} (h : P.underlying t = some d) : prun P (underlying t) = some d:=by
  unfold underlying
  rw [prun_bind]
  show prun P (match P.underlying t with | some d => pure d | none => stuck "no such type") = some d
  rw [h]
  rfl
theorem cvt_ok {v w : Value} (h : tev tm x = .v v) (hc : isFixed v = true) (hw : prun P (convert t u v) = some w) (hi : injOk 3 w = true) (hcw : isClean w = true) : tpop P hp tm { dst:=dst,op:=.convert t u x,type:=ty,pos:=pos,after:=aft,guard:=gd } = some (inj 3 w):=by
  have : tgen P tm { dst:=dst,op:=.convert t u x,type:=ty,pos:=pos,after:=aft,guard:=gd } = some (inj 3 w):=by
    refine tgen_run rfl (fun cs b e=>by cases e) (by simpa [Op.operands] using some_v h) (by simpa [Op.operands,erased_v h] using hc) ?_ hi hcw
    show prun P (convert t u (erased tm x) >>= fun r=>(pure (Next.value r) : Sem Next)) = _
    rw [prun_bind,erased_v h,hw]
    rfl
  exact this
theorem cvt_int_int {k ks kd : IntKind} {n : Int} (hs : P.underlying t = some (.int ks)) (hd : P.underlying u = some (.int kd)) (h : tev tm x = .v (.int k n)) : tpop P hp tm { dst:=dst,op:=.convert t u x,type:=ty,pos:=pos,after:=aft,guard:=gd } = some (.v (.int kd (kd.wrap n))):=by
  refine cvt_ok (w:=.int kd (kd.wrap n)) h rfl ?_ rfl rfl
  unfold convert
  rw [prun_bind,prun_under hs,Option.bind_some,prun_bind,prun_under hd,Option.bind_some]
  rfl
/-- a float as a whole number; nothing if it draws -/
def f2i (s : FloatKind) (b : Nat) (d : IntKind) : Option Int :=
  match (s.decode b).toInt .zero with
  | some n=>if d.min ≤ n ∧ n ≤ d.max then some n else none
  | none=>none
/-- operators on bits -/
def bitI (op : BinOp) (k : IntKind) (a b : Int) : Int :=
  let x:=BitVec.ofInt k.bits a
  let y:=BitVec.ofInt k.bits b
  match op with
  | .and=>k.wrap (x &&& y).toNat
  | .or=>k.wrap (x ||| y).toNat
  | .xor=>k.wrap (x ^^^ y).toNat
  | _=>k.wrap (x &&& ~~~y).toNat
def shI (op : BinOp) (k : IntKind) (a b : Int) : Option Int :=
  if b < 0 then none else match op with
  | .shl=>some (k.wrap (a * 2 ^ (min b.toNat k.bits)))
  | _=>some (a.fdiv (2 ^ (min b.toNat k.bits)))
theorem bin_ok {b : BinOp} {v w r : Value} (h : tev tm x = .v v) (g : tev tm y = .v w) (hf : fastBin b v w = none) (hc : isFixed v = true) (hd : isFixed w = true) (he : prun P (eqGuard b t x y v w) = some ()) (hw : prun P (binOp b t v w) = some r) (hi : injOk 3 r = true) (hcr : isClean r = true) :
    tpop P hp tm { dst:=dst,op:=.binOp b t x y u,type:=ty,pos:=pos,after:=aft,guard:=gd } = some (inj 3 r):=by
  have h1 : tgen P tm { dst:=dst,op:=.binOp b t x y u,type:=ty,pos:=pos,after:=aft,guard:=gd } = some (inj 3 r):=by
    refine tgen_run ?_ (fun cs b e=>by cases e) (by simpa [Op.operands] using ⟨some_v h,some_v g⟩) (by simpa [Op.operands,erased_v h,erased_v g] using ⟨hc,hd⟩) ?_ hi hcr
    · simp only [Rex.pop0,erased_v h,erased_v g,hf,orGen]
    · show prun P ((eqGuard b t x y (erased tm x) (erased tm y) >>= fun _=>binOp b t (erased tm x) (erased tm y)) >>= fun r=>(pure (Next.value r) : Sem Next)) = _
      rw [prun_bind,erased_v h,erased_v g,prun_bind,he,Option.bind_some,hw]
      rfl
  simp only [tpop,h,g,tbin,hf,Option.map_none,orT]
  exact h1
theorem eqG_other {b : BinOp} {v w : Value} (hb : b ≠ .eql ∧ b ≠ .neq) : prun P (eqGuard b t x y v w) = some ():=by
  cases b<;>first|rfl|exact absurd rfl hb.1|exact absurd rfl hb.2
theorem pop_bits {b : BinOp} {k : IntKind} {a d : Int} (h : tev tm x = .v (.int k a)) (g : tev tm y = .v (.int k d)) (hb : b = .and ∨ b = .or ∨ b = .xor ∨ b = .andNot) : tpop P hp tm { dst:=dst,op:=.binOp b t x y u,type:=ty,pos:=pos,after:=aft,guard:=gd } = some (.v (.int k (bitI b k a d))):=by
  refine bin_ok (r:=.int k (bitI b k a d)) h g ?_ rfl rfl (eqG_other ?_) ?_ rfl rfl
  · rcases hb with rfl|rfl|rfl|rfl<;>simp [fastBin]
  · rcases hb with rfl|rfl|rfl|rfl<;>exact ⟨by decide,by decide⟩
  · rcases hb with rfl|rfl|rfl|rfl<;>simp [binOp,Op.intBits,bitI]<;>rfl
theorem pop_shift {b : BinOp} {k k' : IntKind} {a d r : Int} (h : tev tm x = .v (.int k a)) (g : tev tm y = .v (.int k' d)) (hb : b = .shl ∨ b = .shr) (hr : shI b k a d = some r) : tpop P hp tm { dst:=dst,op:=.binOp b t x y u,type:=ty,pos:=pos,after:=aft,guard:=gd } = some (.v (.int k r)):=by
  unfold shI at hr
  split at hr
  · cases hr
  · rename_i hd
    refine bin_ok (r:=.int k r) h g ?_ rfl rfl (eqG_other ?_) ?_ rfl rfl
    · rcases hb with rfl|rfl<;>simp [fastBin]
    · rcases hb with rfl|rfl<;>exact ⟨by decide,by decide⟩
    · rcases hb with rfl|rfl<;>(obtain rfl:=Option.some.inj hr;simp only [binOp,Op.shift,if_neg hd];rfl)
end
end Go.Rex

namespace Go.Rex
open Go.RowKit
section
variable {C : Ctx} {P : Program} {Fz : Nat → Prop} {h h0 : List Blk} {L : Nat → LI} {s : TS} {tm : List Value}
variable {dst : Option Tmp} {ty : TypeId} {pos : String} {aft : Array Edge} {gd : Option (Nat × Bool)}
end
end Go.Rex

namespace Go.Rex
open Go.RowKit
section
variable {C : Ctx} {P : Program} {ops : Array Oper} {rest : List Oper} {tm tm2 : List TV} {hp hp2 : List TB} {Q : TS → Prop} {o : Oper}
variable {dst : Option Tmp} {ty : TypeId} {pos : String} {aft : Array Edge} {gd : Option (Nat × Bool)} {p q : TV} {ms : List Nat} {i : Nat} {np : List Nat} {c : Nat}
theorem stV {t : TypeId} {a x : Operand} {n ob : Nat} {row row2 l : List TV} (ha : tev tm a = .lptr n 0 ob) (hx : tev tm x = p) (hj : isJunk p = false) (hl : tcells p = l) (hb : hp[n]? = some (.var row)) (ht : okT P t = true) (hlen : l.length = P.cellsOf t) (hone : l.all tone = true) (hfit : Nat.ble (ob + l.length) row.length = true) (hv : tsplice row ob l = row2) :
    OpW C P { dst:=none,op:=.store t a x,type:=ty,pos:=pos,after:=aft,guard:=gd } ⟨tm,hp⟩ ⟨tm,hp.set n (.var row2)⟩:=by
  subst hl hv
  refine OpW.store (s:=⟨tm,hp⟩) ?_
  rw [show tev (TS.mk tm hp).tm a = _ from ha,show tev (TS.mk tm hp).tm x = p from hx]
  simp only [tstore]
  rw [if_pos ⟨hj,ht,hlen,hone⟩,hb]
  simp only
  rw [if_pos ⟨trivial,Nat.le_of_ble_eq_true hfit⟩]
theorem TO.sv {t : TypeId} {a x : Operand} {n ob : Nat} {row row2 l : List TV} (hw : twant ops tm { dst := none, op := .store t a x, type := ty, pos := pos, after := aft, guard := gd } = some true) (ha : tev tm a = .lptr n 0 ob) (hx : tev tm x = p) (hj : isJunk p = false) (hl : tcells p = l) (hb : hp[n]? = some (.var row)) (ht : okT P t = true) (hlen : l.length = P.cellsOf t) (hone : l.all tone = true) (hfit : Nat.ble (ob + l.length) row.length = true) (hv : tsplice row ob l = row2)
    (hh2 : hp.set n (.var row2) = hp2) (hq : TO C P ops rest ⟨tm,hp2⟩ Q) : TO C P ops ({ dst:=none,op:=.store t a x,type:=ty,pos:=pos,after:=aft,guard:=gd } :: rest) ⟨tm,hp⟩ Q:=by
  subst hh2;exact TO.w hw (stV ha hx hj hl hb ht hlen hone hfit hv) hq
theorem TD.sv {t : TypeId} {a x : Operand} {n ob : Nat} {row row2 l : List TV} (hw : twant ops tm { dst := none, op := .store t a x, type := ty, pos := pos, after := aft, guard := gd } = some true) (ha : tev tm a = .lptr n 0 ob) (hx : tev tm x = p) (hj : isJunk p = false) (hl : tcells p = l) (hb : hp[n]? = some (.var row)) (ht : okT P t = true) (hlen : l.length = P.cellsOf t) (hone : l.all tone = true) (hfit : Nat.ble (ob + l.length) row.length = true) (hv : tsplice row ob l = row2)
    (hnp : okW ops ms i ⟨tm,hp⟩ n np = true) (hh2 : hp.set n (.var row2) = hp2) (hq : TD C P ops ms rest (i + 1) (i :: np) 1 ⟨tm,hp2⟩ Q) : TD C P ops ms ({ dst:=none,op:=.store t a x,type:=ty,pos:=pos,after:=aft,guard:=gd } :: rest) i np c ⟨tm,hp⟩ Q:=by
  subst hh2;exact TD.wF (s:=⟨tm,hp⟩) hw ha (stV ha hx hj hl hb ht hlen hone hfit hv) hnp hq
end
section
variable {C : Ctx} {P : Program} {ops : Array Oper} {rest : List Oper} {tm tm2 : List TV} {hp hp2 : List TB} {Q : TS → Prop} {o : Oper}
variable {dst : Option Tmp} {ty : TypeId} {pos : String} {aft : Array Edge} {gd : Option (Nat × Bool)} {p q : TV} {ms : List Nat} {i : Nat} {np : List Nat} {c : Nat}
/-! ### arrays at any index -/
theorem flat_get {α : Type} {f : α → List TV} {xs : List α} {u : α} {es k : Nat} (hf : ∀ a,(f a).length = es) (hk : xs[k]? = some u) : (((xs.map f).flatten).drop (k * es)).take es = f u ∧ k * es + es ≤ (xs.map f).flatten.length:=by
  have hw : ∀ r ∈ xs.map f,r.length = es:=fun r hr=>by obtain ⟨a,_,rfl⟩:=List.mem_map.1 hr;exact hf a
  have hr : (xs.map f)[k]? = some (f u):=by rw [List.getElem?_map,hk];rfl
  constructor
  · apply List.ext_getElem?
    intro j
    rw [List.getElem?_take,List.getElem?_drop]
    split
    · rename_i hj;exact flat_at hw hr hj
    · rename_i hj
      rw [List.getElem?_eq_none (by rw [hf u];omega)]
  · rw [flat_len hw,← Nat.succ_mul]
    have:=(List.getElem?_eq_some_iff.1 hr).1
    exact Nat.mul_le_mul_right _ this
theorem part_get {α : Type} {f : α → List TV} {xs : List α} {u : α} {es k : Nat} {t : TypeId} (hf : ∀ a,(f a).length = es) (hk : xs[k]? = some u) (hes : P.cellsOf t = es) (hp : (aggB P t = some true ∧ okT P t = true ∧ p = .agg (f u)) ∨ (aggB P t = some false ∧ es = 1 ∧ f u = [p])) : partT P t ((xs.map f).flatten) (k * es) = some p:=by
  obtain ⟨h1,h2⟩:=flat_get hf hk
  unfold partT
  rcases hp with ⟨ha,ho,rfl⟩|⟨ha,h0,he⟩
  · rw [ha]
    simp only
    rw [hes,if_pos ⟨ho,h2⟩,h1]
  · rw [ha]
    simp only
    subst h0
    rw [he] at h1
    have : ((((xs.map f).flatten).drop (k * 1)).take 1)[0]? = some p:=by rw [h1];rfl
    rw [List.getElem?_take,if_pos (by omega),List.getElem?_drop] at this
    simpa using this
theorem ix_ok {α : Type} {f : α → List TV} {xs : List α} {u : α} {es n : Nat} {t e : TypeId} {x y : Operand} {k : IntKind} {iv : Int} {cells : List TV} (hg : getI xs iv = some u) (hx : tev tm x = .agg cells) (hc : cells = (xs.map f).flatten) (hy : tev tm y = .v (.int k iv)) (ha : arrayOf P t = some (n, e)) (hn : xs.length = n) (ho : okT P e = true) (hf : ∀ a, (f a).length = es) (hes : P.cellsOf e = es)
    (hp : (aggB P e = some true ∧ okT P e = true ∧ p = .agg (f u)) ∨ (aggB P e = some false ∧ es = 1 ∧ f u = [p])) : tpop P hp2 tm { dst:=dst,op:=.index t x y,type:=ty,pos:=pos,after:=aft,guard:=gd } = some p:=by
  have h1:=getI_lt hg
  simp only [tpop,tindex,ha,hx,hy]
  rw [if_pos ⟨h1.1,by omega,ho⟩,hc,hes,part_get hf (getI_at hg) hes hp]
  rfl
end
/-- what slots and operands are -/
theorem z1 : (∀ tm t, tev tm (.tmp t) = tnth tm t) ∧ (∀ tm k n, tev tm (.const (.int k n)) = .v (.int k n)) ∧ (∀ tm b, tev tm (.const (.bool b)) = .v (.bool b)) ∧ (∀ tm s, tev tm (.const (.string s)) = .v (.string s)) ∧ (∀ tm k b, tev tm (.const (.float k b)) = .v (.float k b)) ∧
    (∀ tm k a b,tev tm (.const (.complex k a b)) = .v (.complex k a b)) ∧ (∀ tm,tev tm (.const (.slice none 0 0)) = .v (.slice none 0 0)) ∧ (∀ tm,tev tm (.const .nilFunc) = .v .nilFunc) ∧ (∀ tm,tev tm (.const .nilIface) = .v .nilIface) ∧ (∀ tm,tev tm (.const (.pointer none)) = .v (.pointer none)) ∧
    (∀ tm f,tev tm (.func f) = .func f [] []) ∧ (∀ a l,tnth (a :: l) 0 = a) ∧ (∀ a l n,tnth (a :: l) (n + 1) = tnth l n) ∧ (∀ tm p,tput tm none p = tm) ∧ (∀ tm d p,tput tm (some d) p = tm.set d p) :=
  ⟨fun _ _=>rfl,fun _ _ _=>rfl,fun _ _=>rfl,fun _ _=>rfl,fun _ _ _=>rfl,fun _ _ _ _=>rfl,fun _=>rfl,fun _=>rfl,fun _=>rfl,fun _=>rfl,fun _ _=>rfl,fun _ _=>rfl,fun _ _ _=>rfl,fun _ _=>rfl,fun _ _ _=>rfl⟩
/-- operators on integers -/
theorem z2 : (∀ k a b, fastBin .add (.int k a) (.int k b) = some (.int k (k.wrap (a + b)))) ∧ (∀ k a b, fastBin .sub (.int k a) (.int k b) = some (.int k (k.wrap (a - b)))) ∧ (∀ k a b, fastBin .mul (.int k a) (.int k b) = some (.int k (k.wrap (a * b)))) ∧
    (∀ k a b,fastBin .lss (.int k a) (.int k b) = some (.bool (decide (a < b)))) ∧ (∀ k a b,fastBin .leq (.int k a) (.int k b) = some (.bool (decide (a ≤ b)))) ∧ (∀ k a b,fastBin .gtr (.int k a) (.int k b) = some (.bool (decide (a > b)))) ∧ (∀ k a b,fastBin .geq (.int k a) (.int k b) = some (.bool (decide (a ≥ b)))) ∧
    (∀ k a b,fastBin .eql (.int k a) (.int k b) = some (.bool (decide (a = b)))) ∧ (∀ k a b,fastBin .neq (.int k a) (.int k b) = some (.bool (decide (a ≠ b)))) ∧ (∀ k a b,fastBin .quo (.int k a) (.int k b) = if b = 0 then none else some (.int k (k.wrap (a.tdiv b)))) ∧ (∀ k a b,fastBin .rem (.int k a) (.int k b) = if b = 0 then none else some (.int k (a.tmod b))):=by
  refine ⟨?_,?_,?_,?_,?_,?_,?_,?_,?_,?_,?_⟩<;>(intro k a b;simp only [fastBin,if_true])
end Go.Rex

namespace Go.Rex
open Go.RowKit
section
variable {C : Ctx} {P : Program} {ops : Array Oper} {rest : List Oper} {tm tm2 : List TV} {hp hp2 : List TB} {Q : TS → Prop} {o : Oper}
variable {dst : Option Tmp} {ty : TypeId} {pos : String} {aft : Array Edge} {gd : Option (Nat × Bool)} {p q : TV} {ms : List Nat} {i : Nat} {np : List Nat} {c : Nat}
theorem TO.here {l : List Oper} {s : TS} (h : TO C P ops l s Q) : TO C P ops l s Q:=h
theorem TD.here {l : List Oper} {s : TS} (h : TD C P ops ms l i np c s Q) : TD C P ops ms l i np c s Q:=h
end
end Go.Rex
