/- An executor of the program's functions on trees of values, proved sound. -/
import Derived.Test.YtpjccpokiaefjaaGreatDoorRexG6
import Derived.KernelRfl
import Derived.Test.YtpjccpokiaefjaaGreatDoorRexG5
set_option linter.unusedSimpArgs false
set_option linter.unusedVariables false
set_option linter.defProp false
namespace Go.Rex
open Go.RowKit
section
variable {C : Ctx} {P : Program} {Fz : Nat → Prop} {h h0 : List Blk} {L : Nat → LI} {s : TS} {tm : List Value}
variable {dst : Option Tmp} {ty : TypeId} {pos : String} {aft : Array Edge} {gd : Option (Nat × Bool)}

/-- parts in their order -/
def tparts (es : Nat) : Nat → List (Nat × TV) → Option (List (List TV))
  | _,[]=>some []
  | i,(k,p) :: l=>if k = i ∧ isJunk p = false ∧ (tcells p).length = es ∧ (tcells p).all (lf 4) = true then (tparts es (i + 1) l).map fun r=>tcells p :: r else none
theorem tparts_fill {es : Nat} : ∀ (ps : List (Nat × TV)) (ps' : List (Nat × Value)) (i : Nat) (rows : List (List TV)), PLs Fz h L ps ps' → tparts es i ps = some rows →
    rows.length = ps.length ∧ (∀ r ∈ rows,r.length = es) ∧ ∀ (c : Array Value) (pre : List Value),c.size = (i + rows.length) * es → c.toList.take (i * es) = pre →
      ∃ c',Instr.fill (fun i=>some (i * es,es)) c ps' = some c' ∧ ∃ new,c'.toList = pre ++ new ∧ VLs Fz h noL rows.flatten new
  | [],ps',i,rows,hp,ht=>by
    have : ps' = []:=by have:=hp.len;simpa using this
    subst this
    obtain rfl:=Option.some.inj ht
    refine ⟨rfl,by simp,fun c pre hc hpre=>⟨c,rfl,[],?_,VLs.nil⟩⟩
    rw [← hpre,List.append_nil,List.take_of_length_le (by simp [hc])]
  | (k,v) :: ps,ps',i,rows,hp,ht=>by
    obtain ⟨p',rest,rfl⟩ : ∃ v' rest,ps' = v' :: rest:=by
      have h1:=hp.len
      cases ps' with
      | nil=>simp at h1
      | cons a b=>exact ⟨a,b,rfl⟩
    obtain ⟨k',v'⟩:=p'
    obtain ⟨e1,hv⟩:=hp.at' 0 _ _ rfl rfl
    simp only at e1 hv
    subst e1
    have hs : PLs Fz h L ps rest:=⟨by have:=hp.len;simpa using this,fun i x x' h h'=>hp.at' (i + 1) _ _ (by simpa using h) (by simpa using h')⟩
    simp only [tparts] at ht
    split at ht
    · rename_i hc
      obtain ⟨rfl,hj,hlen,hlf⟩:=hc
      obtain ⟨r,hr,rfl⟩:=Option.map_eq_some_iff.1 ht
      obtain ⟨g1,g2,g3⟩:=tparts_fill ps rest _ r hs hr
      refine ⟨by simp [g1],fun q hq=>?_,fun c pre hc hpre=>?_⟩
      · simp only [List.mem_cons] at hq
        rcases hq with rfl|hq
        · exact hlen
        · exact g2 q hq
      · have hcv:=tcells_vl hv hj
        have hsz : v'.cells.size = es:=by have:=hcv.len;simp at this;omega
        have hmul : k' * es + es ≤ (k' + (r.length + 1)) * es:=by rw [← Nat.succ_mul];exact Nat.mul_le_mul_right _ (by omega)
        simp only [List.length_cons] at hc
        simp only [Instr.fill]
        rw [if_neg (by simp [hsz,hc];omega)]
        have hsp:=foldl_set_splice v'.cells.toList 0 (k' * es) c (by simp [hsz,hc];omega)
        simp only [Nat.add_zero] at hsp
        have hlv : v'.cells.toList.length = es:=by simp [hsz]
        have hpl : pre.length = k' * es:=by rw [← hpre,List.length_take,Array.length_toList,hc];omega
        obtain ⟨c', h1, new, h2, h3⟩ := g3 (Array.foldl (fun (cs : Array Value) (x : Value × Nat) => cs.setIfInBounds (k' * es + x.2) x.1) c v'.cells.zipIdx) (pre ++ v'.cells.toList) (by
            have : (Array.foldl (fun (cs : Array Value) (x : Value × Nat)=>cs.setIfInBounds (k' * es + x.2) x.1) c v'.cells.zipIdx).toList.length = c.toList.length:=by
              simp only [← Array.foldl_toList,Array.toList_zipIdx]
              rw [hsp,splice_len (by simp [hsz,hc];omega)]
            simp only [Array.length_toList] at this
            rw [this,hc];congr 1;omega) (by
          simp only [← Array.foldl_toList,Array.toList_zipIdx]
          rw [hsp]
          unfold splice
          rw [hpre,List.take_append_of_le_length (by simp [hpl,hlv];rw [Nat.succ_mul];omega),List.take_of_length_le (by simp [hpl,hlv];rw [Nat.succ_mul];omega)])
        refine ⟨c',h1,v'.cells.toList ++ new,by rw [h2,List.append_assoc],?_⟩
        simp only [List.flatten_cons]
        refine VLs.append ⟨hcv.len,fun j p x hp hx=>VL.toNo 4 (by simpa using List.all_eq_true.1 hlf p (List.mem_of_getElem? hp)) (hcv.at' j p x hp hx)⟩ h3
    · cases ht
theorem parts_pls (hs : VLs Fz h L s.tm tm) (ps : Array (Nat × Operand)) : PLs Fz h L (ps.toList.map fun q=>(q.1,tev s.tm q.2)) (mapParts (ev tm) ps).toList:=by
  refine ⟨by simp [mapParts],fun i p p' h1 h2=>?_⟩
  simp only [mapParts,Array.toList_map,List.getElem?_map] at h1 h2
  cases hq : ps.toList[i]? with
  | none=>rw [hq] at h1;cases h1
  | some q =>
    rw [hq] at h1 h2
    simp only [Option.map_some,Option.some.injEq] at h1 h2
    subst h1 h2
    exact ⟨rfl,tev_vl hs q.2⟩
def tslice (P : Program) (t : TypeId) (len : Nat) (ps : List (Nat × TV)) : Option (Nat × List (List TV)) :=
  match sliceOf P t with
  | some e=>match zeroC P e with
    | some z=>if ps.length = len ∧ len * z.length ≤ 2 ^ 24 ∧ P.cellsOf e = z.length then (tparts z.length 0 ps).map fun r=>(z.length,r) else none
    | none=>none
  | none=>none
theorem tslice_sound {t : TypeId} {len : Nat} {ps : List (Nat × TV)} {ps' : Array (Nat × Value)} {es : Nat} {rows : List (List TV)} (hp : PLs Fz h L ps ps'.toList) (ht : tslice P t len ps = some (es, rows)) :
    rows.length = len ∧ (∀ r ∈ rows,r.length = es) ∧ ∃ cs,buildSliceV P t len ps' h = some (.slice (some ⟨h.length,0,none⟩) len len,h ++ [.cells es cs]) ∧ VLs Fz h noL rows.flatten cs:=by
  unfold tslice at ht
  split at ht
  · rename_i e he
    split at ht
    · rename_i z hz
      split at ht
      · rename_i hc
        obtain ⟨hc1,hc2,hc3⟩:=hc
        obtain ⟨r,hr,he'⟩:=Option.map_eq_some_iff.1 ht
        obtain ⟨rfl,rfl⟩:=Prod.mk.inj he'
        obtain ⟨i,z0,hi,hz0,hcl,hzz,hsz,hat⟩:=zeroC_parts hz
        unfold sliceOf at he
        split at he
        · rename_i e' hu
          obtain rfl:=Option.some.inj he
          obtain ⟨g1,g2,g3⟩:=tparts_fill ps ps'.toList 0 r hp hr
          have hrl : r.length = len:=by omega
          refine ⟨hrl,g2,?_⟩
          have hlen : ∀ a : Array Value,(zeroRow a (len * z.length)).size = len * z.length:=fun a=>by simp [zeroRow]
          by_cases hn0 : len * z.length = 0
          · obtain ⟨c',h1,new,h2,h3⟩:=g3 (zeroRow #[] (len * z.length)) [] (by rw [hlen,hrl];simp) (by simp)
            refine ⟨new,?_,h3⟩
            unfold buildSliceV
            simp only [hu,hc3]
            rw [if_pos ⟨by rw [hi];rfl,by omega⟩]
            simp only [zeroOf,hn0,if_true]
            rw [hn0] at h1
            rw [h1]
            simp only [Option.bind_some]
            have hsz' : c'.size = 0:=by
              have hl:=h3.len
              rw [flat_len g2,hrl,hn0] at hl
              have : c'.toList.length = new.length:=by rw [h2];simp
              simp only [Array.length_toList] at this
              omega
            rw [if_pos hsz',h2]
            simp
          · obtain ⟨c',h1,new,h2,h3⟩:=g3 (zeroRow z0.cells (len * z.length)) [] (by rw [hlen,hrl];simp) (by simp)
            refine ⟨new,?_,h3⟩
            unfold buildSliceV
            simp only [hu,hc3]
            rw [if_pos ⟨by rw [hi];rfl,by omega⟩]
            simp only [zeroOf,if_neg hn0,hi,hz0,hcl,if_true]
            rw [h1]
            simp only [Option.bind_some]
            have hsz' : c'.size = len * z.length:=by
              have hl:=h3.len
              rw [flat_len g2,hrl] at hl
              have : c'.toList.length = new.length:=by rw [h2];simp
              simp only [Array.length_toList] at this
              omega
            rw [if_pos hsz',h2]
            simp
        · cases he
      · cases ht
    · cases ht
  · cases ht
/-- a literal that is not written again -/
theorem OpG.buildSlice {t : TypeId} {len : Nat} {ps : Array (Nat × Operand)} {es : Nat} {rows : List (List TV)} (ht : tslice P t len (ps.toList.map fun q => (q.1, tev s.tm q.2)) = some (es, rows)) :
    OpG C P { dst:=dst,op:=.buildSlice t len ps,type:=ty,pos:=pos,after:=aft,guard:=gd } s ⟨tput s.tm dst (.list es rows),s.hp⟩:=by
  intro h0 Fz L tm h hs
  obtain ⟨h1,h2,cs,h3,h4⟩:=tslice_sound (P:=P) (parts_pls hs.tmr ps) ht
  have hx:=Ext.app h [Blk.cells es cs]
  refine ⟨rfl,_,_,by simp only [xop,hop,newH,h3,Option.map_some];rfl,hx,fun n=>Fz n ∨ n = h.length,L,⟨fun n hn=>.inl hn,fun n hn=>?_,(Grow.ext (h0:=h0) hs.fz hx).3⟩,?_⟩
  · rcases hn with hn|rfl
    · exact .inl hn
    · exact .inr hs.ext.le
  · refine (hs.heap hx (fun n hn=>.inl hn) (fun n hn=>?_)).put dst ?_
    · rcases hn with hn|rfl
      · exact .inl hn
      · exact .inr (by simp)
    · have hl:=h4.len
      rw [flat_len h2] at hl
      have:=VL.list (Fz:=fun n=>Fz n ∨ n = h.length) (h:=h ++ [Blk.cells es cs]) L es rows h.length 0 len cs es (.inr rfl) (by simp) (.inl rfl) h2 (by omega) (by omega) (fun j p y q1 q2=>by
        rw [Nat.zero_add] at q2
        refine (h4.at' j p y q1 q2).mono (fun n hn=>.inl hn) (fun n hn=>?_)
        have:=hs.fz n hn
        rw [List.getElem?_append_left this])
      rw [h1] at this
      exact this
/-! ### stores -/
def tstore (P : Program) (hp : List TB) (t : TypeId) (p v : TV) : Option (List TB) :=
  match p with
  | .lptr n r o => if isJunk v = false ∧ okT P t = true ∧ (tcells v).length = P.cellsOf t ∧ (tcells v).all tone = true then
      match hp[n]? with
      | some (.rows es rows)=>match rows[r]? with
        | some row=>if o + (tcells v).length ≤ row.length ∧ (tcells v).all (lf 4) = true then some (hp.set n (.rows es (rows.set r (tsplice row o (tcells v))))) else none
        | none=>none
      | some (.var row)=>if r = 0 ∧ o + (tcells v).length ≤ row.length then some (hp.set n (.var (tsplice row o (tcells v)))) else none
      | _=>none
    else none
  | _=>none
theorem tone_one {p : TV} {x : Value} (hp : VL Fz h L p x) (ht : tone p = true) : x.oneCell' = true:=by
  cases hp with
  | v _ x hx=>cases x<;>first|rfl|(simp [isAtom] at hx)
  | junk=>simp [tone] at ht
  | agg=>simp [tone] at ht
  | tuple=>simp [tone] at ht
  | _=>rfl
theorem tones {l : List TV} {l' : List Value} (hs : VLs Fz h L l l') (ht : l.all tone = true) : l'.all (·.oneCell') = true:=by
  rw [List.all_eq_true]
  intro x hx
  obtain ⟨i,hi⟩:=List.mem_iff_getElem?.1 hx
  have hlt:=(List.getElem?_eq_some_iff.1 hi).1
  have hll:=hs.len
  have hp : l[i]? = some l[i]:=List.getElem?_eq_getElem (by omega)
  exact tone_one (hs.at' i _ _ hp hi) (by simpa using List.all_eq_true.1 ht _ (List.mem_of_getElem? hp))
theorem flat_set {es : Nat} : ∀ (rows : List (List TV)) (r : Nat) (row row' : List TV), (∀ q ∈ rows, q.length = es) → rows[r]? = some row → row'.length = es →
    (rows.set r row').flatten = tsplice rows.flatten (r * es) row'
  | [],r,row,row',hw,hr,hl=>by simp at hr
  | q :: rows,0,row,row',hw,hr,hl=>by
    have:=hw q (by simp)
    simp only [List.set_cons_zero,List.flatten_cons,tsplice,Nat.zero_mul,List.take_zero,List.nil_append,Nat.zero_add]
    rw [List.drop_append_of_le_length (by omega),List.drop_of_length_le (by omega),List.nil_append]
  | q :: rows,r + 1,row,row',hw,hr,hl=>by
    have h1:=hw q (by simp)
    simp only [List.getElem?_cons_succ] at hr
    simp only [List.set_cons_succ,List.flatten_cons]
    rw [flat_set rows r row row' (fun x hx=>hw x (by simp [hx])) hr hl]
    unfold tsplice
    have e : (r + 1) * es = q.length + r * es:=by rw [Nat.succ_mul,h1];omega
    rw [e,List.take_append,List.drop_append]
    rw [List.take_of_length_le (show q.length ≤ q.length + r * es by omega),List.drop_of_length_le (show q.length ≤ q.length + r * es + row'.length by omega)]
    simp [Nat.add_assoc]
theorem tsplice_len {c l : List TV} {o : Nat} (hl : o + l.length ≤ c.length) : (tsplice c o l).length = c.length:=by unfold tsplice;simp;omega
theorem tsplice_splice {c row l : List TV} {b o : Nat} (hb : (c.drop b).take row.length = row) (hle : b + row.length ≤ c.length) (hl : o + l.length ≤ row.length) : tsplice c b (tsplice row o l) = tsplice c (b + o) l:=by
  have h1 : c = c.take b ++ (row ++ c.drop (b + row.length)):=by
    conv=>lhs;rw [← List.take_append_drop b c,← List.take_append_drop row.length (c.drop b),hb,List.drop_drop]
  unfold tsplice
  have hlen : (row.take o ++ l ++ row.drop (o + l.length)).length = row.length:=by simp;omega
  rw [hlen]
  have e2 : c.take (b + o) = c.take b ++ row.take o:=by
    conv=>lhs;rw [h1]
    rw [List.take_append,List.take_of_length_le (by simp;omega),List.length_take,Nat.min_eq_left (by omega),Nat.add_sub_cancel_left,List.take_append_of_le_length (by omega)]
  have e3 : c.drop (b + o + l.length) = row.drop (o + l.length) ++ c.drop (b + row.length):=by
    conv=>lhs;rw [h1]
    rw [List.drop_append,List.drop_of_length_le (by simp;omega),List.nil_append,List.length_take,Nat.min_eq_left (by omega),show b + o + l.length - b = o + l.length by omega,List.drop_append_of_le_length hl]
  rw [e2,e3]
  simp only [List.append_assoc]
theorem OpW.store {t : TypeId} {a x : Operand} {hp' : List TB} (hst : tstore P s.hp t (tev s.tm a) (tev s.tm x) = some hp') :
    OpW C P { dst:=none,op:=.store t a x,type:=ty,pos:=pos,after:=aft,guard:=gd } s ⟨s.tm,hp'⟩:=by
  intro h0 Fz L tm h hs
  have ha:=tev_vl hs.tmr a
  have hx:=tev_vl hs.tmr x
  refine .inr ⟨rfl,?_⟩
  generalize tev s.tm x = v at *
  unfold tstore at hst
  split at hst
  · rename_i n r o hpa
    rw [hpa] at ha
    split at hst
    · rename_i hc
      obtain ⟨hj,hok,hlen,hone⟩:=hc
      have hcv:=tcells_vl hx hj
      obtain ⟨i,hi⟩:=Option.isSome_iff_exists.1 hok
      have hsz : P.cellsOf t = i.size:=by simp [Program.cellsOf,hi]
      have hones:=tones hcv hone
      have hvs : (ev tm x).cells.size = i.size:=by have:=hcv.len;simp at this;omega
      obtain ⟨nm,hnm,hav⟩ : ∃ nm,(L n).nm = some nm ∧ ev tm a = .pointer (some ⟨nm,r * (L n).es + o,none⟩):=by
        generalize ev tm a = y at *
        cases ha with
        | lptr _ _ _ _ nm ok hn=>exact ⟨nm,hn,rfl⟩
      -- the store of the executor
      have key : ∀ (es : Nat) (cs : List Value) (b' : TB) (b : TB), s.hp[n]? = some b → b.live = true → h[nm]? = some (.cells es cs) → h0.length ≤ nm → ¬ Fz nm → r * (L n).es + o + (ev tm x).cells.toList.length ≤ cs.length →
          BR h0.length Fz (h.set nm (.cells es (splice cs (r * (L n).es + o) (ev tm x).cells.toList))) L n b' → hp' = s.hp.set n b' →
          ∃ v1 h1 w1,xop C P (ev tm) { dst:=none,op:=.store t a x,type:=ty,pos:=pos,after:=aft,guard:=gd } h = some (v1,h1,w1) ∧ ((w1 = none ∧ Ext h h1) ∨ ∃ nm,w1 = some nm ∧ h0.length ≤ nm ∧ nm < h.length ∧ h.length ≤ h1.length) ∧
            ∃ Fz' L',Grow h0 Fz Fz' h h1 ∧ St h0 Fz' L' ⟨s.tm,hp'⟩ (putL tm none v1) h1:=by
        intro es cs b' b hb hlv hcs hlo hnf hle hB hp
        refine ⟨undef,h.set nm (.cells es (splice cs (r * (L n).es + o) (ev tm x).cells.toList)),some nm,?_,.inr ⟨nm,rfl,hlo,(List.getElem?_eq_some_iff.1 hcs).1,by simp⟩,Fz,L,Grow.set hnf,?_⟩
        · simp only [xop,hop,hav,storeV,hi,hvs,if_true,writeBlk,hcs]
          rw [if_pos ⟨hle,hones⟩]
          rfl
        · subst hp
          exact hs.write hb hlv hnm hcs hlo hnf hB
      have hh : ∀ (es : Nat) (cs : List Value),¬ Fz nm → ∀ k,Fz k → (h.set nm (.cells es cs))[k]? = h[k]?:=fun es cs hnf k hk=>by
        rw [List.getElem?_set_ne];rintro rfl;exact hnf hk
      split at hst
      · rename_i es rows hb
        split at hst
        · rename_i row hrow
          split at hst
          · rename_i hcond
            obtain ⟨hfit,hlf⟩:=hcond
            obtain rfl:=Option.some.inj hst
            obtain ⟨q1,q2,q3,q4,q5⟩:=hs.blk n _ hb
            rcases q5 with q5|⟨nm',cs,e1,e2,e3,e4,e5⟩
            · rw [q5.1] at hnm;cases hnm
            · rw [hnm] at e1
              obtain rfl:=Option.some.inj e1
              have hlt:=(List.getElem?_eq_some_iff.1 hrow).1
              have hrl:=q4 row (List.mem_of_getElem? hrow)
              have hcl : cs.length = rows.length * es:=by rw [e5.len,flat_len q4]
              have hmul : r * es + es ≤ rows.length * es:=by rw [← Nat.succ_mul];exact Nat.mul_le_mul_right _ hlt
              have hcvl : (ev tm x).cells.toList.length = (tcells v).length:=hcv.len
              refine key es cs (.rows es (rows.set r (tsplice row o (tcells v)))) _ hb rfl e4 e2 e3 (by rw [q2];omega) ?_ rfl
              have hseg : (rows.flatten.drop (r * es)).take row.length = row:=by
                apply List.ext_getElem?
                intro j
                rw [List.getElem?_take,List.getElem?_drop]
                split
                · rename_i hj'
                  exact flat_at q4 hrow (by omega)
                · rw [List.getElem?_eq_none (by omega)]
              have hfs : (rows.set r (tsplice row o (tcells v))).flatten = tsplice rows.flatten (r * es + o) (tcells v):=by
                rw [flat_set rows r row _ q4 hrow (by rw [tsplice_len hfit];exact hrl),tsplice_splice hseg (by rw [flat_len q4];omega) hfit]
              refine ⟨q1,q2,by simp [q3],fun q hq=>?_,.inr ⟨nm,_,hnm,e2,e3,by rw [List.getElem?_set_self (List.getElem?_eq_some_iff.1 e4).1],?_⟩⟩
              · rcases List.mem_or_eq_of_mem_set hq with hq|rfl
                · exact q4 q hq
                · rw [tsplice_len hfit];exact hrl
              · rw [hfs,q2]
                refine VLs.mono (splice_vl e5 ⟨hcv.len,fun j p y hp hy=>VL.toNo 4 (by simpa using List.all_eq_true.1 hlf p (List.mem_of_getElem? hp)) (hcv.at' j p y hp hy)⟩ _) (fun _ h=>h) (hh es _ e3)
          · cases hst
        · cases hst
      · rename_i row hb
        split at hst
        · rename_i hcond
          obtain ⟨rfl,hfit⟩:=hcond
          obtain rfl:=Option.some.inj hst
          obtain ⟨q1,nm',cs,e1,e2,e3,e4,e5⟩:=hs.blk n _ hb
          rw [hnm] at e1
          obtain rfl:=Option.some.inj e1
          have hcvl : (ev tm x).cells.toList.length = (tcells v).length:=hcv.len
          have hcl:=e5.len
          refine key 0 cs (.var (tsplice row o (tcells v))) _ hb rfl e4 e2 e3 (by omega) ?_ rfl
          rw [Nat.zero_mul,Nat.zero_add]
          refine ⟨q1,nm,_,hnm,e2,e3,by rw [List.getElem?_set_self (List.getElem?_eq_some_iff.1 e4).1],?_⟩
          exact (splice_vl e5 hcv o).mono (fun _ h=>h) (hh 0 _ e3)
        · cases hst
      · cases hst
    · cases hst
  · cases hst
end
end Go.Rex

namespace Go.Rex
open Go.RowKit
section
variable {C : Ctx} {P : Program} {Fz : Nat → Prop} {h h0 : List Blk} {L : Nat → LI} {s : TS} {tm : List Value}
variable {dst : Option Tmp} {ty : TypeId} {pos : String} {aft : Array Edge} {gd : Option (Nat × Bool)}

/-! ### a state that says less -/
inductive WT : List TV → List TV → Prop
  | nil : WT [] []
  | junk {p : TV} {l l' : List TV} (h : WT l l') : WT (p :: l) (.junk :: l')
  | keep {p q : TV} {l l' : List TV} (e : p = q) (h : WT l l') : WT (p :: l) (q :: l')
/-- own blocks named are among the first k -/
def bel (k : Nat) : Nat → TV → Bool
  | 0,_=>false
  | d + 1,p=>match p with
    | .lptr m _ _=>decide (m < k)
    | .lsl m _ _=>decide (m < k)
    | .agg l=>l.all (bel k d)
    | .tuple l=>l.all (bel k d)
    | _=>true
/-! ### the heap without writes to come -/
def frz (n : Nat) (b : TB) : Nat → TV → TV
  | 0,_=>.junk
  | d + 1,p=>match p with
    | .lsl m o len=>if m = n then (match b with
      | .rows es rows=>.list es ((rows.drop o).take len)
      | _=>.junk) else .lsl m o len
    | .lptr m r o=>if m = n then (match b with
      | .rows _ rows=>(match rows[r]? with|some row=>.fptr false row o|none=>.junk)
      | .var row=>if r = 0 then .fptr true row o else .junk
      | _=>.junk) else .lptr m r o
    | .agg l=>.agg (l.map (frz n b d))
    | .tuple l=>.tuple (l.map (frz n b d))
    | p=>p
def frzB (n : Nat) (b : TB) : TB → TB
  | .var row=>.var (row.map (frz n b 4))
  | b'=>b'
end
end Go.Rex

namespace Go.Rex
open Go.RowKit
section
variable {C : Ctx} {P : Program} {Fz : Nat → Prop} {h h0 : List Blk} {L : Nat → LI} {s : TS} {tm : List Value}
variable {dst : Option Tmp} {ty : TypeId} {pos : String} {aft : Array Edge} {gd : Option (Nat × Bool)}

/-! ### append -/
def killB (n : Nat) : TB → TB
  | .var row=>.var (row.map (kill n 4))
  | b=>b
end
end Go.Rex

namespace Go.Rex
open Go.RowKit
section
variable {C : Ctx} {P : Program} {Fz : Nat → Prop} {h h0 : List Blk} {L : Nat → LI} {s : TS} {tm : List Value}
variable {dst : Option Tmp} {ty : TypeId} {pos : String} {aft : Array Edge} {gd : Option (Nat × Bool)}
/-! ### slices of slices -/
/-! ### calls -/
theorem xcall_go {g : FuncId} {f : Operand} {args : Array Operand} {tys : Array TypeId} {first caps : List Value} (hf : ev tm f = .func (.func g) ⟨first⟩ ⟨caps⟩) (hg : goFn P g = true) :
    xop C P (ev tm) { dst:=dst,op:=.call { callee:=.value f,args:=args,argTypes:=tys },type:=ty,pos:=pos,after:=aft,guard:=gd } h = C.call g (first ++ (args.toList.map (ev tm) ++ caps)) h:=by
  simp only [xop,hop,bhop]
  rw [xcall_eq]
  simp only [hf]
  rw [if_pos hg]
theorem args_vls (hs : VLs Fz h L s.tm tm) (args : List Operand) : VLs Fz h L (args.map (tev s.tm)) (args.map (ev tm)):=by
  refine ⟨by simp,fun i p x hp hx=>?_⟩
  rw [List.getElem?_map] at hp hx
  cases hq : args[i]? with
  | none=>rw [hq] at hp;cases hp
  | some q =>
    rw [hq] at hp hx
    obtain rfl:=Option.some.inj hp
    obtain rfl:=Option.some.inj hx
    exact tev_vl hs q
theorem VLs.toNo {l : List TV} {x : List Value} (hs : VLs Fz h L l x) (hl : l.all (lf 4) = true) {L' : Nat → LI} : VLs Fz h L' l x :=
  ⟨hs.len,fun i p y hp hy=>VL.toNo 4 (by simpa using List.all_eq_true.1 hl p (List.mem_of_getElem? hp)) (hs.at' i p y hp hy)⟩
/-- a call whose arguments own nothing -/
theorem OpG.call {f : Operand} {g : FuncId} {args : Array Operand} {tys : Array TypeId} {first caps as : List TV} {p : TV} {th : List TB} (hf : tev s.tm f = .func g first caps) (hg : goFn P g = true) (has : first ++ (args.toList.map (tev s.tm) ++ caps) = as)
    (hl : as.all (lf 4) = true) (hsp : Spec C g as ⟨[p],th⟩) (hth : th.all resTB = true) :
    OpG C P { dst:=dst,op:=.call { callee:=.value f,args:=args,argTypes:=tys },type:=ty,pos:=pos,after:=aft,guard:=gd } s ⟨tput s.tm dst (shift s.hp.length 4 p),s.hp ++ th⟩:=by
  intro h0 Fz L tm h hs
  subst has
  have hfv:=tev_vl hs.tmr f
  rw [hf] at hfv
  obtain ⟨f',c',hfe,vf,vc⟩ : ∃ f' c',ev tm f = .func (.func g) ⟨f'⟩ ⟨c'⟩ ∧ VLs Fz h noL first f' ∧ VLs Fz h noL caps c':=by
    generalize ev tm f = y at *
    cases hfv with
    | func _ _ _ _ a' b' la ha lb hb=>exact ⟨a',b',rfl,⟨la,ha⟩,⟨lb,hb⟩⟩
  have hargs : VLs Fz h noL (first ++ (args.toList.map (tev s.tm) ++ caps)) (f' ++ (args.toList.map (ev tm) ++ c')):=by
    refine VLs.append vf (VLs.append (VLs.toNo (args_vls hs.tmr args.toList) ?_) vc)
    simp only [List.all_append,Bool.and_eq_true] at hl
    exact hl.2.1
  obtain ⟨v,h',F1,L1,hc,g1,hr⟩:=hsp Fz h _ hs.fz hargs
  obtain ⟨L3,h3⟩:=hs.adopt dst hr hth g1
  refine ⟨rfl,v,h',by rw [xcall_go hfe hg];exact hc,hr.ext,F1,L3,⟨g1.1,fun n hn=>?_,g1.3⟩,h3⟩
  rcases g1.2 n hn with h1|h1
  · exact .inl h1
  · exact .inr (Nat.le_trans hs.ext.le h1)

/-- what one owns, seen for the time of a call -/
def view (hp : List TB) : Nat → TV → TV
  | 0,_=>.junk
  | d + 1,p=>match p with
    | .lsl n o len=>(match hp[n]? with
      | some (.rows es rows)=>.list es ((rows.drop o).take len)
      | _=>.junk)
    | .lptr n r o=>(match rowOf hp (.lptr n r o) with
      | some (row,o)=>if row.all (lf 4) = true then .fptr false row o else .junk
      | none=>.junk)
    | .agg l=>.agg (l.map (view hp d))
    | .tuple l=>.tuple (l.map (view hp d))
    | p=>p
/-! ### a function -/
def tresAll (P : Program) (hp : List TB) (tm : List TV) : List ResultVar → Option (List TV)
  | []=>some []
  | r :: rs=>match tres (tload P hp) tm r with
    | some v=>(tresAll P hp tm rs).map fun vs=>v :: vs
    | none=>none
theorem tresAll_sound (hs : St h0 Fz L s tm h) : ∀ (rs : List ResultVar) (ps : List TV),tresAll P s.hp s.tm rs = some ps → ∃ vs,resAll P h tm rs = some vs ∧ VLs Fz h L ps vs
  | [],ps,hp=>by obtain rfl:=Option.some.inj hp;exact ⟨[],rfl,VLs.nil⟩
  | r :: rs,ps,hp=>by
    simp only [tresAll] at hp
    split at hp
    · rename_i p hr
      obtain ⟨ps',h1,rfl⟩:=Option.map_eq_some_iff.1 hp
      obtain ⟨vs,h2,h3⟩:=tresAll_sound hs rs ps' h1
      have : ∃ v,resV P h tm r = some v ∧ VL Fz h L p v:=by
        cases r with
        | tmp t =>
          simp only [tres] at hr
          obtain rfl:=Option.some.inj hr
          exact ⟨_,rfl,tev_vl hs.tmr (.tmp t)⟩
        | cell a t =>
          simp only [tres] at hr
          obtain ⟨n,o,v,hx,hl,hv⟩:=tload_sound hs (tev_vl hs.tmr (.tmp a)) hr
          refine ⟨v,?_,hv⟩
          simp only [ev] at hx
          simp only [resV,hx,hl]
      obtain ⟨v,h4,h5⟩:=this
      exact ⟨v :: vs,by simp only [resAll,h4,h2,Option.map_some],VLs.cons h5 h3⟩
    · cases hp
theorem Spec.fn {f : FuncId} {fd : Func} {c : Code} {args : List TV} {r : TS} (hf : P.funcs[f]? = some fd) (hb : fd.body = some c) {tm0 : List TV} (htm : args ++ List.replicate (fd.ntmps - args.length) TV.junk = tm0)
    (hx : TX (lim P) P c ⟨tm0,[]⟩ (fun e s=>(e = .normal ∨ e = .ret) ∧ ∃ ps,tresAll P s.hp s.tm fd.results.toList = some ps ∧ Wk ⟨[oneT ps],s.hp⟩ r)) (hcov : cov r = true) : Spec (lim P) f args r:=by
  intro Fz h vs hfz hargs
  subst htm
  have hs : St h Fz noL ⟨args ++ List.replicate (fd.ntmps - args.length) TV.junk,[]⟩ (vs ++ List.replicate (fd.ntmps - vs.length) undef) h:=by
    refine ⟨?_,fun n b hb=>by simp at hb,fun n hn=>by simp [noL] at hn,fun n n' b b' nm hb=>by simp at hb,hfz,Ext.refl h⟩
    refine VLs.append hargs ?_
    rw [hargs.len]
    exact VLs.replicate (.junk noL undef) _
  obtain ⟨K,e,a1,h1,w1,hexec,hw,hdf,s1,F1,L1,⟨he,ps,hps,hwk⟩,g1,hs1⟩:=hx h Fz noL _ h hs
  obtain ⟨vs1,hres,hvs1⟩:=tresAll_sound (P:=P) hs1 _ ps hps
  have hs2 : St h F1 L1 ⟨[oneT ps],s1.hp⟩ [oneOf vs1] h1:=⟨VLs.cons (oneT_vl hvs1) VLs.nil,hs1.blk,hs1.dom,hs1.inj,hs1.fz,hs1.ext⟩
  obtain ⟨F2,L2,g2,hs3⟩:=hwk h F1 L1 _ h1 hs2
  have hm : wmin w1 none = w1:=by cases w1<;>rfl
  by_cases hcl : isClean (oneOf vs1) = true
  · obtain ⟨L4,hs4⟩:=hs3.clean hcl hcov hfz
    refine ⟨oneOf vs1,h,Fz,L4,lim_runCall (K:=K) ?_,Grow.refl _ _,hs4⟩
    unfold runCall
    simp only [hf,hb,hexec]
    have hend : runEnd P fd h.length h a1 h1 w1 = some (oneOf vs1,h,none):=by
      simp only [runEnd,hdf,takeDefers,hres,hcl,if_true,hm,hw]
    rcases he with rfl|rfl<;>exact hend
  · refine ⟨oneOf vs1,h1,F2,L2,lim_runCall (K:=K) ?_,g1.trans g2,hs3⟩
    unfold runCall
    simp only [hf,hb,hexec]
    have hend : runEnd P fd h.length h a1 h1 w1 = some (oneOf vs1,h1,none):=by
      simp [runEnd,hdf,takeDefers,hres,hcl,hm,hw]
    rcases he with rfl|rfl<;>exact hend
/-! ### a law: it may call f,which is true -/
theorem Spec.ov {f g : FuncId} {args : List TV} {r : TS} (hs : Spec (lim P) g args r) (hne : g ≠ f) : Spec (over P f) g args r:=by
  intro Fz h vs hfz hargs
  obtain ⟨v,h',F1,L1,hc,g1,hr⟩:=hs Fz h vs hfz hargs
  refine ⟨v,h',F1,L1,?_,g1,hr⟩
  rw [over_call,if_neg (fun hh=>hne hh.1)]
  exact hc
theorem Spec.awake {f : FuncId} : Spec (over P f) f [] ⟨[.v (.bool true)],[]⟩:=by
  intro Fz h vs hfz hargs
  have : vs = []:=by have:=hargs.len;simpa using this
  subst this
  exact ⟨.bool true,h,Fz,noL,by rw [over_call,if_pos ⟨rfl,rfl⟩],Grow.refl _ _,⟨VLs.cons (.v noL _ rfl) VLs.nil,fun n b hb=>by simp at hb,fun n hn=>by simp [noL] at hn,fun n n' b b' nm hb=>by simp at hb,hfz,Ext.refl h⟩⟩
theorem law_tex (hm : P.follows .mixedOrders = true) {f : FuncId} (hv : AwT P f) {g : FuncId} {fd : Func} {c : Code} {args : List TV} (hf : P.funcs[g]? = some fd) (hb : fd.body = some c)
    {tm0 : List TV} (htm : args ++ List.replicate (fd.ntmps - args.length) TV.junk = tm0)
    (hx : TX (over P f) P c ⟨tm0,[]⟩ (fun e s=>(e = .normal ∨ e = .ret) ∧ tresAll P s.hp s.tm fd.results.toList = some [.v (.bool true)]))
    {Fz : Nat → Prop} {h : List Blk} {vs : List Value} (hfz : ∀ n,Fz n → n < h.length) (hargs : VLs Fz h noL args vs)
    {B lo : Nat} {D : Nat → Prop} {m : NMap} {w : World} {args' : List Value} (hr : Rel B lo D m h w) (hlo : lo ≤ h.length) (hargs' : VRs D m vs args') : Calls P g ⟨args'⟩ w (fun e w'=>e = .returned (.bool true) ∧ Below w.heap.size w w'):=by
  refine law_call hm hv hf hb (args:=vs) rfl ?_ hr hlo hargs'
  subst htm
  have hs : St h Fz noL ⟨args ++ List.replicate (fd.ntmps - args.length) TV.junk,[]⟩ (vs ++ List.replicate (fd.ntmps - vs.length) undef) h:=by
    refine ⟨?_,fun n b hb=>by simp at hb,fun n hn=>by simp [noL] at hn,fun n n' b b' nm hb=>by simp at hb,hfz,Ext.refl h⟩
    refine VLs.append hargs ?_
    rw [hargs.len]
    exact VLs.replicate (.junk noL undef) _
  refine (hx h Fz noL _ h hs).mono ?_
  rintro e a' h' ⟨hd,s',F',L',⟨he,hres⟩,g,hs'⟩
  refine ⟨he,hd,?_⟩
  obtain ⟨vs1,h1,h2⟩:=tresAll_sound (P:=P) hs' _ _ hres
  have hl:=h2.len
  match vs1,hl,h1,h2 with
  | [x],_,h1,h2 =>
    have:=h2.at' 0 _ x rfl rfl
    exact ⟨[x],h1,by rw [this.bool_inv];rfl⟩
end
end Go.Rex

namespace Go.Rex
open Go.RowKit
section
/-! ### states that say less: renamed,forgotten,nil as a row of nothing -/
inductive RN (fl : List (Option Nat)) : TV → TV → Prop
  | junk {p : TV} : RN fl p .junk
  | keep {p q : TV} (e : p = q) (h : lf 4 q = true) : RN fl p q
  | lsl {n o len j len' : Nat} (h : fl[j]? = some (some n)) (e : len = len') : RN fl (.lsl n o len) (.lsl j o len')
  | lptr {n r o j : Nat} (h : fl[j]? = some (some n)) : RN fl (.lptr n r o) (.lptr j r o)
  | nil {j : Nat} (h : fl[j]? = some none) : RN fl (.v (.slice none 0 0)) (.lsl j 0 0)
  | nl {es : Nat} : RN fl (.v (.slice none 0 0)) (.list es [])
  | agg {l l' : List TV} (hl : l'.length = l.length) (h : ∀ (i : Nat) p q,l[i]? = some p → l'[i]? = some q → RN fl p q) : RN fl (.agg l) (.agg l')
  | tuple {l l' : List TV} (hl : l'.length = l.length) (h : ∀ (i : Nat) p q,l[i]? = some p → l'[i]? = some q → RN fl p q) : RN fl (.tuple l) (.tuple l')
structure RNs (fl : List (Option Nat)) (l l' : List TV) : Prop where
  len : l'.length = l.length
  at' : ∀ (i : Nat) p q,l[i]? = some p → l'[i]? = some q → RN fl p q
theorem RNs.nil {fl : List (Option Nat)} : RNs fl [] []:=⟨rfl,fun i p q h=>by simp at h⟩
theorem RNs.cons {fl : List (Option Nat)} {p q : TV} {l l' : List TV} (h : RN fl p q) (hs : RNs fl l l') : RNs fl (p :: l) (q :: l'):=by
  refine ⟨by simp [hs.len],fun i p q hp hq=>?_⟩
  cases i with
  | zero=>simp at hp hq;subst hp hq;exact h
  | succ i=>simp at hp hq;exact hs.at' i _ _ hp hq
variable {Fz : Nat → Prop} {h : List Blk} {L L' : Nat → LI}
theorem RN.vl {fl : List (Option Nat)} (hL : ∀ j n,fl[j]? = some (some n) → L' j = L n) (hV : ∀ j,fl[j]? = some none → (L' j).ok = true ∧ (L' j).nm = none) {p q : TV} (hr : RN fl p q) : ∀ {x : Value},VL Fz h L p x → VL Fz h L' q x:=by
  induction hr with
  | junk=>intro x _;exact .junk L' x
  | keep e hl=>intro x hp;subst e;exact VL.toNo 4 hl hp
  | lsl hj e =>
    intro x hp
    subst e
    have e:=hL _ _ hj
    cases hp with
    | lslnil _ _ ok hn=>rw [← e] at ok hn;exact .lslnil L' _ ok hn
    | lsl _ _ _ _ nm ok hn hle=>rw [← e] at ok hn hle ⊢;exact .lsl L' _ _ _ nm ok hn hle
  | lptr hj =>
    intro x hp
    have e:=hL _ _ hj
    cases hp with
    | lptr _ _ _ _ nm ok hn=>rw [← e] at ok hn ⊢;exact .lptr L' _ _ _ nm ok hn
  | nil hj =>
    intro x hp
    obtain rfl:=hp.bool_inv
    exact .lslnil L' _ (hV _ hj).1 (hV _ hj).2
  | nl =>
    intro x hp
    obtain rfl:=hp.bool_inv
    exact .nillist L' _
  | @agg l l' hl hh ih =>
    intro x hp
    cases hp with
    | agg _ _ l2 hl2 ha =>
      refine .agg L' l' l2 (by omega) fun i p y h1 h2=>?_
      have hlt:=(List.getElem?_eq_some_iff.1 h1).1
      have h0 : l[i]? = some l[i]:=List.getElem?_eq_getElem (by omega)
      exact ih i _ _ h0 h1 (ha i _ _ h0 h2)
  | @tuple l l' hl hh ih =>
    intro x hp
    cases hp with
    | tuple _ _ l2 hl2 ha =>
      refine .tuple L' l' l2 (by omega) fun i p y h1 h2=>?_
      have hlt:=(List.getElem?_eq_some_iff.1 h1).1
      have h0 : l[i]? = some l[i]:=List.getElem?_eq_getElem (by omega)
      exact ih i _ _ h0 h1 (ha i _ _ h0 h2)
def renOk : List (Option Nat) → Bool
  | []=>true
  | none :: l=>renOk l
  | some n :: l=>l.all (fun x=>x != some n) && renOk l
theorem renOk_inj : ∀ {fl : List (Option Nat)},renOk fl = true → ∀ (i j n : Nat),fl[i]? = some (some n) → fl[j]? = some (some n) → i = j
  | [],_,i,j,n,h,_=>by simp at h
  | none :: l,hr,i,j,n,h1,h2=>by
    cases i with
    | zero=>simp at h1
    | succ i=>cases j with
      | zero=>simp at h2
      | succ j=>rw [renOk_inj (fl:=l) (by simpa [renOk] using hr) i j n (by simpa using h1) (by simpa using h2)]
  | some m :: l,hr,i,j,n,h1,h2=>by
    simp only [renOk,Bool.and_eq_true] at hr
    have hne : ∀ k,l[k]? ≠ some (some m):=fun k hk=>by
      have:=List.all_eq_true.1 hr.1 _ (List.mem_of_getElem? hk)
      simp at this
    cases i with
    | zero=>cases j with
      | zero=>rfl
      | succ j=>simp at h1;subst h1;exact absurd (by simpa using h2) (hne j)
    | succ i=>cases j with
      | zero=>simp at h2;subst h2;exact absurd (by simpa using h1) (hne i)
      | succ j=>rw [renOk_inj (fl:=l) hr.2 i j n (by simpa using h1) (by simpa using h2)]
/-- blocks under new numbers -/
inductive RB (fl : List (Option Nat)) (hp : List TB) : List TB → List (Option Nat) → Prop
  | nil : RB fl hp [] []
  | virt {es : Nat} {hp' : List TB} {l : List (Option Nat)} (h : RB fl hp hp' l) : RB fl hp (.rows es [] :: hp') (none :: l)
  | rows {n es : Nat} {rows rows' : List (List TV)} {hp' : List TB} {l : List (Option Nat)} (h : RB fl hp hp' l) (hb : hp[n]? = some (.rows es rows)) (e : rows = rows') : RB fl hp (.rows es rows' :: hp') (some n :: l)
  | var {n : Nat} {row row' : List TV} {hp' : List TB} {l : List (Option Nat)} (h : RB fl hp hp' l) (hb : hp[n]? = some (.var row)) (hr : RNs fl row row') : RB fl hp (.var row' :: hp') (some n :: l)
theorem RB.at {fl : List (Option Nat)} {hp hp' : List TB} {l : List (Option Nat)} (hb : RB fl hp hp' l) : hp'.length = l.length ∧ ∀ (j : Nat) (b : TB),hp'[j]? = some b → (l[j]? = some none ∧ ∃ es,b = .rows es []) ∨ ∃ n,l[j]? = some (some n) ∧ ((∃ es rows,b = .rows es rows ∧ hp[n]? = some b) ∨ ∃ row row',b = .var row' ∧ hp[n]? = some (.var row) ∧ RNs fl row row'):=by
  induction hb with
  | nil=>exact ⟨rfl,fun j b h=>by simp at h⟩
  | virt h ih =>
    refine ⟨by simp [ih.1],fun j b hj=>?_⟩
    cases j with
    | zero=>simp at hj;subst hj;exact .inl ⟨rfl,_,rfl⟩
    | succ j=>exact ih.2 j b (by simpa using hj)
  | rows h hb e ih =>
    subst e
    refine ⟨by simp [ih.1],fun j b hj=>?_⟩
    cases j with
    | zero=>simp at hj;subst hj;exact .inr ⟨_,rfl,.inl ⟨_,_,rfl,hb⟩⟩
    | succ j=>exact ih.2 j b (by simpa using hj)
  | var h hb hr ih =>
    refine ⟨by simp [ih.1],fun j b hj=>?_⟩
    cases j with
    | zero=>simp at hj;subst hj;exact .inr ⟨_,rfl,.inr ⟨_,_,rfl,hb,hr⟩⟩
    | succ j=>exact ih.2 j b (by simpa using hj)
theorem Wk.ren {tm tm' : List TV} {hp hp' : List TB} (fl : List (Option Nat)) (hok : renOk fl = true) (hB : RB fl hp hp' fl) (hT : RNs fl tm tm') : Wk ⟨tm,hp⟩ ⟨tm',hp'⟩:=by
  intro h0 Fz L vm h hs
  obtain ⟨hlen,hat⟩:=hB.at
  have esOf' : ∀ j : Nat,∃ es : Nat,fl[j]? = some none → hp'[j]? = some (TB.rows es []):=by
    intro j
    cases hb : hp'[j]? with
    | none =>
      refine ⟨0,fun hf=>?_⟩
      have h1:=(List.getElem?_eq_some_iff.1 hf).1
      rw [List.getElem?_eq_none_iff] at hb
      omega
    | some b =>
      rcases hat j b hb with ⟨_,es,rfl⟩|⟨n,h1,_⟩
      · exact ⟨es,fun _=>rfl⟩
      · exact ⟨0,fun hf=>by rw [h1] at hf;cases hf⟩
  let es : Nat → Nat:=fun j=>Classical.choose (esOf' j)
  have hes : ∀ j : Nat,fl[j]? = some none → hp'[j]? = some (TB.rows (es j) []):=fun j=>Classical.choose_spec (esOf' j)
  let L' : Nat → LI:=fun j=>match fl[j]? with
    | some (some n)=>L n
    | some none=>⟨true,none,es j,0⟩
    | none=>⟨false,none,0,0⟩
  have hL : ∀ j n : Nat,fl[j]? = some (some n) → L' j = L n:=fun j n hj=>by simp only [L',hj]
  have hV' : ∀ j : Nat,fl[j]? = some none → L' j = ⟨true,none,es j,0⟩:=fun j hj=>by simp only [L',hj]
  have hV : ∀ j : Nat,fl[j]? = some none → (L' j).ok = true ∧ (L' j).nm = none:=fun j hj=>by rw [hV' j hj];exact ⟨rfl,rfl⟩
  have hN : ∀ j : Nat,fl[j]? = none → (L' j).ok = false:=fun j hj=>by simp only [L',hj]
  clear_value L'
  have hmap : ∀ (l l' : List TV) (x : List Value),RNs fl l l' → VLs Fz h L l x → VLs Fz h L' l' x:=by
    intro l l' x hr hx
    refine ⟨by have:=hr.len;have:=hx.len;omega,fun i q y hq hy=>?_⟩
    have hlt:=(List.getElem?_eq_some_iff.1 hq).1
    have hll:=hr.len
    have h0 : l[i]? = some l[i]:=List.getElem?_eq_getElem (by omega)
    exact (hr.at' i _ _ h0 hq).vl hL hV (hx.at' i _ _ h0 hy)
  refine ⟨Fz,L',Grow.refl _ _,⟨hmap _ _ _ hT hs.tmr,?_,?_,?_,hs.fz,hs.ext⟩⟩
  · intro j b hb
    rcases hat j b hb with ⟨hj,es',rfl⟩|⟨n,hj,h1⟩
    · have:=hes j hj
      rw [hb] at this
      injection this with this
      injection this with this _
      refine ⟨(hV j hj).1,by rw [hV' j hj];exact this.symm,by rw [hV' j hj];rfl,by simp,.inl ⟨(hV j hj).2,rfl⟩⟩
    · rcases h1 with ⟨es',rows,rfl,hn⟩|⟨row,row',rfl,hn,hr⟩
      · have:=hs.blk n _ hn
        unfold BR at this ⊢
        rw [hL j n hj]
        exact this
      · obtain ⟨q1,nm,cs,e1,e2,e3,e4,e5⟩:=hs.blk n _ hn
        unfold BR
        rw [hL j n hj]
        exact ⟨q1,nm,cs,e1,e2,e3,e4,hmap _ _ _ hr e5⟩
  · intro j hj
    show j < hp'.length
    rcases Nat.lt_or_ge j fl.length with hlt|hge
    · omega
    · rw [hN j (List.getElem?_eq_none_iff.2 hge)] at hj;cases hj
  · intro j j' b b' nm hb hb' l1 l2 e1 e2
    have f : ∀ (j : Nat) (b : TB),hp'[j]? = some b → b.live = true → (L' j).nm = some nm → ∃ (n : Nat) (b0 : TB),fl[j]? = some (some n) ∧ hp[n]? = some b0 ∧ b0.live = true ∧ (L n).nm = some nm:=by
      intro j b hb hl he
      rcases hat j b hb with ⟨hj,es',rfl⟩|⟨n,hj,h1⟩
      · rw [(hV j hj).2] at he;cases he
      · rw [hL j n hj] at he
        rcases h1 with ⟨es',rows,rfl,hn⟩|⟨row,row',rfl,hn,hr⟩
        · exact ⟨n,_,hj,hn,rfl,he⟩
        · exact ⟨n,_,hj,hn,rfl,he⟩
    obtain ⟨n,b0,g1,g2,g3,g4⟩:=f j b hb l1 e1
    obtain ⟨n',b0',k1,k2,k3,k4⟩:=f j' b' hb' l2 e2
    obtain rfl:=hs.inj n n' b0 b0' nm g2 k2 g3 k3 g4 k4
    exact renOk_inj hok j j' n g1 k1
end

section
variable {C : Ctx} {P : Program} {ops : Array Oper} {rest : List Oper} {tm tm2 : List TV} {hp hp2 : List TB} {Q : TS → Prop} {o : Oper}
variable {dst : Option Tmp} {ty : TypeId} {pos : String} {aft : Array Edge} {gd : Option (Nat × Bool)}
/-! ### the shallow side -/
def getI {α : Type} (xs : List α) (i : Int) : Option α:=if 0 ≤ i then xs[i.toNat]? else none
def appI {α : Type} (bytes : Nat) (xs ys : List α) : Option (List α):=if xs.length + ys.length ≤ 2 ^ 40 ∧ (xs.length + ys.length) * bytes ≤ 140737488355328 then some (xs ++ ys) else none
theorem getI_lt {α : Type} {xs : List α} {i : Int} {x : α} (h : getI xs i = some x) : 0 ≤ i ∧ i < xs.length:=by
  unfold getI at h
  split at h
  · have:=(List.getElem?_eq_some_iff.1 h).1;omega
  · cases h
theorem getI_at {α : Type} {xs : List α} {i : Int} {x : α} (h : getI xs i = some x) : xs[i.toNat]? = some x:=by
  unfold getI at h
  split at h
  · exact h
  · cases h
theorem tidx_map {α : Type} {xs : List α} {f : α → List TV} {i : Int} {x : α} (h : getI xs i = some x) : tidx (xs.map f) i = some (f x):=by
  unfold tidx
  rw [if_pos (getI_lt h).1,List.getElem?_map,getI_at h]
  rfl

/-! ### operations,with the state as it is -/
theorem TO.pop1 {p : TV} (hw : twant ops tm o = some true) (hv : tpop P hp tm o = some p) (ht : tput tm o.dst p = tm2) (hq : TO C P ops rest ⟨tm2,hp⟩ Q) : TO C P ops (o :: rest) ⟨tm,hp⟩ Q:=by
  subst ht;exact TO.p hw (OpP.of hv) hq
theorem TO.skip1 (hw : twant ops tm o = some false) (ht : tput tm o.dst (.tuple []) = tm2) (hq : TO C P ops rest ⟨tm2,hp⟩ Q) : TO C P ops (o :: rest) ⟨tm,hp⟩ Q:=by
  subst ht;exact TO.skip hw hq
variable {ms : List Nat} {i : Nat} {np : List Nat} {c : Nat}
theorem TD.pop1 {p : TV} (hw : twant ops tm o = some true) (hv : tpop P hp tm o = some p) (ht : tput tm o.dst p = tm2) (hq : TD C P ops ms rest (i + 1) np c ⟨tm2,hp⟩ Q) : TD C P ops ms (o :: rest) i np c ⟨tm,hp⟩ Q:=by
  subst ht;exact TD.p hw (OpP.of hv) hq
theorem TD.skip1 (hw : twant ops tm o = some false) (ht : tput tm o.dst (.tuple []) = tm2) (hq : TD C P ops ms rest (i + 1) np c ⟨tm2,hp⟩ Q) : TD C P ops ms (o :: rest) i np c ⟨tm,hp⟩ Q:=by
  subst ht;exact TD.skip hw hq
/-! ### loops,with all that follows -/
theorem TX.loopE {σ ε : Type} {b : Code} {step : σ → Option (σ ⊕ ε)} {x : σ} {e : ε} {Q : Exit → TS → Prop} (hr : run step x = some e) (I : σ → TS) (J : ε → Exit × TS)
    (hB : ∀ x y,step x = some y → TX C P b (I x) (fun ex st=>match y with|.inl x'=>ex = .normal ∧ Wk st (I x')|.inr e=>ex = (J e).1 ∧ Wk st (J e).2)) (hne : ∀ e,(J e).1 ≠ .normal) (hq : Q (J e).1 (J e).2) {s : TS} (hw : Wk s (I x)) : TX C P (.loop b) s Q:=by
  refine TX.weak hw (TX.post ((TX.loop hr I (fun e ex st=>ex = (J e).1 ∧ Wk st (J e).2) (fun x x' h=>hB x _ h) (fun x e h=>?_)).mono ?_))
  · exact (hB x _ h).mono fun ex st hh=>⟨by rw [hh.1];exact hne e,hh⟩
  · rintro ex st ⟨rfl,hh⟩
    exact ⟨_,hh,hq⟩
end
end Go.Rex

namespace Go.Rex
open Go.RowKit
section
variable {C : Ctx} {P : Program} {ops : Array Oper} {rest : List Oper} {tm tm2 : List TV} {hp hp2 : List TB} {Q : TS → Prop} {o : Oper}
variable {dst : Option Tmp} {ty : TypeId} {pos : String} {aft : Array Edge} {gd : Option (Nat × Bool)} {p q : TV} {ms : List Nat} {i : Nat} {np : List Nat} {c : Nat}

theorem TO.mv {x : Operand} (hw : twant ops tm { dst:=dst,op:=.move x,type:=ty,pos:=pos,after:=aft,guard:=gd } = some true) (hv : tev tm x = p) (ht : tput tm dst p = tm2) (hq : TO C P ops rest ⟨tm2,hp⟩ Q) : TO C P ops ({ dst:=dst,op:=.move x,type:=ty,pos:=pos,after:=aft,guard:=gd } :: rest) ⟨tm,hp⟩ Q :=
  TO.pop1 hw (by subst hv;rfl) ht hq
theorem TD.mv {x : Operand} (hw : twant ops tm { dst:=dst,op:=.move x,type:=ty,pos:=pos,after:=aft,guard:=gd } = some true) (hv : tev tm x = p) (ht : tput tm dst p = tm2) (hq : TD C P ops ms rest (i + 1) np c ⟨tm2,hp⟩ Q) : TD C P ops ms ({ dst:=dst,op:=.move x,type:=ty,pos:=pos,after:=aft,guard:=gd } :: rest) i np c ⟨tm,hp⟩ Q :=
  TD.pop1 hw (by subst hv;rfl) ht hq
theorem TO.asg {x : Operand} (hw : twant ops tm { dst:=dst,op:=.assign x,type:=ty,pos:=pos,after:=aft,guard:=gd } = some true) (hv : tev tm x = p) (ht : tput tm dst p = tm2) (hq : TO C P ops rest ⟨tm2,hp⟩ Q) : TO C P ops ({ dst:=dst,op:=.assign x,type:=ty,pos:=pos,after:=aft,guard:=gd } :: rest) ⟨tm,hp⟩ Q :=
  TO.pop1 hw (by subst hv;rfl) ht hq
theorem TD.asg {x : Operand} (hw : twant ops tm { dst:=dst,op:=.assign x,type:=ty,pos:=pos,after:=aft,guard:=gd } = some true) (hv : tev tm x = p) (ht : tput tm dst p = tm2) (hq : TD C P ops ms rest (i + 1) np c ⟨tm2,hp⟩ Q) : TD C P ops ms ({ dst:=dst,op:=.assign x,type:=ty,pos:=pos,after:=aft,guard:=gd } :: rest) i np c ⟨tm,hp⟩ Q :=
  TD.pop1 hw (by subst hv;rfl) ht hq
theorem TO.bin {b : BinOp} {t u : TypeId} {x y : Operand} {a d r : Value} (hw : twant ops tm { dst:=dst,op:=.binOp b t x y u,type:=ty,pos:=pos,after:=aft,guard:=gd } = some true) (hx : tev tm x = .v a) (hy : tev tm y = .v d) (hv : fastBin b a d = some r) (ht : tput tm dst (.v r) = tm2) (hq : TO C P ops rest ⟨tm2,hp⟩ Q) : TO C P ops ({ dst:=dst,op:=.binOp b t x y u,type:=ty,pos:=pos,after:=aft,guard:=gd } :: rest) ⟨tm,hp⟩ Q :=
  TO.pop1 hw (by simp only [tpop,hx,hy,tbin,hv,Option.map_some,orT]) ht hq
theorem TD.bin {b : BinOp} {t u : TypeId} {x y : Operand} {a d r : Value} (hw : twant ops tm { dst:=dst,op:=.binOp b t x y u,type:=ty,pos:=pos,after:=aft,guard:=gd } = some true) (hx : tev tm x = .v a) (hy : tev tm y = .v d) (hv : fastBin b a d = some r) (ht : tput tm dst (.v r) = tm2) (hq : TD C P ops ms rest (i + 1) np c ⟨tm2,hp⟩ Q) : TD C P ops ms ({ dst:=dst,op:=.binOp b t x y u,type:=ty,pos:=pos,after:=aft,guard:=gd } :: rest) i np c ⟨tm,hp⟩ Q :=
  TD.pop1 hw (by simp only [tpop,hx,hy,tbin,hv,Option.map_some,orT]) ht hq
theorem TO.ext {x : Operand} {n : Nat} {l : List TV} (hw : twant ops tm { dst:=dst,op:=.extract x n,type:=ty,pos:=pos,after:=aft,guard:=gd } = some true) (hx : tev tm x = .tuple l) (hv : l[n]? = some p) (ht : tput tm dst p = tm2) (hq : TO C P ops rest ⟨tm2,hp⟩ Q) : TO C P ops ({ dst:=dst,op:=.extract x n,type:=ty,pos:=pos,after:=aft,guard:=gd } :: rest) ⟨tm,hp⟩ Q :=
  TO.pop1 hw (by simp only [tpop,hx,hv]) ht hq
theorem TD.ext {x : Operand} {n : Nat} {l : List TV} (hw : twant ops tm { dst:=dst,op:=.extract x n,type:=ty,pos:=pos,after:=aft,guard:=gd } = some true) (hx : tev tm x = .tuple l) (hv : l[n]? = some p) (ht : tput tm dst p = tm2) (hq : TD C P ops ms rest (i + 1) np c ⟨tm2,hp⟩ Q) : TD C P ops ms ({ dst:=dst,op:=.extract x n,type:=ty,pos:=pos,after:=aft,guard:=gd } :: rest) i np c ⟨tm,hp⟩ Q :=
  TD.pop1 hw (by simp only [tpop,hx,hv]) ht hq
theorem TO.fa {t : TypeId} {x : Operand} {f : Nat} (hw : twant ops tm { dst:=dst,op:=.fieldAddr t x f,type:=ty,pos:=pos,after:=aft,guard:=gd } = some true) (hx : tev tm x = q) (hv : tfieldAddr P t q f = some p) (ht : tput tm dst p = tm2) (hq : TO C P ops rest ⟨tm2,hp⟩ Q) : TO C P ops ({ dst:=dst,op:=.fieldAddr t x f,type:=ty,pos:=pos,after:=aft,guard:=gd } :: rest) ⟨tm,hp⟩ Q :=
  TO.pop1 hw (by simp only [tpop,hx,hv]) ht hq
theorem TD.fa {t : TypeId} {x : Operand} {f : Nat} (hw : twant ops tm { dst:=dst,op:=.fieldAddr t x f,type:=ty,pos:=pos,after:=aft,guard:=gd } = some true) (hx : tev tm x = q) (hv : tfieldAddr P t q f = some p) (ht : tput tm dst p = tm2) (hq : TD C P ops ms rest (i + 1) np c ⟨tm2,hp⟩ Q) : TD C P ops ms ({ dst:=dst,op:=.fieldAddr t x f,type:=ty,pos:=pos,after:=aft,guard:=gd } :: rest) i np c ⟨tm,hp⟩ Q :=
  TD.pop1 hw (by simp only [tpop,hx,hv]) ht hq
theorem TO.ia {t : TypeId} {x y : Operand} {q2 : TV} (hw : twant ops tm { dst:=dst,op:=.indexAddr t x y,type:=ty,pos:=pos,after:=aft,guard:=gd } = some true) (hx : tev tm x = q) (hy : tev tm y = q2) (hv : tindexAddr P hp t q q2 = some p) (ht : tput tm dst p = tm2) (hq : TO C P ops rest ⟨tm2,hp⟩ Q) : TO C P ops ({ dst:=dst,op:=.indexAddr t x y,type:=ty,pos:=pos,after:=aft,guard:=gd } :: rest) ⟨tm,hp⟩ Q :=
  TO.pop1 hw (by simp only [tpop,hx,hy,hv]) ht hq
theorem TD.ia {t : TypeId} {x y : Operand} {q2 : TV} (hw : twant ops tm { dst:=dst,op:=.indexAddr t x y,type:=ty,pos:=pos,after:=aft,guard:=gd } = some true) (hx : tev tm x = q) (hy : tev tm y = q2) (hv : tindexAddr P hp t q q2 = some p) (ht : tput tm dst p = tm2) (hq : TD C P ops ms rest (i + 1) np c ⟨tm2,hp⟩ Q) : TD C P ops ms ({ dst:=dst,op:=.indexAddr t x y,type:=ty,pos:=pos,after:=aft,guard:=gd } :: rest) i np c ⟨tm,hp⟩ Q :=
  TD.pop1 hw (by simp only [tpop,hx,hy,hv]) ht hq
theorem TO.fld {t : TypeId} {x : Operand} {f : Nat} (hw : twant ops tm { dst:=dst,op:=.field t x f,type:=ty,pos:=pos,after:=aft,guard:=gd } = some true) (hx : tev tm x = q) (hv : tfield P t q f = some p) (ht : tput tm dst p = tm2) (hq : TO C P ops rest ⟨tm2,hp⟩ Q) : TO C P ops ({ dst:=dst,op:=.field t x f,type:=ty,pos:=pos,after:=aft,guard:=gd } :: rest) ⟨tm,hp⟩ Q :=
  TO.pop1 hw (by simp only [tpop,hx,hv]) ht hq
theorem TD.fld {t : TypeId} {x : Operand} {f : Nat} (hw : twant ops tm { dst:=dst,op:=.field t x f,type:=ty,pos:=pos,after:=aft,guard:=gd } = some true) (hx : tev tm x = q) (hv : tfield P t q f = some p) (ht : tput tm dst p = tm2) (hq : TD C P ops ms rest (i + 1) np c ⟨tm2,hp⟩ Q) : TD C P ops ms ({ dst:=dst,op:=.field t x f,type:=ty,pos:=pos,after:=aft,guard:=gd } :: rest) i np c ⟨tm,hp⟩ Q :=
  TD.pop1 hw (by simp only [tpop,hx,hv]) ht hq
theorem TO.pk {x y z : Operand} (hw : twant ops tm { dst:=dst,op:=.pick x y z,type:=ty,pos:=pos,after:=aft,guard:=gd } = some true) (hv : tpick (tev tm x) (tev tm y) (tev tm z) = some p) (ht : tput tm dst p = tm2) (hq : TO C P ops rest ⟨tm2,hp⟩ Q) : TO C P ops ({ dst:=dst,op:=.pick x y z,type:=ty,pos:=pos,after:=aft,guard:=gd } :: rest) ⟨tm,hp⟩ Q :=
  TO.pop1 hw (by simp only [tpop,hv]) ht hq
theorem TD.pk {x y z : Operand} (hw : twant ops tm { dst:=dst,op:=.pick x y z,type:=ty,pos:=pos,after:=aft,guard:=gd } = some true) (hv : tpick (tev tm x) (tev tm y) (tev tm z) = some p) (ht : tput tm dst p = tm2) (hq : TD C P ops ms rest (i + 1) np c ⟨tm2,hp⟩ Q) : TD C P ops ms ({ dst:=dst,op:=.pick x y z,type:=ty,pos:=pos,after:=aft,guard:=gd } :: rest) i np c ⟨tm,hp⟩ Q :=
  TD.pop1 hw (by simp only [tpop,hv]) ht hq
theorem TO.len {x : Operand} {t : TypeId} {ts : List TypeId} (hw : twant ops tm { dst:=dst,op:=.call { callee:=.builtin .len,args:=#[x],argTypes:=⟨t :: ts⟩ },type:=ty,pos:=pos,after:=aft,guard:=gd } = some true) (hx : tev tm x = q) (hv : tlen P (some t) q = some p) (ht : tput tm dst p = tm2) (hq : TO C P ops rest ⟨tm2,hp⟩ Q) : TO C P ops ({ dst:=dst,op:=.call { callee:=.builtin .len,args:=#[x],argTypes:=⟨t :: ts⟩ },type:=ty,pos:=pos,after:=aft,guard:=gd } :: rest) ⟨tm,hp⟩ Q :=
  TO.pop1 hw (by simp only [tpop,if_true,hx,List.getElem?_toArray,List.getElem?_cons_zero,hv,orT]) ht hq
theorem TD.len {x : Operand} {t : TypeId} {ts : List TypeId} (hw : twant ops tm { dst:=dst,op:=.call { callee:=.builtin .len,args:=#[x],argTypes:=⟨t :: ts⟩ },type:=ty,pos:=pos,after:=aft,guard:=gd } = some true) (hx : tev tm x = q) (hv : tlen P (some t) q = some p) (ht : tput tm dst p = tm2) (hq : TD C P ops ms rest (i + 1) np c ⟨tm2,hp⟩ Q) : TD C P ops ms ({ dst:=dst,op:=.call { callee:=.builtin .len,args:=#[x],argTypes:=⟨t :: ts⟩ },type:=ty,pos:=pos,after:=aft,guard:=gd } :: rest) i np c ⟨tm,hp⟩ Q :=
  TD.pop1 hw (by simp only [tpop,if_true,hx,List.getElem?_toArray,List.getElem?_cons_zero,hv,orT]) ht hq
theorem TO.bld {t : TypeId} {ps : Array (Nat × Operand)} {l : List (Nat × TV)} (hw : twant ops tm { dst:=dst,op:=.build t ps,type:=ty,pos:=pos,after:=aft,guard:=gd } = some true) (hx : ps.toList.map (fun q=>(q.1,tev tm q.2)) = l) (hv : tbuild P t l = some p) (ht : tput tm dst p = tm2) (hq : TO C P ops rest ⟨tm2,hp⟩ Q) : TO C P ops ({ dst:=dst,op:=.build t ps,type:=ty,pos:=pos,after:=aft,guard:=gd } :: rest) ⟨tm,hp⟩ Q :=
  TO.pop1 hw (by simp only [tpop,hx,hv]) ht hq
theorem TD.bld {t : TypeId} {ps : Array (Nat × Operand)} {l : List (Nat × TV)} (hw : twant ops tm { dst:=dst,op:=.build t ps,type:=ty,pos:=pos,after:=aft,guard:=gd } = some true) (hx : ps.toList.map (fun q=>(q.1,tev tm q.2)) = l) (hv : tbuild P t l = some p) (ht : tput tm dst p = tm2) (hq : TD C P ops ms rest (i + 1) np c ⟨tm2,hp⟩ Q) : TD C P ops ms ({ dst:=dst,op:=.build t ps,type:=ty,pos:=pos,after:=aft,guard:=gd } :: rest) i np c ⟨tm,hp⟩ Q :=
  TD.pop1 hw (by simp only [tpop,hx,hv]) ht hq
theorem TO.mf {f : FuncId} {a b : Array Operand} {l1 l2 : List TV} (hw : twant ops tm { dst:=dst,op:=.makeFunc (.func f) a b,type:=ty,pos:=pos,after:=aft,guard:=gd } = some true) (hx : a.toList.map (tev tm) = l1) (hy : b.toList.map (tev tm) = l2) (hv : (l1.all (lf 4) && l2.all (lf 4)) = true) (ht : tput tm dst (.func f l1 l2) = tm2) (hq : TO C P ops rest ⟨tm2,hp⟩ Q) : TO C P ops ({ dst:=dst,op:=.makeFunc (.func f) a b,type:=ty,pos:=pos,after:=aft,guard:=gd } :: rest) ⟨tm,hp⟩ Q :=
  TO.pop1 hw (by subst hx hy;simp only [tpop];rw [if_pos];simpa only [List.all_map,Function.comp_def] using hv) ht hq
theorem TD.mf {f : FuncId} {a b : Array Operand} {l1 l2 : List TV} (hw : twant ops tm { dst:=dst,op:=.makeFunc (.func f) a b,type:=ty,pos:=pos,after:=aft,guard:=gd } = some true) (hx : a.toList.map (tev tm) = l1) (hy : b.toList.map (tev tm) = l2) (hv : (l1.all (lf 4) && l2.all (lf 4)) = true) (ht : tput tm dst (.func f l1 l2) = tm2) (hq : TD C P ops ms rest (i + 1) np c ⟨tm2,hp⟩ Q) : TD C P ops ms ({ dst:=dst,op:=.makeFunc (.func f) a b,type:=ty,pos:=pos,after:=aft,guard:=gd } :: rest) i np c ⟨tm,hp⟩ Q :=
  TD.pop1 hw (by subst hx hy;simp only [tpop];rw [if_pos];simpa only [List.all_map,Function.comp_def] using hv) ht hq
theorem TO.ld {t : TypeId} {a : Operand} (hw : twant ops tm { dst:=dst,op:=.load t a,type:=ty,pos:=pos,after:=aft,guard:=gd } = some true) (hx : tev tm a = p) (hv : tload P hp t p = some q) (ht : tput tm dst q = tm2) (hh2 : hp = hp2) (hq : TO C P ops rest ⟨tm2,hp2⟩ Q) : TO C P ops ({ dst:=dst,op:=.load t a,type:=ty,pos:=pos,after:=aft,guard:=gd } :: rest) ⟨tm,hp⟩ Q:=by
  subst ht hh2
  exact TO.g hw (OpG.load (by rw [show tev (TS.mk tm hp).tm a = p from hx];exact hv)) hq
theorem TD.ld {t : TypeId} {a : Operand} (hw : twant ops tm { dst:=dst,op:=.load t a,type:=ty,pos:=pos,after:=aft,guard:=gd } = some true) (hx : tev tm a = p) (hv : tload P hp t p = some q) (ht : tput tm dst q = tm2) (hh2 : hp = hp2) (hq : TD C P ops ms rest (i + 1) (i :: np) 0 ⟨tm2,hp2⟩ Q) : TD C P ops ms ({ dst:=dst,op:=.load t a,type:=ty,pos:=pos,after:=aft,guard:=gd } :: rest) i np 0 ⟨tm,hp⟩ Q:=by
  subst ht hh2
  exact TD.g hw (OpG.load (by rw [show tev (TS.mk tm hp).tm a = p from hx];exact hv)) hq
theorem TD.ldw {t : TypeId} {a : Operand} (hw : twant ops tm { dst:=dst,op:=.load t a,type:=ty,pos:=pos,after:=aft,guard:=gd } = some true) (hx : tev tm a = p) (hv : tload P hp t p = some q) (hnp : np.all (fun j=>(nthN ms i).testBit j) = true) (ht : tput tm dst q = tm2) (hh2 : hp = hp2) (hq : TD C P ops ms rest (i + 1) (i :: np) 1 ⟨tm2,hp2⟩ Q) : TD C P ops ms ({ dst:=dst,op:=.load t a,type:=ty,pos:=pos,after:=aft,guard:=gd } :: rest) i np c ⟨tm,hp⟩ Q:=by
  subst ht hh2
  exact TD.w hw (OpG.toW (OpG.load (by rw [show tev (TS.mk tm hp).tm a = p from hx];exact hv))) hnp hq
theorem TO.al {e : TypeId} {z : List Value} {zt : List TV} (hw : twant ops tm { dst:=dst,op:=.alloc e,type:=ty,pos:=pos,after:=aft,guard:=gd } = some true) (hv : zeroC P e = some z) (hz : z.map TV.v = zt) (ht : tput tm dst (.lptr hp.length 0 0) = tm2) (hh2 : (hp ++ [.var zt]) = hp2) (hq : TO C P ops rest ⟨tm2,hp2⟩ Q) : TO C P ops ({ dst:=dst,op:=.alloc e,type:=ty,pos:=pos,after:=aft,guard:=gd } :: rest) ⟨tm,hp⟩ Q:=by
  subst ht hh2
  exact TO.g hw (by subst hz;exact OpG.alloc hv) hq
theorem TD.al {e : TypeId} {z : List Value} {zt : List TV} (hw : twant ops tm { dst:=dst,op:=.alloc e,type:=ty,pos:=pos,after:=aft,guard:=gd } = some true) (hv : zeroC P e = some z) (hz : z.map TV.v = zt) (ht : tput tm dst (.lptr hp.length 0 0) = tm2) (hh2 : (hp ++ [.var zt]) = hp2) (hq : TD C P ops ms rest (i + 1) (i :: np) 0 ⟨tm2,hp2⟩ Q) : TD C P ops ms ({ dst:=dst,op:=.alloc e,type:=ty,pos:=pos,after:=aft,guard:=gd } :: rest) i np 0 ⟨tm,hp⟩ Q:=by
  subst ht hh2
  exact TD.g hw (by subst hz;exact OpG.alloc hv) hq
theorem TO.bf {e : TypeId} {x : Operand} {l : List TV} (hw : twant ops tm { dst:=dst,op:=.box e x,type:=ty,pos:=pos,after:=aft,guard:=gd } = some true) (hx : tev tm x = p) (hj : isJunk p = false) (hl : tcells p = l) (hlf : l.all (lf 4) = true) (ht : tput tm dst (.fptr true l 0) = tm2) (hh2 : hp = hp2) (hq : TO C P ops rest ⟨tm2,hp2⟩ Q) : TO C P ops ({ dst:=dst,op:=.box e x,type:=ty,pos:=pos,after:=aft,guard:=gd } :: rest) ⟨tm,hp⟩ Q:=by
  subst ht hh2
  exact TO.g hw (by subst hl;exact OpG.boxF hx hj hlf) hq
theorem TD.bf {e : TypeId} {x : Operand} {l : List TV} (hw : twant ops tm { dst:=dst,op:=.box e x,type:=ty,pos:=pos,after:=aft,guard:=gd } = some true) (hx : tev tm x = p) (hj : isJunk p = false) (hl : tcells p = l) (hlf : l.all (lf 4) = true) (ht : tput tm dst (.fptr true l 0) = tm2) (hh2 : hp = hp2) (hq : TD C P ops ms rest (i + 1) (i :: np) 0 ⟨tm2,hp2⟩ Q) : TD C P ops ms ({ dst:=dst,op:=.box e x,type:=ty,pos:=pos,after:=aft,guard:=gd } :: rest) i np 0 ⟨tm,hp⟩ Q:=by
  subst ht hh2
  exact TD.g hw (by subst hl;exact OpG.boxF hx hj hlf) hq
theorem TO.bs {t : TypeId} {n : Nat} {ps : Array (Nat × Operand)} {l : List (Nat × TV)} {es : Nat} {rows : List (List TV)} (hw : twant ops tm { dst:=dst,op:=.buildSlice t n ps,type:=ty,pos:=pos,after:=aft,guard:=gd } = some true) (hx : ps.toList.map (fun q=>(q.1,tev tm q.2)) = l) (hv : tslice P t n l = some (es,rows)) (ht : tput tm dst (.list es rows) = tm2) (hh2 : hp = hp2) (hq : TO C P ops rest ⟨tm2,hp2⟩ Q) : TO C P ops ({ dst:=dst,op:=.buildSlice t n ps,type:=ty,pos:=pos,after:=aft,guard:=gd } :: rest) ⟨tm,hp⟩ Q:=by
  subst ht hh2
  exact TO.g hw (OpG.buildSlice (s:=⟨tm,hp⟩) (by simp only [hx];exact hv)) hq
theorem TD.bs {t : TypeId} {n : Nat} {ps : Array (Nat × Operand)} {l : List (Nat × TV)} {es : Nat} {rows : List (List TV)} (hw : twant ops tm { dst:=dst,op:=.buildSlice t n ps,type:=ty,pos:=pos,after:=aft,guard:=gd } = some true) (hx : ps.toList.map (fun q=>(q.1,tev tm q.2)) = l) (hv : tslice P t n l = some (es,rows)) (ht : tput tm dst (.list es rows) = tm2) (hh2 : hp = hp2) (hq : TD C P ops ms rest (i + 1) (i :: np) 0 ⟨tm2,hp2⟩ Q) : TD C P ops ms ({ dst:=dst,op:=.buildSlice t n ps,type:=ty,pos:=pos,after:=aft,guard:=gd } :: rest) i np 0 ⟨tm,hp⟩ Q:=by
  subst ht hh2
  exact TD.g hw (OpG.buildSlice (s:=⟨tm,hp⟩) (by simp only [hx];exact hv)) hq
theorem TO.cal {fo : Operand} {g : FuncId} {args : Array Operand} {tys : Array TypeId} {first caps as : List TV} {th : List TB} (hw : twant ops tm { dst:=dst,op:=.call { callee:=.value fo,args:=args,argTypes:=tys },type:=ty,pos:=pos,after:=aft,guard:=gd } = some true) (hf : tev tm fo = .func g first caps) (hg : goFn P g = true) (hsp : Spec C g as ⟨[p],th⟩) (has : first ++ (args.toList.map (tev tm) ++ caps) = as) (hl : as.all (lf 4) = true) (hth : th.all resTB = true) (ht : tput tm dst (shift hp.length 4 p) = tm2) (hh2 : hp ++ th = hp2) (hq : TO C P ops rest ⟨tm2,hp2⟩ Q) : TO C P ops ({ dst:=dst,op:=.call { callee:=.value fo,args:=args,argTypes:=tys },type:=ty,pos:=pos,after:=aft,guard:=gd } :: rest) ⟨tm,hp⟩ Q:=by
  subst ht hh2
  exact TO.g hw (OpG.call (s:=⟨tm,hp⟩) hf hg has hl hsp hth) hq
theorem TD.cal {fo : Operand} {g : FuncId} {args : Array Operand} {tys : Array TypeId} {first caps as : List TV} {th : List TB} (hw : twant ops tm { dst:=dst,op:=.call { callee:=.value fo,args:=args,argTypes:=tys },type:=ty,pos:=pos,after:=aft,guard:=gd } = some true) (hf : tev tm fo = .func g first caps) (hg : goFn P g = true) (hsp : Spec C g as ⟨[p],th⟩) (has : first ++ (args.toList.map (tev tm) ++ caps) = as) (hl : as.all (lf 4) = true) (hth : th.all resTB = true) (ht : tput tm dst (shift hp.length 4 p) = tm2) (hh2 : hp ++ th = hp2) (hq : TD C P ops ms rest (i + 1) (i :: np) 0 ⟨tm2,hp2⟩ Q) : TD C P ops ms ({ dst:=dst,op:=.call { callee:=.value fo,args:=args,argTypes:=tys },type:=ty,pos:=pos,after:=aft,guard:=gd } :: rest) i np 0 ⟨tm,hp⟩ Q:=by
  subst ht hh2
  exact TD.g hw (OpG.call (s:=⟨tm,hp⟩) hf hg has hl hsp hth) hq
theorem TD.calw {fo : Operand} {g : FuncId} {args : Array Operand} {tys : Array TypeId} {first caps as : List TV} {th : List TB} (hw : twant ops tm { dst:=dst,op:=.call { callee:=.value fo,args:=args,argTypes:=tys },type:=ty,pos:=pos,after:=aft,guard:=gd } = some true) (hf : tev tm fo = .func g first caps) (hg : goFn P g = true) (hsp : Spec C g as ⟨[p],th⟩) (has : first ++ (args.toList.map (tev tm) ++ caps) = as) (hl : as.all (lf 4) = true) (hth : th.all resTB = true) (hnp : np.all (fun j=>(nthN ms i).testBit j) = true) (ht : tput tm dst (shift hp.length 4 p) = tm2) (hh2 : hp ++ th = hp2) (hq : TD C P ops ms rest (i + 1) (i :: np) 1 ⟨tm2,hp2⟩ Q) : TD C P ops ms ({ dst:=dst,op:=.call { callee:=.value fo,args:=args,argTypes:=tys },type:=ty,pos:=pos,after:=aft,guard:=gd } :: rest) i np c ⟨tm,hp⟩ Q:=by
  subst ht hh2
  exact TD.w hw (OpG.toW (OpG.call (s:=⟨tm,hp⟩) hf hg has hl hsp hth)) hnp hq
end
end Go.Rex

namespace Go.Rex
open Go.RowKit
section
variable {P : Program} {tm : List TV} {hp : List TB}
variable {dst : Option Tmp} {ty : TypeId} {pos : String} {aft : Array Edge} {gd : Option (Nat × Bool)} {x y : Operand} {t u : TypeId} {tys : List TypeId}
/-! ### operations on values without names -/
theorem tgen_of {o : Oper} {v : Value} (ha : o.op.operands.toList.all (fun x=>(er 3 (tev tm x)).isSome) = true) (hv : Rex.pop P (erased tm) o = some v) (hi : injOk 3 v = true) : tgen P tm o = some (inj 3 v):=by
  unfold tgen
  rw [if_pos ha,hv]
  simp only
  rw [if_pos hi]
theorem erased_v {a : Value} (h : tev tm x = .v a) : erased tm x = a:=by unfold erased;rw [h];rfl
theorem some_v {a : Value} (h : tev tm x = .v a) : (er 3 (tev tm x)).isSome = true:=by rw [h];rfl
theorem pop_not {b : Bool} (h : tev tm x = .v (.bool b)) : tpop P hp tm { dst:=dst,op:=.unOp .not t x,type:=ty,pos:=pos,after:=aft,guard:=gd } = some (.v (.bool (!b))):=by
  have : tgen P tm { dst:=dst,op:=.unOp .not t x,type:=ty,pos:=pos,after:=aft,guard:=gd } = some (inj 3 (.bool (!b))) :=
    tgen_of (by simp [Op.operands,some_v h]) (by simp only [Rex.pop,genP_not,erased_v h]) rfl
  exact this
theorem pop_neg {k : IntKind} {n : Int} (h : tev tm x = .v (.int k n)) : tpop P hp tm { dst:=dst,op:=.unOp .neg t x,type:=ty,pos:=pos,after:=aft,guard:=gd } = some (.v (.int k (k.wrap (0 - n)))):=by
  have : tgen P tm { dst:=dst,op:=.unOp .neg t x,type:=ty,pos:=pos,after:=aft,guard:=gd } = some (inj 3 (.int k (k.wrap (0 - n)))) :=
    tgen_of (by simp [Op.operands,some_v h]) (by simp only [Rex.pop,genP_neg,erased_v h]) rfl
  exact this
/-- from the model itself -/
theorem tgen_run {o : Oper} {v : Value} (hp0 : Rex.pop P (erased tm) o = genP P (erased tm) o) (hsel : ∀ cs b, o.op ≠ .select cs b) (ha : o.op.operands.toList.all (fun x => (er 3 (tev tm x)).isSome) = true) (hc : o.op.operands.toList.all (fun x => isClean (erased tm x)) = true)
    (hv : prun P (execOp (erased tm) o) = some (.value v)) (hi : injOk 3 v = true) (hcv : isClean v = true) : tgen P tm o = some (inj 3 v):=by
  refine tgen_of ha ?_ hi
  rw [hp0]
  unfold genP
  split
  · rename_i cs b e;exact absurd e (hsel _ _)
  · rw [if_pos hc,hv]
    simp only
    rw [if_pos hcv]
theorem prun_bind {α β : Type} {s : Sem α} {f : α → Sem β} : prun P (s >>= f) = (prun P s).bind fun a=>prun P (f a):=by
  induction s with
  | pure a=>rfl
  | program k ih=>exact ih _
  | mark m k ih=>exact ih
  | _=>rfl
theorem prun_pure {α : Type} {a : α} : prun P (pure a : Sem α) = some a:=rfl
theorem prun_under {t : TypeId} {d : TypeDesc} (h : P.underlying t = some d) : prun P (underlying t) = some d:=by
  unfold underlying
  rw [prun_bind]
  show prun P (match P.underlying t with | some d => pure d | none => stuck "no such type") = some d
  rw [h]
  rfl
theorem cvt_ok {v w : Value} (h : tev tm x = .v v) (hc : isClean v = true) (hw : prun P (convert t u v) = some w) (hi : injOk 3 w = true) (hcw : isClean w = true) : tpop P hp tm { dst:=dst,op:=.convert t u x,type:=ty,pos:=pos,after:=aft,guard:=gd } = some (inj 3 w):=by
  have : tgen P tm { dst:=dst,op:=.convert t u x,type:=ty,pos:=pos,after:=aft,guard:=gd } = some (inj 3 w):=by
    refine tgen_run rfl (fun cs b e=>by cases e) (by simpa [Op.operands] using some_v h) (by simpa [Op.operands,erased_v h] using hc) ?_ hi hcw
    show prun P (convert t u (erased tm x) >>= fun r=>(pure (Next.value r) : Sem Next)) = _
    rw [prun_bind,erased_v h,hw]
    rfl
  exact this
theorem cvt_int_int {k ks kd : IntKind} {n : Int} (hs : P.underlying t = some (.int ks)) (hd : P.underlying u = some (.int kd)) (h : tev tm x = .v (.int k n)) : tpop P hp tm { dst:=dst,op:=.convert t u x,type:=ty,pos:=pos,after:=aft,guard:=gd } = some (.v (.int kd (kd.wrap n))):=by
  refine cvt_ok (w:=.int kd (kd.wrap n)) h rfl ?_ rfl rfl
  unfold convert
  rw [prun_bind,prun_under hs,Option.bind_some,prun_bind,prun_under hd,Option.bind_some]
  rfl
def shI (op : BinOp) (k : IntKind) (a b : Int) : Option Int :=
  if b < 0 then none else match op with
  | .shl=>some (k.wrap (a * 2 ^ (min b.toNat k.bits)))
  | _=>some (a.fdiv (2 ^ (min b.toNat k.bits)))
theorem bin_ok {b : BinOp} {v w r : Value} (h : tev tm x = .v v) (g : tev tm y = .v w) (hf : fastBin b v w = none) (hc : isClean v = true) (hd : isClean w = true) (he : prun P (eqGuard b t x y v w) = some ()) (hw : prun P (binOp b t v w) = some r) (hi : injOk 3 r = true) (hcr : isClean r = true) :
    tpop P hp tm { dst:=dst,op:=.binOp b t x y u,type:=ty,pos:=pos,after:=aft,guard:=gd } = some (inj 3 r):=by
  have h1 : tgen P tm { dst:=dst,op:=.binOp b t x y u,type:=ty,pos:=pos,after:=aft,guard:=gd } = some (inj 3 r):=by
    refine tgen_run ?_ (fun cs b e=>by cases e) (by simpa [Op.operands] using ⟨some_v h,some_v g⟩) (by simpa [Op.operands,erased_v h,erased_v g] using ⟨hc,hd⟩) ?_ hi hcr
    · simp only [Rex.pop,erased_v h,erased_v g,hf,orGen]
    · show prun P ((eqGuard b t x y (erased tm x) (erased tm y) >>= fun _=>binOp b t (erased tm x) (erased tm y)) >>= fun r=>(pure (Next.value r) : Sem Next)) = _
      rw [prun_bind,erased_v h,erased_v g,prun_bind,he,Option.bind_some,hw]
      rfl
  simp only [tpop,h,g,tbin,hf,Option.map_none,orT]
  exact h1
theorem eqG_other {b : BinOp} {v w : Value} (hb : b ≠ .eql ∧ b ≠ .neq) : prun P (eqGuard b t x y v w) = some ():=by
  cases b<;>first|rfl|exact absurd rfl hb.1|exact absurd rfl hb.2
theorem pop_shift {b : BinOp} {k k' : IntKind} {a d r : Int} (h : tev tm x = .v (.int k a)) (g : tev tm y = .v (.int k' d)) (hb : b = .shl ∨ b = .shr) (hr : shI b k a d = some r) : tpop P hp tm { dst:=dst,op:=.binOp b t x y u,type:=ty,pos:=pos,after:=aft,guard:=gd } = some (.v (.int k r)):=by
  unfold shI at hr
  split at hr
  · cases hr
  · rename_i hd
    refine bin_ok (r:=.int k r) h g ?_ rfl rfl (eqG_other ?_) ?_ rfl rfl
    · rcases hb with rfl|rfl<;>simp [fastBin]
    · rcases hb with rfl|rfl<;>exact ⟨by decide,by decide⟩
    · rcases hb with rfl|rfl<;>(obtain rfl:=Option.some.inj hr;simp only [binOp,Op.shift,if_neg hd];rfl)
end
end Go.Rex

namespace Go.Rex
open Go.RowKit
section
variable {C : Ctx} {P : Program} {Fz : Nat → Prop} {h h0 : List Blk} {L : Nat → LI} {s : TS} {tm : List Value}
variable {dst : Option Tmp} {ty : TypeId} {pos : String} {aft : Array Edge} {gd : Option (Nat × Bool)}
end
end Go.Rex

namespace Go.Rex
open Go.RowKit
section
variable {C : Ctx} {P : Program} {ops : Array Oper} {rest : List Oper} {tm tm2 : List TV} {hp hp2 : List TB} {Q : TS → Prop} {o : Oper}
variable {dst : Option Tmp} {ty : TypeId} {pos : String} {aft : Array Edge} {gd : Option (Nat × Bool)} {p q : TV} {ms : List Nat} {i : Nat} {np : List Nat} {c : Nat}
theorem stV {t : TypeId} {a x : Operand} {n ob : Nat} {row row2 l : List TV} (ha : tev tm a = .lptr n 0 ob) (hx : tev tm x = p) (hj : isJunk p = false) (hl : tcells p = l) (hb : hp[n]? = some (.var row)) (ht : okT P t = true) (hlen : l.length = P.cellsOf t) (hone : l.all tone = true) (hfit : Nat.ble (ob + l.length) row.length = true) (hv : tsplice row ob l = row2) :
    OpW C P { dst:=none,op:=.store t a x,type:=ty,pos:=pos,after:=aft,guard:=gd } ⟨tm,hp⟩ ⟨tm,hp.set n (.var row2)⟩:=by
  subst hl hv
  refine OpW.store (s:=⟨tm,hp⟩) ?_
  rw [show tev (TS.mk tm hp).tm a = _ from ha,show tev (TS.mk tm hp).tm x = p from hx]
  simp only [tstore]
  rw [if_pos ⟨hj,ht,hlen,hone⟩,hb]
  simp only
  rw [if_pos ⟨trivial,Nat.le_of_ble_eq_true hfit⟩]
theorem TO.sv {t : TypeId} {a x : Operand} {n ob : Nat} {row row2 l : List TV} (hw : twant ops tm { dst := none, op := .store t a x, type := ty, pos := pos, after := aft, guard := gd } = some true) (ha : tev tm a = .lptr n 0 ob) (hx : tev tm x = p) (hj : isJunk p = false) (hl : tcells p = l) (hb : hp[n]? = some (.var row)) (ht : okT P t = true) (hlen : l.length = P.cellsOf t) (hone : l.all tone = true) (hfit : Nat.ble (ob + l.length) row.length = true) (hv : tsplice row ob l = row2)
    (hh2 : hp.set n (.var row2) = hp2) (hq : TO C P ops rest ⟨tm,hp2⟩ Q) : TO C P ops ({ dst:=none,op:=.store t a x,type:=ty,pos:=pos,after:=aft,guard:=gd } :: rest) ⟨tm,hp⟩ Q:=by
  subst hh2;exact TO.w hw (stV ha hx hj hl hb ht hlen hone hfit hv) hq
theorem TD.sv {t : TypeId} {a x : Operand} {n ob : Nat} {row row2 l : List TV} (hw : twant ops tm { dst := none, op := .store t a x, type := ty, pos := pos, after := aft, guard := gd } = some true) (ha : tev tm a = .lptr n 0 ob) (hx : tev tm x = p) (hj : isJunk p = false) (hl : tcells p = l) (hb : hp[n]? = some (.var row)) (ht : okT P t = true) (hlen : l.length = P.cellsOf t) (hone : l.all tone = true) (hfit : Nat.ble (ob + l.length) row.length = true) (hv : tsplice row ob l = row2)
    (hnp : okW ops ms i ⟨tm,hp⟩ n np = true) (hh2 : hp.set n (.var row2) = hp2) (hq : TD C P ops ms rest (i + 1) (i :: np) 1 ⟨tm,hp2⟩ Q) : TD C P ops ms ({ dst:=none,op:=.store t a x,type:=ty,pos:=pos,after:=aft,guard:=gd } :: rest) i np c ⟨tm,hp⟩ Q:=by
  subst hh2;exact TD.wF (s:=⟨tm,hp⟩) hw ha (stV ha hx hj hl hb ht hlen hone hfit hv) hnp hq
end
section
variable {C : Ctx} {P : Program} {ops : Array Oper} {rest : List Oper} {tm tm2 : List TV} {hp hp2 : List TB} {Q : TS → Prop} {o : Oper}
variable {dst : Option Tmp} {ty : TypeId} {pos : String} {aft : Array Edge} {gd : Option (Nat × Bool)} {p q : TV} {ms : List Nat} {i : Nat} {np : List Nat} {c : Nat}
/-! ### arrays at any index -/
end
/-- what slots and operands are -/
theorem z1 : (∀ tm t, tev tm (.tmp t) = tnth tm t) ∧ (∀ tm k n, tev tm (.const (.int k n)) = .v (.int k n)) ∧ (∀ tm b, tev tm (.const (.bool b)) = .v (.bool b)) ∧ (∀ tm s, tev tm (.const (.string s)) = .v (.string s)) ∧ (∀ tm k b, tev tm (.const (.float k b)) = .v (.float k b)) ∧
    (∀ tm k a b,tev tm (.const (.complex k a b)) = .v (.complex k a b)) ∧ (∀ tm,tev tm (.const (.slice none 0 0)) = .v (.slice none 0 0)) ∧ (∀ tm,tev tm (.const .nilFunc) = .v .nilFunc) ∧ (∀ tm,tev tm (.const .nilIface) = .v .nilIface) ∧ (∀ tm,tev tm (.const (.pointer none)) = .v (.pointer none)) ∧
    (∀ tm f,tev tm (.func f) = .func f [] []) ∧ (∀ a l,tnth (a :: l) 0 = a) ∧ (∀ a l n,tnth (a :: l) (n + 1) = tnth l n) ∧ (∀ tm p,tput tm none p = tm) ∧ (∀ tm d p,tput tm (some d) p = tm.set d p) :=
  ⟨fun _ _=>rfl,fun _ _ _=>rfl,fun _ _=>rfl,fun _ _=>rfl,fun _ _ _=>rfl,fun _ _ _ _=>rfl,fun _=>rfl,fun _=>rfl,fun _=>rfl,fun _=>rfl,fun _ _=>rfl,fun _ _=>rfl,fun _ _ _=>rfl,fun _ _=>rfl,fun _ _ _=>rfl⟩
/-- operators on integers -/
theorem z2 : (∀ k a b, fastBin .add (.int k a) (.int k b) = some (.int k (k.wrap (a + b)))) ∧ (∀ k a b, fastBin .sub (.int k a) (.int k b) = some (.int k (k.wrap (a - b)))) ∧ (∀ k a b, fastBin .mul (.int k a) (.int k b) = some (.int k (k.wrap (a * b)))) ∧
    (∀ k a b,fastBin .lss (.int k a) (.int k b) = some (.bool (decide (a < b)))) ∧ (∀ k a b,fastBin .leq (.int k a) (.int k b) = some (.bool (decide (a ≤ b)))) ∧ (∀ k a b,fastBin .gtr (.int k a) (.int k b) = some (.bool (decide (a > b)))) ∧ (∀ k a b,fastBin .geq (.int k a) (.int k b) = some (.bool (decide (a ≥ b)))) ∧
    (∀ k a b,fastBin .eql (.int k a) (.int k b) = some (.bool (decide (a = b)))) ∧ (∀ k a b,fastBin .neq (.int k a) (.int k b) = some (.bool (decide (a ≠ b)))) ∧ (∀ k a b,fastBin .quo (.int k a) (.int k b) = if b = 0 then none else some (.int k (k.wrap (a.tdiv b)))) ∧ (∀ k a b,fastBin .rem (.int k a) (.int k b) = if b = 0 then none else some (.int k (a.tmod b))):=by
  refine ⟨?_,?_,?_,?_,?_,?_,?_,?_,?_,?_,?_⟩<;>(intro k a b;simp only [fastBin,if_true])
end Go.Rex

namespace Go.Rex
open Go.RowKit
section
variable {C : Ctx} {P : Program} {ops : Array Oper} {rest : List Oper} {tm tm2 : List TV} {hp hp2 : List TB} {Q : TS → Prop} {o : Oper}
variable {dst : Option Tmp} {ty : TypeId} {pos : String} {aft : Array Edge} {gd : Option (Nat × Bool)} {p q : TV} {ms : List Nat} {i : Nat} {np : List Nat} {c : Nat}
theorem TO.here {l : List Oper} {s : TS} (h : TO C P ops l s Q) : TO C P ops l s Q:=h
theorem TD.here {l : List Oper} {s : TS} (h : TD C P ops ms l i np c s Q) : TD C P ops ms l i np c s Q:=h
end
end Go.Rex

namespace Go.Rex
open Go.RowKit
theorem z3 : (∀ (α : Type) (a b : α) (l : List α), (a :: l).set 0 b = b :: l) ∧ (∀ (α : Type) (a b : α) (l : List α) (n : Nat), (a :: l).set (n + 1) b = a :: l.set n b) ∧ (∀ (α : Type) (a : α) (l : List α), (a :: l)[0]? = some a) ∧ (∀ (α : Type) (a : α) (l : List α) (n : Nat), (a :: l)[n + 1]? = l[n]?) ∧
    (∀ (α β : Type) (f : α → β) (a : α) (l : List α),(a :: l).map f = f a :: l.map f) ∧ (∀ (α β : Type) (f : α → β),([] : List α).map f = []) ∧ (∀ (α : Type) (a : α) (l m : List α),(a :: l) ++ m = a :: (l ++ m)) ∧ (∀ (α : Type) (l : List α),[] ++ l = l) ∧ (∀ (α : Type) (a : α) (l : List α),(a :: l).length = l.length + 1) ∧ (∀ (α : Type),([] : List α).length = 0) ∧
    (∀ (α : Type) (l : List α),l.drop 0 = l) ∧ (∀ (α : Type) (a : α) (l : List α) (n : Nat),(a :: l).drop (n + 1) = l.drop n) ∧ (∀ (α : Type) (n : Nat),([] : List α).drop n = []) ∧ (∀ (α : Type) (l : List α),l.take 0 = []) ∧ (∀ (α : Type) (a : α) (l : List α) (n : Nat),(a :: l).take (n + 1) = a :: l.take n) ∧ (∀ (α : Type) (n : Nat),([] : List α).take n = []) ∧
    (∀ (α β : Type) (f : α → β) (a : α),(some a).map f = some (f a)) ∧ (∀ (α β : Type) (f : α → β) (l : List α),(l.map f).length = l.length) :=
  ⟨fun _ _ _ _=>rfl,fun _ _ _ _ _=>rfl,fun _ _ _=>rfl,fun _ _ _ _=>rfl,fun _ _ _ _ _=>rfl,fun _ _ _=>rfl,fun _ _ _ _=>rfl,fun _ _=>rfl,fun _ _ _=>rfl,fun _=>rfl,fun _ _=>rfl,fun _ _ _ _=>rfl,fun _ n=>by cases n<;>rfl,fun _ _=>rfl,fun _ _ _ _=>rfl,fun _ n=>by cases n<;>rfl,fun _ _ _ _=>rfl,fun _ _ _ _=>List.length_map _⟩
theorem z4 : (∀ l, tcells (.agg l) = l) ∧ (∀ x, tcells (.v x) = [.v x]) ∧ (∀ a b, tcells (.list a b) = [.list a b]) ∧ (∀ a b c, tcells (.func a b c) = [.func a b c]) ∧ (∀ v a b, tcells (.fptr v a b) = [.fptr v a b]) ∧ (∀ a b c, tcells (.lptr a b c) = [.lptr a b c]) ∧ (∀ a b c, tcells (.lsl a b c) = [.lsl a b c]) ∧
    (∀ l,isJunk (.agg l) = false) ∧ (∀ x,isJunk (.v x) = false) ∧ (∀ a b,isJunk (.list a b) = false) ∧ (∀ a b c,isJunk (.func a b c) = false) ∧ (∀ v a b,isJunk (.fptr v a b) = false) ∧ (∀ a b c,isJunk (.lptr a b c) = false) ∧ (∀ a b c,isJunk (.lsl a b c) = false) ∧
    (∀ a b,tpick (.v (.bool true)) a b = some a) ∧ (∀ a b,tpick (.v (.bool false)) a b = some b) ∧ (∀ ops tm dst op ty pos aft,twant ops tm { dst:=dst,op:=op,type:=ty,pos:=pos,after:=aft,guard:=none } = some true) ∧ (∀ (c : List TV) o l,tsplice c o l = c.take o ++ l ++ c.drop (o + l.length)) ∧
    (∀ tm,tput tm none = fun _=>tm) :=
  ⟨fun _=>rfl,fun _=>rfl,fun _ _=>rfl,fun _ _ _=>rfl,fun _ _ _=>rfl,fun _ _ _=>rfl,fun _ _ _=>rfl,fun _=>rfl,fun _=>rfl,fun _ _=>rfl,fun _ _ _=>rfl,fun _ _ _=>rfl,fun _ _ _=>rfl,fun _ _ _=>rfl,fun _ _=>rfl,fun _ _=>rfl,fun _ _ _ _ _ _ _=>rfl,fun _ _ _=>rfl,fun _=>rfl⟩
end Go.Rex
namespace Go.Rex
theorem z5 : (∀ r,tidx r 0 = r[0]?) ∧ (∀ r,tidx r 1 = r[1]?) ∧ (∀ r,tidx r 2 = r[2]?) ∧ (∀ r,tidx r 3 = r[3]?) ∧ (∀ r,tidx r 4 = r[4]?) ∧ (∀ r,tidx r 5 = r[5]?) ∧ (∀ r,tidx r 6 = r[6]?) ∧ (∀ r,tidx r 7 = r[7]?) ∧ (∀ r,tidx r 8 = r[8]?) ∧ (∀ r,tidx r 9 = r[9]?):=by
  refine ⟨?_,?_,?_,?_,?_,?_,?_,?_,?_,?_⟩<;>(intro r;rfl)
example : (0 : Int) < ((2 : Nat) : Int):=by simp only [Int.cast_ofNat_Int,Int.reduceLT]
end Go.Rex
namespace Go.Rex
theorem tml {α β : Type} {f : α → β} {xs : List α} : (xs.map f).take xs.length = xs.map f:=List.take_of_length_le (by simp)
end Go.Rex

namespace Go.Rex
open Go.RowKit
section
variable {C : Ctx} {P : Program} {ops : Array Oper} {rest : List Oper} {tm tm2 : List TV} {hp hp2 : List TB} {Q : TS → Prop} {o : Oper}
variable {dst : Option Tmp} {ty : TypeId} {pos : String} {aft : Array Edge} {gd : Option (Nat × Bool)} {p q : TV} {ms : List Nat} {i : Nat} {np : List Nat} {c : Nat}
theorem TX.unroll {b : Code} {s : TS} {Q : Exit → TS → Prop} (hx : TX C P b s (seqT (fun s=>TX C P (.loop b) s Q) Q)) : TX C P (.loop b) s Q:=by
  intro h0 Fz L tm h hs
  obtain ⟨K,e,⟨tm',df'⟩,h',w1,h1,h2,hd,s',F',L',q,g,hs'⟩:=hx h0 Fz L tm h hs
  obtain rfl : df' = []:=hd
  cases e with
  | normal =>
    obtain ⟨K2,e2,a2,h2',w2,k1,k2,kd,s3,F3,L3,q3,g3,hs3⟩:=q h0 F' L' tm' h' hs'
    refine ⟨max K K2 + 1,e2,a2,h2',wmin w1 w2,?_,wge_min h2 k2,kd,s3,F3,L3,q3,g.trans g3,hs3⟩
    simp only [exec]
    rw [exec_le (Nat.le_max_left K K2) h1]
    simp only
    rw [exec_le (Nat.le_max_right K K2) k1]
    rfl
  | _=>exact ⟨K + 1,_,_,h',w1,by simp only [exec,h1],h2,rfl,s',F',L',q,g,hs'⟩
theorem tmlc {α β : Type} {f : α → β} {xs : List α} {n : Nat} (h : xs.length = n) : (xs.map f).take n = xs.map f:=by subst h;exact tml
/-! ### functions of the runtime -/
def extF (P : Program) (g : FuncId) : Option (Array Value → Sem Value) :=
  match P.funcs[g]? with
  | some fd => if fd.body.isNone = true ∧ (fd.name == "runtime.NumGoroutine") = false ∧ (Extern.findNext fd).isNone = true then Extern.find fd else none
  | none=>none
/-! ### floats -/
variable {x y : Operand} {t u : TypeId}
end
end Go.Rex

namespace Go.Rex
open Go.RowKit
section
variable {P : Program} {tm : List TV} {hp : List TB}
variable {dst : Option Tmp} {ty : TypeId} {pos : String} {aft : Array Edge} {gd : Option (Nat × Bool)} {x y : Operand} {t u : TypeId}
/-! ### complex numbers -/
/-! ### structures that are equal -/
theorem prun_isAgg {g : Bool} (h : aggB P t = some g) : prun P (isAgg t) = some g:=by
  unfold aggB at h
  unfold isAgg
  rw [prun_bind]
  split at h
  · rename_i hu;rw [prun_under hu];exact h
  · rename_i hu;rw [prun_under hu];exact h
  · rename_i d h1 h2 hu
    rw [prun_under hu,Option.bind_some]
    obtain rfl:=Option.some.inj h
    split
    · exact absurd rfl (h1 _)
    · exact absurd rfl (h2 _ _)
    · rfl
  · cases h
theorem part_atom {cs : Array Value} {off : Nat} {v : Value} (h : aggB P t = some false) (hg : cs[off]? = some v) : prun P (part t cs off) = some v:=by
  unfold part
  rw [prun_bind,prun_isAgg h,Option.bind_some]
  simp only [Bool.false_eq_true,if_false,hg]
  rfl
theorem eq_int {d : Nat} {k : IntKind} {a b : Int} (ht : P.underlying t = some (.int k)) : prun P (Op.equalIn (d + 1) t (.int k a) (.int k b)) = some (a == b):=by
  unfold Op.equalIn
  rw [prun_bind,prun_under ht]
  simp
  rfl
/-- field by field -/
inductive EqF (P : Program) (d : Nat) (X Y : Array Value) : List Field → List Bool → Prop
  | nil : EqF P d X Y [] []
  | cons {f : Field} {fs : List Field} {b : Bool} {bs : List Bool} {u v : Value} (hn : f.name ≠ "_") (hu : prun P (part f.type X f.offset) = some u) (hv : prun P (part f.type Y f.offset) = some v) (he : prun P (Op.equalIn d f.type u v) = some b) (hr : EqF P d X Y fs bs) : EqF P d X Y (f :: fs) (b :: bs)
theorem eq_loop {d : Nat} {X Y : Array Value} : ∀ (fs : List Field) (bs : List Bool), EqF P d X Y fs bs →
    prun P (forIn fs ((none, ()) : Option Bool × Unit) fun f _ => if f.name ≠ "_" then do
      if !(← Op.equalIn d f.type (← part f.type X f.offset) (← part f.type Y f.offset)) then pure (.done (some false,())) else pure (.yield (none,()))
      else pure (.yield (none,()))) = some (if bs.all id then (none,()) else (some false,()))
  | [],[],.nil=>rfl
  | f :: fs,b :: bs,.cons hn hu hv he hr=>by
    rw [List.forIn_cons,prun_bind]
    simp only [hn,ne_eq,not_false_eq_true,if_true]
    rw [prun_bind,hu,Option.bind_some,prun_bind,hv,Option.bind_some,prun_bind,he,Option.bind_some]
    cases b with
    | false=>rfl
    | true =>
      simp only [Bool.not_true,Bool.false_eq_true,if_false,prun_pure,Option.bind_some,List.all_cons,id,Bool.true_and]
      exact eq_loop fs bs hr
theorem eq_struct {d : Nat} {fields : Array Field} {X Y : Array Value} {bs : List Bool} (ht : P.underlying t = some (.struct fields)) (hs : P.stoodInHeld t = false) (hf : EqF P d X Y fields.toList bs) : prun P (Op.equalIn (d + 1) t (.agg X) (.agg Y)) = some (bs.all id):=by
  unfold Op.equalIn
  rw [prun_bind,prun_under ht]
  simp only [Option.bind_some]
  rw [prun_bind,show prun P program = some P from rfl,Option.bind_some]
  simp only [hs,Bool.false_eq_true,if_false]
  have:=eq_loop fields.toList bs hf
  rw [prun_bind,← Array.forIn_toList,this,Option.bind_some]
  cases bs.all id<;>rfl
theorem eq_guard {b : BinOp} {X Y : Array Value} (hg : P.eqGuardType P.depth t = false) : prun P (eqGuard b t x y (.agg X) (.agg Y)) = some ():=by
  unfold eqGuard
  cases b<;>first|rfl|(simp only [Bool.not_true,Bool.false_eq_true,if_false];rw [prun_bind,show prun P program = some P from rfl,Option.bind_some,prun_bind,show prun P program = some P from rfl,Option.bind_some];simp only [hg,Bool.not_false,if_true];rfl)
theorem eq_top {a b : Value} {r : Bool} (h : prun P (Op.equalIn (9999 + 1) t a b) = some r) : prun P (Op.equal t a b) = some r:=h
theorem pop_eqs {b : BinOp} {p q : TV} {X Y : Array Value} {r : Bool} (h : tev tm x = p) (g : tev tm y = q) (hX : er 3 p = some (.agg X)) (hY : er 3 q = some (.agg Y)) (cX : isClean (.agg X) = true) (cY : isClean (.agg Y) = true) (hn : tbin b p q = none) (hg : P.eqGuardType P.depth t = false)
    (he : prun P (Op.equal t (.agg X) (.agg Y)) = some r) (hb : b = .eql ∨ b = .neq) :
    tpop P hp tm { dst:=dst,op:=.binOp b t x y u,type:=ty,pos:=pos,after:=aft,guard:=gd } = some (.v (.bool (if b = .eql then r else !r))):=by
  have ex : erased tm x = .agg X:=by unfold erased;rw [h,hX];rfl
  have ey : erased tm y = .agg Y:=by unfold erased;rw [g,hY];rfl
  have sx : (er 3 (tev tm x)).isSome = true:=by rw [h,hX];rfl
  have sy : (er 3 (tev tm y)).isSome = true:=by rw [g,hY];rfl
  have h1 : tgen P tm { dst:=dst,op:=.binOp b t x y u,type:=ty,pos:=pos,after:=aft,guard:=gd } = some (inj 3 (.bool (if b = .eql then r else !r))):=by
    refine tgen_run ?_ (fun cs b e=>by cases e) (by simpa [Op.operands] using ⟨sx,sy⟩) (by simpa [Op.operands,ex,ey] using ⟨cX,cY⟩) ?_ rfl rfl
    · simp only [Rex.pop,ex,ey]
      rcases hb with rfl|rfl<;>rfl
    · show prun P ((eqGuard b t x y (erased tm x) (erased tm y) >>= fun _=>binOp b t (erased tm x) (erased tm y)) >>= fun r=>(pure (Next.value r) : Sem Next)) = _
      rw [prun_bind,ex,ey,prun_bind,eq_guard hg,Option.bind_some]
      rcases hb with rfl|rfl
      · simp only [binOp,if_true]
        rw [prun_bind,he]
        rfl
      · simp only [binOp]
        rw [prun_bind,he]
        rfl
  simp only [tpop,h,g,hn,orT]
  exact h1
theorem pop_eqs1 {b : BinOp} {p q : TV} {X Y : Array Value} {r : Bool} (h : tev tm x = p) (g : tev tm y = q) (hX : er 3 p = some (.agg X)) (hY : er 3 q = some (.agg Y)) (cX : isClean (.agg X) = true) (cY : isClean (.agg Y) = true) (hn : tbin b p q = none) (hg : P.eqGuardType P.depth t = false)
    (he : prun P (Op.equal t (.agg X) (.agg Y)) = some r) (hb : b = .eql) :
    tpop P hp tm { dst:=dst,op:=.binOp b t x y u,type:=ty,pos:=pos,after:=aft,guard:=gd } = some (.v (.bool r)):=by
  subst hb
  exact pop_eqs h g hX hY cX cY hn hg he (.inl rfl)
theorem pop_eqs2 {b : BinOp} {p q : TV} {X Y : Array Value} {r : Bool} (h : tev tm x = p) (g : tev tm y = q) (hX : er 3 p = some (.agg X)) (hY : er 3 q = some (.agg Y)) (cX : isClean (.agg X) = true) (cY : isClean (.agg Y) = true) (hn : tbin b p q = none) (hg : P.eqGuardType P.depth t = false)
    (he : prun P (Op.equal t (.agg X) (.agg Y)) = some r) (hb : b = .neq) :
    tpop P hp tm { dst:=dst,op:=.binOp b t x y u,type:=ty,pos:=pos,after:=aft,guard:=gd } = some (.v (.bool (!r))):=by
  subst hb
  exact pop_eqs h g hX hY cX cY hn hg he (.inr rfl)
end
end Go.Rex

namespace Go.Rex
open Go.RowKit
/-! ### short names for the walks -/
class Mv (p : Prop) (q : outParam Prop) : Prop where
  mv : q → p
theorem mv {p q : Prop} [i : Mv p q] (h : q) : p:=i.mv h
section
variable {C : Ctx} {P : Program} {s : TS} {Q : Exit → TS → Prop} {next : TS → Prop}
instance {x y : Code} : Mv (TX C P (.seq x y) s Q) (TX C P x s (seqT (fun s=>TX C P y s Q) Q)):=⟨TX.seq⟩
instance {id : Nat} {b : Code} : Mv (TX C P (.block id b) s Q) (TX C P b s (blockT id Q)):=⟨TX.block⟩
instance : Mv (TX C P .skip s Q) (Q .normal s):=⟨TX.skip⟩
instance {id : Nat} : Mv (TX C P (.exit id) s Q) (Q (.exit id) s):=⟨TX.exit⟩
instance : Mv (TX C P .ret s Q) (Q .ret s):=⟨TX.ret⟩
instance : Mv (seqT next Q .normal s) (next s):=⟨seqT_n⟩
instance {id : Nat} : Mv (seqT next Q (.exit id) s) (Q (.exit id) s):=⟨seqT_e⟩
instance : Mv (seqT next Q .ret s) (Q .ret s):=⟨seqT_r⟩
instance {id : Nat} : Mv (blockT id Q .normal s) (Q .normal s):=⟨blockT_n⟩
instance {id : Nat} : Mv (blockT id Q .ret s) (Q .ret s):=⟨blockT_r⟩
instance {id : Nat} : Mv (blockT id Q (.exit id) s) (Q .normal s):=⟨blockT_e⟩
end
def m12:=@blockT_ne
theorem k1 {a : Bool} (h : a = true) : a = true:=h
theorem k2 {a : Option Bool} (h : a = some true) : a = some true:=h
def an {p q : Prop}:=@And.intro p q
def z6:=And.intro @List.toList_toArray.{0} <| And.intro @ite_true.{1} <| And.intro @ite_false.{1} <| And.intro @true_and <| And.intro @and_true <| And.intro @and_self <| And.intro @Bool.false_eq_true <| And.intro @decide_true @decide_false
def z7:=And.intro @List.getElem?_toArray.{0} <| And.intro @List.getElem?_cons_succ.{0} <| And.intro @List.getElem?_cons_zero.{0} @Option.bind_some.{0,0}
def zy:=And.intro z1 <| And.intro z2 z3
def zz:=And.intro z1 <| And.intro z2 <| And.intro z3 <| And.intro z4 z6
theorem wr {tm tm' : List TV} {hp hp' : List TB} (fl : List (Option Nat)) (hok : renOk fl = true) (hB : RB fl hp hp' fl) (hT : RNs fl tm tm':=by (repeat (first|exact RNs.nil|refine RNs.cons .junk ?_|refine RNs.cons (.keep rfl rfl) ?_|refine RNs.cons (.lsl rfl rfl) ?_|refine RNs.cons (.lsl rfl (by simp only [List.length_set])) ?_|refine RNs.cons (.lptr rfl) ?_|refine RNs.cons (.nil rfl) ?_|refine RNs.cons .nl ?_|refine RNs.cons (.tuple' ?_) ?_|refine RNs.cons (.agg' ?_) ?_))) : Wk ⟨tm,hp⟩ ⟨tm',hp'⟩:=Wk.ren fl hok hB hT
/-! ### a slice of a whole array that is not written again -/
section
variable {C : Ctx} {P : Program} {ops : Array Oper} {rest : List Oper} {tm tm2 : List TV} {hp : List TB} {Q : TS → Prop}
variable {dst : Option Tmp} {ty : TypeId} {pos : String} {aft : Array Edge} {gd : Option (Nat × Bool)} {ms : List Nat} {i : Nat} {np : List Nat} {c : Nat}
/-! ### a literal as a list;a place of an array value -/
theorem bmG {α : Type} {f : α → List TV} {xs : List α} {t : TypeId} {n es : Nat} {ps : Array (Nat × Operand)} {l : List (Nat × TV)} {rows : List (List TV)} (hx : ps.toList.map (fun q => (q.1, tev tm q.2)) = l) (hv : tslice P t n l = some (es, rows)) (hr : rows = xs.map f) :
    OpG C P { dst:=dst,op:=.buildSlice t n ps,type:=ty,pos:=pos,after:=aft,guard:=gd } ⟨tm,hp⟩ ⟨tput tm dst (.list es (xs.map f)),hp⟩:=by
  subst hr
  exact OpG.buildSlice (s:=⟨tm,hp⟩) (by simp only [hx];exact hv)
theorem TO.bm {α : Type} (f : α → List TV) (xs : List α) {t : TypeId} {n es : Nat} {ps : Array (Nat × Operand)} {l : List (Nat × TV)} {rows : List (List TV)} (hw : twant ops tm { dst := dst, op := .buildSlice t n ps, type := ty, pos := pos, after := aft, guard := gd } = some true) (hx : ps.toList.map (fun q => (q.1, tev tm q.2)) = l) (hv : tslice P t n l = some (es, rows)) (hr : rows = xs.map f)
    (ht : tput tm dst (.list es (xs.map f)) = tm2) (hq : TO C P ops rest ⟨tm2,hp⟩ Q) : TO C P ops ({ dst:=dst,op:=.buildSlice t n ps,type:=ty,pos:=pos,after:=aft,guard:=gd } :: rest) ⟨tm,hp⟩ Q:=by
  subst ht;exact TO.g hw (bmG hx hv hr) hq
end
end Go.Rex

namespace Go.Rex
open Go.RowKit
/-! ### a list of one's own is frozen at a loop's end;a store at any index of an array of ints -/
section
variable {C : Ctx} {P : Program} {ops : Array Oper} {rest : List Oper} {tm tm2 : List TV} {hp hp2 : List TB} {Q : TS → Prop} {o : Oper}
variable {dst : Option Tmp} {ty : TypeId} {pos : String} {aft : Array Edge} {gd : Option (Nat × Bool)} {p q : TV} {ms : List Nat} {i : Nat} {np : List Nat} {c : Nat}
end
/-! ### arrays that are compared -/
theorem part_agg {P : Program} {t : TypeId} {cs : Array Value} {off n : Nat} {v : Value} (h : aggB P t = some true) (hs : prun P (sizeOf t) = some n) (hg : Value.agg (cs.extract off (off + n)) = v) : prun P (part t cs off) = some v:=by
  subst hg
  unfold part
  rw [prun_bind,prun_isAgg h,Option.bind_some]
  simp only [if_true]
  rw [prun_bind,hs,Option.bind_some]
  rfl
inductive EqI (P : Program) (d : Nat) (X Y : Array Value) (e n : Nat) : Nat → List Bool → Prop
  | nil (i : Nat) : EqI P d X Y e n i []
  | cons {i : Nat} {b : Bool} {bs : List Bool} {u v : Value} (hu : prun P (part e X (i * n)) = some u) (hv : prun P (part e Y (i * n)) = some v) (he : prun P (Op.equalIn d e u v) = some b) (hr : EqI P d X Y e n (i + 1) bs) : EqI P d X Y e n i (b :: bs)
theorem eqi_loop {P : Program} {d : Nat} {X Y : Array Value} {e n : Nat} : ∀ (bs : List Bool) (i : Nat), EqI P d X Y e n i bs →
    prun P (forIn (List.range' i bs.length 1) ((none,()) : Option Bool × Unit) fun i _=>do
      if !(← Op.equalIn d e (← part e X (i * n)) (← part e Y (i * n))) then pure (.done (some false,())) else pure (.yield (none,()))) = some (if bs.all id then (none,()) else (some false,()))
  | [],_,_=>rfl
  | b :: bs,i,.cons hu hv he hr=>by
    rw [List.length_cons,List.range'_succ,List.forIn_cons,prun_bind]
    rw [prun_bind,hu,Option.bind_some,prun_bind,hv,Option.bind_some,prun_bind,he,Option.bind_some]
    cases b with
    | false=>rfl
    | true =>
      simp only [Bool.not_true,Bool.false_eq_true,if_false,prun_pure,Option.bind_some,List.all_cons,id,Bool.true_and]
      exact eqi_loop bs (i + 1) hr
theorem eq_array {P : Program} {t : TypeId} {d len e n : Nat} {X Y : Array Value} {bs : List Bool} (ht : P.underlying t = some (.array len e)) (hs : prun P (sizeOf e) = some n) (hf : EqI P d X Y e n 0 bs) (hl : bs.length = len) : prun P (Op.equalIn (d + 1) t (.agg X) (.agg Y)) = some (bs.all id):=by
  subst hl
  unfold Op.equalIn
  rw [prun_bind,prun_under ht]
  simp only [Option.bind_some]
  rw [prun_bind,hs,Option.bind_some]
  simp only [Std.Legacy.Range.forIn_eq_forIn_range',Std.Legacy.Range.size,Nat.sub_zero,Nat.add_sub_cancel,Nat.div_one]
  rw [prun_bind,eqi_loop bs 0 hf,Option.bind_some]
  cases bs.all id<;>rfl
/-! ### a byte of a text -/
section
variable {P : Program} {tm : List TV} {hp : List TB} {dst : Option Tmp} {ty : TypeId} {pos : String} {aft : Array Edge} {gd : Option (Nat × Bool)}
end
end Go.Rex

namespace Go.Rex
open Go.RowKit
/-! ### code without ranges over functions: neither the marks nor the range around it matter -/
end Go.Rex

namespace Go.Rex
open Go.RowKit
/-! ### marks are kept by all that runs above them -/
def Keeps (h h' : List Blk) : Prop:=h.length ≤ h'.length ∧ ∀ m : Nat,h[m]? = some Blk.dfr → h'[m]? = some Blk.dfr
section
variable {P : Program} {C : Ctx}
structure CKeeps (C : Ctx) : Prop where
  call : ∀ {f args h v h' w},C.call f args h = some (v,h',w) → Keeps h h'
  round : ∀ {l args h v h' w},C.round l args h = some (v,h',w) → Keeps h h'
end
end Go.Rex

namespace Go.Rex
open Go.RowKit
/-! ### code with marks: what stands behind a range over a function -/
section
variable {Fz Fz' : Nat → Prop} {h0 h h' : List Blk} {L : Nat → LI} {s s' : TS} {tm : List Value}
end
section
variable {C : Ctx} {P : Program} {s s' : TS} {Q Q' : Exit → TS → Prop}
end
end Go.Rex

namespace Go.Rex
open Go.RowKit
/-! ### bodies of iterators: code that calls back,and owns nothing while it does -/
/-- what stands outside: 'R x Fz h': the state is x, what is frozen is Fz -/
structure Out (X : Type) where
  lo : Nat
  base : Nat
  R : X → (Nat → Prop) → List Blk → Prop
  hlo : lo ≤ base
  stay : ∀ {x : X} {Fz Fz' : Nat → Prop} {h h' : List Blk},R x Fz h → Ext h h' → Grow h Fz Fz' h h' → (∀ n,Fz' n → n < h'.length) → R x Fz' h'
section
variable {E X : Type} {C : Ctx} {P : Program} {O : Out X}
variable {tm tm' : List TV} {s s' : TS} {x : X} {Q Q' : Exit → List TV → X → Prop} {c : Code}
/-! ### a region with a call back -/
/-- the operation that calls back -/
structure Back (o : Oper) (f : Operand) (args : List Operand) (dst : Option Tmp) : Prop where
  eq : ∃ (tys : Array TypeId) (ty : TypeId) (pos : String) (aft : Array Edge) (gd : Option (Nat × Bool)),o = { dst:=dst,op:=.call { callee:=.value f,args:=⟨args⟩,argTypes:=tys },type:=ty,pos:=pos,after:=aft,guard:=gd }
section
variable {nexty : List TV → X → Prop}
end
/-! ### the contract of an iterator's body -/
end
end Go.Rex

namespace Go.Rex
open Go.RowKit
/-! ### which slots code writes -/
section
variable {P : Program} {C : Ctx}
end
end Go.Rex

namespace Go.Rex
open Go.RowKit
/-! ### a range over a function,from outside -/
section
variable {Fz Fz' : Nat → Prop} {h0 h h' : List Blk} {L : Nat → LI} {s s' : TS} {tm : List Value}
end
section
variable {P : Program}
variable {s : TS} {Q : Exit → TS → Prop}
end
end Go.Rex

namespace Go.Rex
open Go.RowKit
section
variable {C : Ctx} {P : Program} {tm tm2 : List TV} {hp : List TB} {ops : Array Oper} {rest : List Oper} {Q : TS → Prop}
variable {dst : Option Tmp} {ty : TypeId} {pos : String} {aft : Array Edge} {gd : Option (Nat × Bool)} {x y : Operand} {t u : TypeId}
/-! ### further operations -/
/-! ### == nil on a slice -/
open Classical in
noncomputable def nilq {α β : Type} (xs : List α) (a b : Option β) : Option β:=if xs = [] then (if a = b then b else none) else b
end
end Go.Rex

namespace Go.Rex
open Go.RowKit
section
variable {C : Ctx} {P : Program} {Fz : Nat → Prop} {h h0 : List Blk} {L : Nat → LI} {s : TS} {tm : List Value}
variable {dst : Option Tmp} {ty : TypeId} {pos : String} {aft : Array Edge} {gd : Option (Nat × Bool)}

end

/-! ### as they are used -/
section
variable {C : Ctx} {P : Program} {ops : Array Oper} {rest : List Oper} {tm tm2 : List TV} {hp hp2 : List TB} {Q : TS → Prop} {o : Oper}
variable {dst : Option Tmp} {ty : TypeId} {pos : String} {aft : Array Edge} {gd : Option (Nat × Bool)} {p q : TV} {ms : List Nat} {i : Nat} {np : List Nat} {c : Nat}
end
section
variable {C : Ctx} {P : Program} {tm tm2 : List TV} {hp hp2 : List TB} {Q : Exit → TS → Prop} {c : Code}
end
end Go.Rex

namespace Go.Rex
open Go.RowKit

/-! ### an executor that knows what one function returns -/
def ctxO (P : Program) (g : FuncId) (res : List Blk → Value × List Blk) (k : Nat) : Nat → Ctx
  | 0=>⟨fun _ _ _=>none,fun _ _ _=>none⟩
  | d + 1=>⟨fun f args h=>if f = g then (match args with|[]=>some ((res h).1,(res h).2,none)|_=>none) else runCall (ctxO P g res k d) P k f args h,runRound (ctxO P g res k d) P k⟩
def ResOk (P : Program) (g : FuncId) (res : List Blk → Value × List Blk) : Prop :=
  ∀ (h : List Blk) (B lo : Nat) (D : Nat → Prop) (m : NMap) (w : World),Rel B lo D m h w → lo ≤ h.length → Calls P g ⟨[]⟩ w (Good B lo D m h w (res h).1 (res h).2)
theorem ctxO_ok {P : Program} (hm : P.follows .mixedOrders = true) {g : FuncId} {res : List Blk → Value × List Blk} (hres : ResOk P g res) (k : Nat) : ∀ d,CtxOk P (ctxO P g res k d)
  | 0=>⟨fun h=>by simp [ctxO] at h,fun h=>by simp [ctxO] at h⟩
  | d + 1 =>
    have hD : DrawSound P (ctxO P g res k d):=fun {_ _ _ _ _ _ _} hv {_ _ _ _ _ _ _ _ _} hr hlo hA hw hQ=>drawSound (ctxO_ok hm hres k d) hm hv hr hlo hA hw hQ
    ⟨fun {f args h v h' wr} hv {B lo D m w args'} hr hlo hw hargs=>by
      simp only [ctxO] at hv
      split at hv
      · rename_i hf
        subst hf
        split at hv
        · obtain ⟨rfl,rfl,rfl⟩ : (res h).1 = v ∧ (res h).2 = h' ∧ none = wr:=by simpa using hv
          obtain rfl : args' = []:=by have:=hargs.len;simpa using this
          exact hres _ _ _ _ _ _ hr hlo
        · cases hv
      · exact runCall_sound (ctxO_ok hm hres k d) hD hv hr hlo hw hargs,fun h=>runRound_sound (ctxO_ok hm hres k d) hD h⟩
def ecallO (P : Program) (g : FuncId) (res : List Blk → Value × List Blk) (k d : Nat) (f : FuncId) (args : List Value) (h : List Blk) : AOut:=(ctxO P g res k d).call f args h
theorem awT_of_ecallO {P : Program} (hm : P.follows .mixedOrders = true) {g : FuncId} {res : List Blk → Value × List Blk} (hres : ResOk P g res) {k d : Nat} {f : FuncId} (hv : isTrue (ecallO P g res k d f [] GH) = true) : AwT P f:=by
  intro w hgw hgs
  unfold isTrue at hv
  split at hv
  · rename_i h' hx
    refine ((ctxO_ok hm hres k d).call hx (Rel.start w hgw hgs) (Nat.le_refl _) (fun n h=>by cases h) VRs.nil).mono ?_
    rintro e w' ⟨v',m',rfl,hp,hvr⟩
    cases hvr
    exact ⟨rfl,hp.below⟩
  · cases hv
end Go.Rex

namespace Go.Rex
open Go.RowKit
/-! ### what an execution does not say to have written is as it was -/
def Olds (h h' : List Blk) (w : Option Nat) : Prop:=h.length ≤ h'.length ∧ ∀ m : Nat,m < h.length → wge w (m + 1) = true → h'[m]? = h[m]?
section
variable {P : Program} {C : Ctx}
structure COlds (C : Ctx) : Prop where
  call : ∀ {f args h v h' w},C.call f args h = some (v,h',w) → Olds h h' w
  round : ∀ {l args h v h' w},C.round l args h = some (v,h',w) → Olds h h' w
end
end Go.Rex

namespace Go.Rex
open Go.RowKit
section
variable {C : Ctx} {P : Program} {h0 h h' : List Blk} {Fz Fz' : Nat → Prop} {L L' : Nat → LI} {s s' : TS} {tm : List Value}
end
end Go.Rex

namespace Go.Rex
open Go.RowKit
section
variable {C : Ctx} {P : Program} {h0 h h' : List Blk} {Fz Fz' : Nat → Prop} {L L' : Nat → LI} {s s' : TS} {tm : List Value} {dst : Option Tmp} {ty : TypeId} {pos : String} {aft : Array Edge} {gd : Option (Nat × Bool)}
variable {ops : Array Oper} {o : Oper} {rest : List Oper} {Q : TS → Prop} {ms : List Nat} {i : Nat} {np : List Nat} {c : Nat} {tv tv2 : List TV} {hp hp2 : List TB}
/-! ### a law: it may call f,which is true -/
end
end Go.Rex

namespace Go.Rex
open Go.RowKit
section
variable {C : Ctx} {P : Program} {s s' : TS} {dst : Option Tmp} {ty : TypeId} {pos : String} {aft : Array Edge} {gd : Option (Nat × Bool)}
/-- a list that was written has the length that it had -/
noncomputable def lenAs {α : Type} (a b : List α) : List α:=if b.length = a.length then b else a
/-- lists, in pairs: before and behind the call -/
inductive Pair : List TB → List TB → List TB → Prop
  | nil : Pair [] [] []
  | cons {es : Nat} {α : Type} {f : α → List TV} {a b : List α} {B B' B2 : List TB} (h : Pair B B' B2) : Pair (.rows es (a.map f) :: B) (.rows es (b.map f) :: B') (.rows es ((lenAs a b).map f) :: B2)
variable {ops : Array Oper} {o : Oper} {rest : List Oper} {Q : TS → Prop} {ms : List Nat} {i : Nat} {np : List Nat} {c : Nat} {tv tv2 : List TV} {hp hp2 : List TB}
end
end Go.Rex

namespace Go.Rex
/-! ### max and min of three -/
section
variable {P : Program} {tm : List TV} {hp : List TB} {dst : Option Tmp} {ty : TypeId} {pos : String} {aft : Array Edge} {gd : Option (Nat × Bool)} {x y z : Operand} {tys : List TypeId}
end
end Go.Rex
