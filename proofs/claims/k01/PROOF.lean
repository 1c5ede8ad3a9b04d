import PyProof.Rows.All
import Wide.All
import OpenK.AllK
import Wide.FinOn
import HandS.ForMost
import HandS.EndBits
import HandS.Wide
import HandS.WideBits
import HandS.Style
import HandS.IsInst
import HandS.TupAny
import HandS.OwnEq
import HandS.Evl
import HandS.Exc
import HandS.WordsExc
import HandS.Walk
import HandS.ExcInit
import HandS.ExcIs
import HandS.ExcField
import HandS.MakeKw
import HandS.FStr
import KE.KExcInit
import HandS.ClsMeth
import HandS.FStrTup
import PyProof.FString5
import PyProof.StrHeap
import PySem.Challenge.RW_silentslips_k01_errors
set_option Elab.async false
set_option linter.all false
set_option maxRecDepth 100000
set_option maxHeartbeats 4000000
namespace Ss
open PySem L2
/-! ### defs by name -/
/-- the def st of the module stands under the name x -/
structure DefAt (K : PySem.W.Frag) (mg : Str → Option Value) (x : Str) (st : Stmt) : Prop where
  ex : ∃ (f : Addr) (fd : FuncData), Fun K x x st f fd ∧ mg x = some (.ref f)
/-- the module's def x keeps the promise sp, at most level k -/
structure Dk (P : Program) (w : World) (K : PySem.W.Frag) (mg : Str → Option Value) (base : Heap) (CX : CXT) (k : Nat) (x : Str) (ps : List Str) (sp : Sp) : Prop where
  ex : ∃ (f : Addr) (fd : FuncData), FnOk P w K mg base CX k f fd ps sp ∧ mg x = some (.ref f) ∧ PySem.W.keepIn K (.ref f) = true ∧ Binds K fd ps []
/-- the method st of the class at C -/
structure MethAt (K : PySem.W.Frag) (C : Addr) (m qual : Str) (st : Stmt) : Prop where
  ex : ∃ (f : Addr) (fd : FuncData), Fun K m qual st f fd ∧ Meth K C m f
structure Mm (P : Program) (w : World) (K : PySem.W.Frag) (mg : Str → Option Value) (base : Heap) (CX : CXT) (C : Addr) (k : Nat) (m : Str) (ps : List Str) (sp : Sp) : Prop where
  ex : ∃ (f : Addr) (fd : FuncData), FnOk P w K mg base CX k f fd ps sp ∧ Meth K C m f ∧ Binds K fd ps []
theorem def_at {K : PySem.W.Frag} {h : Heap} {mg : Str → Option Value} {x : Str} {st : Stmt} {f : Addr} {oc : Value} {od an : Option Addr} {osl : Array (Option Value)} {kV doc pm cdv ct : Value} (X : K.In h) (G : h.Ns mainGlobals mg)
    (a : PySem.W.nsIn K mainGlobals x = some (some (.ref f))) (l : K.lookup f = some ⟨oc, od, .func (PySem.W.fnOf x x (defArgs st) (defBody st) (defScope st) .none kV doc pm an cdv ct), osl⟩)
    (c : PySem.W.codeIn K cdv x = true) (k : PySem.W.keepIn K (.ref f) = true) : DefAt K mg x st := ⟨f, _, fun_mk l c k, PySem.W.mg_of X G a⟩
theorem meth_at {K : PySem.W.Frag} {C : Addr} {m qual : Str} {st : Stmt} {f : Addr} {oc : Value} {od an : Option Addr} {osl : Array (Option Value)} {kV doc pm cdv ct : Value}
    (a : PySem.W.findIn K (.ref C) m = some (some (.ref f))) (i : PySem.W.isFn K (.ref f) = true) (l : K.lookup f = some ⟨oc, od, .func (PySem.W.fnOf m qual (defArgs st) (defBody st) (defScope st) .none kV doc pm an cdv ct), osl⟩)
    (c : PySem.W.codeIn K cdv qual = true) (k : PySem.W.keepIn K (.ref f) = true) : MethAt K C m qual st := ⟨f, _, fun_mk l c k, a, i, k⟩
section
variable {X : Cx} {CX : CXT} {k j : Nat} {C : Addr} {ps : List Str} {sp : Sp} {E : XK} {x m : Str} {p pos apos : Pos} {e o : Expr} {es : List Expr} {ta : TE} {t : TA}
/-- x(e, ..) of a def that keeps sp -/
theorem pe_cd (D : Dk X.prog X.w X.K X.mg X.base CX k x ps sp) (hr : Room j X.A) (hx : Passes CX X E) (ha : PA X (e :: es) t) (hk : k ≤ j := by decide) (hg : Gl X x := by rfl) (hdb : (x == ("__debug__" : Str)) = false := by decide)
    (he : starEach (e :: es) X.env = (false, eval e X.env) :: starEach es X.env := by rfl) (hpl : (backTo pos (starEach es X.env)).any (·.1) = false := by rfl) : PE X (.Call (.Name x p) (e :: es) [] pos) (tCall sp [] E t) := by
  obtain ⟨f, fd, F, mf, kp, b⟩ := D.ex
  exact pe_call F (hr.mono hk) hg mf kp b .nil hx ha hdb he hpl
theorem pe_cd0 (D : Dk X.prog X.w X.K X.mg X.base CX k x ps sp) (hr : Room j X.A) (hx : Passes CX X E) (hk : k ≤ j := by decide) (hg : Gl X x := by rfl) (hdb : (x == ("__debug__" : Str)) = false := by decide) :
    PE X (.Call (.Name x p) [] [] pos) (tCall sp [] E tNil) := by
  obtain ⟨f, fd, F, mf, kp, b⟩ := D.ex
  exact pe_call0 F (hr.mono hk) hg mf kp b .nil hx hdb
/-- o.m(e, ..) -/
theorem pe_md {pl : Sem Bool} (he : PE X o ta) (c : Cls X.K C) (D : Mm X.prog X.w X.K X.mg X.base CX C k m ps sp) (hr : Room j X.A) (hx : Passes CX X E) (ha : PA X (e :: es) t) (hk : k ≤ j := by decide)
    (hst : starEach (e :: es) X.env = (false, eval e X.env) :: starEach es X.env := by rfl) (hpl : (backTo pos (starEach es X.env)).any (·.1) = false := by rfl)
    (ht : eval (.Call (.Attribute o m apos) (e :: es) [] pos) X.env = (do
      let ov ← eval o X.env
      standAt apos.atName
      let (f, first) ← holding [ov] (getMethod ov m pl)
      callWith pos f first (backTo pos (starEach (e :: es) X.env)) (backToKw pos (keywordEach [] X.env))) := by rfl) :
    PE X (.Call (.Attribute o m apos) (e :: es) [] pos) (tMeth C m sp [] E ta t) := by
  obtain ⟨f, fd, F, mf, b⟩ := D.ex
  exact pe_meth he c mf F (hr.mono hk) b .nil hx ha hst hpl ht
theorem pe_md0 {pl : Sem Bool} (he : PE X o ta) (c : Cls X.K C) (D : Mm X.prog X.w X.K X.mg X.base CX C k m ps sp) (hr : Room j X.A) (hx : Passes CX X E) (hk : k ≤ j := by decide)
    (ht : eval (.Call (.Attribute o m apos) [] [] pos) X.env = (do
      let ov ← eval o X.env
      standAt apos.atName
      let (f, first) ← holding [ov] (getMethod ov m pl)
      callWith pos f first (backTo pos (starEach [] X.env)) (backToKw pos (keywordEach [] X.env))) := by rfl) :
    PE X (.Call (.Attribute o m apos) [] [] pos) (tMeth C m sp [] E ta tNil) := by
  obtain ⟨f, fd, F, mf, b⟩ := D.ex
  exact pe_meth0 he c mf F (hr.mono hk) b .nil hx ht
end
/-- all that stood at other places than b stands -/
def Off (b : Addr) (H H' : Hp) : Prop := ∀ a o, a ≠ b → H a = some o → H' a = some o
theorem Off.refl (b : Addr) (H : Hp) : Off b H H := fun _ _ _ h => h
theorem Off.trans {b : Addr} {H H1 H2 : Hp} (x : Off b H H1) (y : Off b H1 H2) : Off b H H2 := fun a o n h => y a o n (x a o n h)
theorem Off.upd {b : Addr} {H H1 : Hp} {o : HO} (x : Off b H H1) : Off b H (L2.upd H1 b o) := fun a u n h => by
  rw [upd_ne n]; exact x a u n h
theorem Off.new {b p : Addr} {H H1 : Hp} {o : HO} (x : Off b H H1) (hp : H1 p = none) : Off b H (L2.upd H1 p o) := fun a u n h => by
  rw [upd_ne (ne_of_none (x a u n h) hp)]; exact x a u n h
theorem Off.of {b : Addr} {H H' : Hp} (x : Same H H') : Off b H H' := fun a o _ h => x a o h
theorem Same.new {H H1 : Hp} {p : Addr} {o : HO} (x : Same H H1) (hp : H1 p = none) : Same H (L2.upd H1 p o) := fun a u h => by
  rw [upd_ne (ne_of_none (x a u h) hp)]; exact x a u h
theorem Off.seq {K : PySem.W.Frag} {H H' : Hp} {a b : Addr} {xs : List V} (e : Off b H H') (n : a ≠ b) (h : SqL K H a xs) : SqL K H' a xs := by
  rcases h with (h | ⟨o, h⟩) | h
  · exact .inl (.inl (e _ _ n h))
  · exact .inl (.inr ⟨o, e _ _ n h⟩)
  · exact .inr h
theorem Off.tup {K : PySem.W.Frag} {H H' : Hp} {a b : Addr} {xs : List V} (e : Off b H H') (n : a ≠ b) (h : SqT K H a xs) : SqT K H' a xs := by
  rcases h with (h | ⟨o, h⟩) | h
  · exact .inl (.inl (e _ _ n h))
  · exact .inl (.inr ⟨o, e _ _ n h⟩)
  · exact .inr h
abbrev MB : Int := 11529215047000000000
/-- dice at b, asked at most n times -/
def Bag (H : Hp) (b : Addr) (n : Nat) : Prop := ∃ d m c : Int, H b = some (.lst [.int d, .int m, .int c]) ∧ 0 ≤ d ∧ 0 ≤ m ∧ m < MB ∧ 0 ≤ c ∧ c ≤ n
theorem Bag.mono {H : Hp} {b : Addr} {n k : Nat} (h : Bag H b n) (hk : n ≤ k) : Bag H b k := by
  obtain ⟨d, m, c, h1, h2, h3, h4, h5, h6⟩ := h
  exact ⟨d, m, c, h1, h2, h3, h4, h5, by omega⟩
theorem Bag.same {H H' : Hp} {b : Addr} {n : Nat} (h : Bag H b n) (s : Same H H') : Bag H' b n := by
  obtain ⟨d, m, c, h1, r⟩ := h
  exact ⟨d, m, c, s _ _ h1, r⟩
theorem Bag.new {H : Hp} {b p : Addr} {n : Nat} {o : HO} (h : Bag H b n) (hp : H p = none) : Bag (upd H p o) b n := by
  obtain ⟨d, m, c, h1, r⟩ := h
  exact ⟨d, m, c, by rw [upd_ne (ne_of_none h1 hp)]; exact h1, r⟩
theorem Bag.ne {H : Hp} {b p : Addr} {n : Nat} (h : Bag H b n) (hp : H p = none) : b ≠ p := by
  obtain ⟨d, m, c, h1, r⟩ := h
  exact ne_of_none h1 hp
/-- the names of the built-ins are the built-ins' -/
structure G0 (mg : Str → Option Value) : Prop where
  len : mg "len" = none
  abs : mg "abs" = none
  int : mg "int" = none
  range : mg "range" = none
  tuple : mg "tuple" = none
  list : mg "list" = none
  str : mg "str" = none
  isinstance : mg "isinstance" = none
  sorted : mg "sorted" = none
  set : mg "set" = none
  enumerate : mg "enumerate" = none
  max : mg "max" = none
  min : mg "min" = none
  sum : mg "sum" = none

/-! ### texts by their codes -/
def mkS (l : List Nat) : Str := ⟨l.toArray⟩
theorem mkS_inj {a b : List Nat} (h : mkS a = mkS b) : a = b := by
  have e : a.toArray = b.toArray := congrArg Str.cps h
  simpa using e
theorem mkS_app (a b : List Nat) : mkS a ++ mkS b = mkS (a ++ b) := by
  show (⟨a.toArray ++ b.toArray⟩ : Str) = ⟨(a ++ b).toArray⟩
  rw [List.append_toArray]
theorem mkS_len (a : List Nat) : (mkS a).length = a.length := by
  show a.toArray.size = a.length
  simp
theorem mkS_cps (a : List Nat) : (mkS a).cps.toList = a := by
  show a.toArray.toList = a
  simp
theorem mkS_one (c : Nat) : (⟨#[c]⟩ : Str) = mkS [c] := rfl
theorem mkS_nil : ("" : Str) = mkS [] := by decide +kernel
theorem mkS_of (z : Str) : z = mkS z.cps.toList := by
  show z = ⟨z.cps.toList.toArray⟩
  cases z; simp
theorem cut_to (a : List Nat) (k : Nat) : cutS (mkS a) none (some (k : Int)) = mkS (a.take k) := by
  unfold cutS
  rw [HT.sIx_none, HT.sIx_nat, mkS_cps, mkS_len]
  show mkS ((a.drop 0).take (min k a.length - 0)) = mkS (a.take k)
  rw [List.drop_zero, Nat.sub_zero]
  have e : a.take (min k a.length) = a.take k := List.take_eq_take_iff.mpr (by omega)
  rw [e]
theorem inV_str {x : Str} {xs : List Str} : inV (.str x) (xs.map V.str) = decide (x ∈ xs) := by
  induction xs with
  | nil => simp [inV]
  | cons y xs ih =>
    have e : inV (.str x) ((y :: xs).map V.str) = (eqV (.str y) (.str x) || inV (.str x) (xs.map V.str)) := rfl
    rw [e, ih]
    have e2 : eqV (.str y) (.str x) = (y == x) := rfl
    rw [e2]
    by_cases h : x = y
    · subst h; simp
    · have h2 : (y == x) = false := by
        cases q : (y == x) with
        | false => rfl
        | true => exact absurd (eq_of_beq q).symm h
      rw [h2]; simp [h]
theorem flat_strs (xs : List Str) : (xs.map V.str).all flatV = true := by
  rw [List.all_map]
  exact List.all_eq_true.mpr fun _ _ => rfl
theorem atI_int {α : Type} {xs : List α} {i : Int} (h0 : 0 ≤ i) (h : i.toNat < xs.length) : atI xs i = some xs[i.toNat] := by
  have q := atI_nat (List.getElem?_eq_getElem h)
  have e : ((i.toNat : Nat) : Int) = i := Int.toNat_of_nonneg h0
  exact (congrArg (atI xs) e).symm.trans q
/-- the characters of tokens, the letters -/
def SGN : List Nat := ((List.range 94).map (· + 33)).filter (· != 37)
def LET : List Nat := (List.range 26).map (· + 97)
theorem sgn_len : SGN.length = 93 := by decide +kernel
theorem let_len : LET.length = 26 := by decide +kernel
theorem sgn_nd : SGN.Nodup := by decide +kernel
theorem let_nd : LET.Nodup := by decide +kernel
/-- a list without repetition, all of whose items stand in another one, is not longer -/
theorem nodup_le {α : Type} [DecidableEq α] : ∀ {l m : List α}, l.Nodup → (∀ x ∈ l, x ∈ m) → l.length ≤ m.length
  | [], m, _, _ => Nat.zero_le _
  | a :: l, m, hn, hs => by
    have ha : a ∈ m := hs a List.mem_cons_self
    have h1 := nodup_le (l := l) (m := m.erase a) (List.nodup_cons.mp hn).2 fun x hx => by
      have hne : x ≠ a := fun e => (List.nodup_cons.mp hn).1 (e ▸ hx)
      exact (List.mem_erase_of_ne hne).mpr (hs x (List.mem_cons_of_mem _ hx))
    have h2 := List.length_erase_of_mem ha
    have h3 : 0 < m.length := List.length_pos_of_mem ha
    rw [List.length_cons]
    omega
theorem nodup_map_inj {α β : Type} {f : α → β} : ∀ {l : List α}, l.Nodup → (∀ a b, f a = f b → a = b) → (l.map f).Nodup
  | [], _, _ => List.nodup_nil
  | a :: l, hn, hf => by
    rw [List.map_cons]
    refine List.nodup_cons.mpr ⟨fun h => ?_, nodup_map_inj (List.nodup_cons.mp hn).2 hf⟩
    obtain ⟨b, hb, e⟩ := List.mem_map.mp h
    exact (List.nodup_cons.mp hn).1 (hf _ _ e ▸ hb)
/-- one more sign behind the base, where made is taken: what comes of it -/
def more1 (xs : List Str) (bs : List Nat) (m : List Nat) (c : Nat) : List Nat := if mkS m ∈ xs then bs ++ [c] else m
theorem more_yes {xs : List Str} {bs m : List Nat} {c : Nat} (h : mkS m ∈ xs) : more1 xs bs m c = bs ++ [c] := if_pos h
theorem more_no {xs : List Str} {bs m : List Nat} {c : Nat} (h : mkS m ∉ xs) : more1 xs bs m c = m := if_neg h
theorem more_keep {xs : List Str} {bs : List Nat} : ∀ (cs : List Nat) {m : List Nat}, mkS m ∉ xs → cs.foldl (more1 xs bs) m = m
  | [], _, _ => rfl
  | c :: cs, m, h => by
    rw [List.foldl_cons]
    have e : more1 xs bs m c = m := if_neg h
    rw [e]
    exact more_keep cs h
theorem more_all {xs : List Str} {bs : List Nat} : ∀ (cs : List Nat) {m : List Nat}, mkS (cs.foldl (more1 xs bs) m) ∈ xs → mkS m ∈ xs ∧ ∀ c ∈ cs, mkS (bs ++ [c]) ∈ xs
  | [], m, h => ⟨h, fun _ hc => by cases hc⟩
  | c :: cs, m, h => by
    rw [List.foldl_cons] at h
    obtain ⟨h1, h2⟩ := more_all cs h
    have hm : mkS m ∈ xs := by
      by_cases q : mkS m ∈ xs
      · exact q
      · have e : more1 xs bs m c = m := if_neg q
        rw [e] at h1
        exact h1
    have e : more1 xs bs m c = bs ++ [c] := if_pos hm
    rw [e] at h1
    refine ⟨hm, fun d hd => ?_⟩
    rcases List.mem_cons.mp hd with rfl | hd
    · exact h1
    · exact h2 d hd
theorem more_new {xs : List Str} {bs cs m : List Nat} (hn : cs.Nodup) (hl : xs.length < cs.length) : mkS (cs.foldl (more1 xs bs) m) ∉ xs := fun h => by
  have h2 := (more_all cs h).2
  have h3 : (cs.map fun c => mkS (bs ++ [c])).Nodup := by
    exact nodup_map_inj hn fun a b e => by
      have q := mkS_inj e
      simpa using q
  have h4 := nodup_le h3 fun x hx => by
    obtain ⟨c, hc, rfl⟩ := List.mem_map.mp hx
    exact h2 c hc
  rw [List.length_map] at h4
  omega
theorem more_shape {xs : List Str} {bs cs : List Nat} {S : List Nat → Prop} (hb : ∀ c, c ∈ cs → S (bs ++ [c])) : ∀ {m : List Nat}, S m → S (cs.foldl (more1 xs bs) m) := by
  induction cs with
  | nil => intro m h; exact h
  | cons c cs ih =>
    intro m h
    rw [List.foldl_cons]
    refine ih (fun d hd => hb d (List.mem_cons_of_mem _ hd)) ?_
    unfold more1
    split
    · exact hb c List.mem_cons_self
    · exact h
end Ss
namespace PySem
namespace SsE
open PySem.W PySem.Calls PyProof.Rows PySem.HandSPX
section
variable {M : Model} {A : Around} {E : Value → Shared → Prop} {h : Heap} {g : Array GenState} {d : Drawn} {t : Nat} {os : OsState}
variable {nm q : Str} {C N : Addr} {bs bm bmB : List Value} {hdct : Bool} {sn : List Str} {sub : List Value} {ab : Bool} {col : Option Bool} {dd : Option Addr} {k0 k1 k2 k3 k5 : Option Value} {B newId initId : String}
/-- the look ahead of the maker, with keywords -/
theorem new_look (F : ExcBaseFacts B newId initId bmB) (hT : ∀ X : String, bm.contains (.type X) = bmB.contains (.type X)) {rest : List Value} {kw : List (Str × Value)} {Q : Unit → Shared → Prop}
    (hC : h.get? C = some (excClassObj nm q C N bs bm hdct sn sub ab col dd k0 k1 k2 k3 k5 newId)) (hq : Q () ⟨h, g, d, t, os⟩) : wpAny M A (checkBuiltinCall newId ⟨.ref C :: rest, kw⟩) Q E ⟨h, g, d, t, os⟩ := by
  have e1 : (Value.ref C :: bm).contains (.type B) = true := by rw [List.contains_cons, hT, F.hasB, Bool.or_true]
  have e2 := F.noStar
  simp only [checkBuiltinCall, F.newKind, F.newSplit, F.newRow]
  repeat (first | refine wpAny_loadPart_at hC ?_ | (refine wpAny_isSubtype_exc hC ?_; rw [e1]) | refine wpAny_staticBase_exc hC ?_ | refine wpAny_madeBy_exc hC ?_ | simp only [bne_self_eq_false, Bool.false_eq_true, if_false] | wp_step)
  exact hq
end
section
variable {prog : Program} {w : World} {A : Around} {E : Value → Shared → Prop} {R : Result → Shared → Prop} {h : Heap} {g : Array GenState} {d : Drawn} {t : Nat} {os : OsState}
variable {nm q : Str} {C N : Addr} {bs bm bmB : List Value} {hdct : Bool} {sn : List Str} {sub : List Value} {ab : Bool} {col : Option Bool} {dd : Option Addr} {k0 k1 k2 k3 k5 : Option Value} {B newId initId : String}
theorem new_kw (F : ExcBaseFacts B newId initId bmB) (hT : ∀ X : String, bm.contains (.type X) = bmB.contains (.type X)) {rest : List Value} {kw : List (Str × Value)}
    (hC : h.get? C = some (excClassObj nm q C N bs bm hdct sn sub ab col dd k0 k1 k2 k3 k5 newId))
    (hq : R (.ok (.ret (.ref (h.objs.size + 1)))) ⟨(h.push (W.kdv_tup rest)).push (excO C h.objs.size), g, d, t, os⟩) (hrest : rest.length ≤ sizeLine) :
    codeAny (model prog w) A (.builtin newId ⟨.ref C :: rest, kw⟩) R ⟨h, g, d, t, os⟩ := by
  have e0 := F.ends
  have e1 : (Value.ref C :: bm).contains (.type B) = true := by rw [List.contains_cons, hT, F.hasB, Bool.or_true]
  have e2 : (Value.ref C :: bm).contains (.type "AttributeError") = false := by rw [List.contains_cons, hT, F.noAttr]; rfl
  have e3 : (Value.ref C :: bm).contains (.type "NameError") = false := by rw [List.contains_cons, hT, F.noName]; rfl
  refine codeAny_builtinAt F.entry ?_
  unfold Builtin.«BaseException.__new__»
  refine wpAt_bind ?_
  show wpAt _ _ _ (stack >>= _) _ _ _
  refine wpAt_bind (wpAt_stack fun p below => wpAt_of_wpAny ?_)
  wp_walk
  refine wpAt_of_wpAny ?_
  rw [F.owner]
  repeat (first | with_reducible refine wpAny_madeHere_exc F.canon hC ?_ | with_reducible refine wpAny_loadPart_at hC ?_ | (with_reducible refine wpAny_isSubtype_exc hC ?_; first | rw [e1] | rw [e2] | rw [e3]) | wp_step)
  show R _ _
  rw [Heap.size_push]
  exact hq
theorem type_call_kw (F : ExcBaseFacts B newId initId bmB) (hT : ∀ X : String, bm.contains (.type X) = bmB.contains (.type X)) {rest : List Value} {kw : List (Str × Value)} {fI : Addr} {Q : Fin → Shared → Prop}
    (hC : h.get? C = some (excClassObj nm q C N bs bm hdct sn sub ab col dd k0 k1 k2 k3 k5 newId))
    (hi : W.Looks (model prog w) h (typeLookup (.ref C) "__init__") (some (.ref fI))) (hb : ∀ self, W.Looks (model prog w) h (bindSpecial (.ref fI) self) (.ref fI, [self])) (hrest : rest.length ≤ sizeLine)
    (hq : codeAny (model prog w) A (.call (.ref fI) ⟨.ref (h.objs.size + 1) :: rest, kw⟩)
      (fun r s' => match r with | .ok (.ret v) => v = .none ∧ Q (.done (.ret (.ref (h.objs.size + 1)))) s' | .ok _ => False | .error e => E e s')
      ⟨(h.push (W.kdv_tup rest)).push (excO C h.objs.size), g, d, t, os⟩) :
    wpAny (model prog w) A (Builtin.«type.__call__» ⟨.ref C :: rest, kw⟩) Q E ⟨h, g, d, t, os⟩ := by
  repeat (first | with_reducible refine wpAny_loadPart_at hC ?_ | with_reducible refine wpAny_madeBy_exc hC ?_ | wp_step)
  refine codeAny_call_builtin_code (Code.quiet_builtin _ F.quiet) (new_look F hT hC ?_)
  refine new_kw F hT hC ?_ hrest
  show wpAny _ _ _ _ _ _
  have k : ∀ b o, h.get? b = some o → ((h.push (W.kdv_tup rest)).push (excO C h.objs.size)).get? b = some o := fun b o e => Heap.get?_push_of_some _ (Heap.get?_push_of_some _ e)
  have c1 := k _ _ hC
  have hget : ((h.push (W.kdv_tup rest)).push (excO C h.objs.size)).get? (h.objs.size + 1) = some (excO C h.objs.size) := by heap_get
  have c2 : (Value.ref C :: bm).contains (.ref C) = true := by simp
  have i1 := hi.keeps k
  have b1 := (hb (.ref (h.objs.size + 1))).keeps k
  unfold isInstance
  repeat (first | with_reducible refine wpAny_loadPart_at hget ?_ | (with_reducible refine wpAny_isSubtype_exc c1 ?_; rw [c2]) | wp_step)
  show wpAny _ _ (typeLookup (.ref C) _) _ _ _
  refine i1.at ?_
  refine wpAny_holding (wpAny_bind (b1.at ?_))
  refine wpAny_bind (wpAny_call (codeAny_mono hq fun r s' z => ?_))
  rcases r with e | (v | _ | _ | _) <;> first | exact z | exact z.elim | skip
  obtain ⟨rfl, z⟩ := z
  first
    | exact wpAny_pure (wpAny_pure z)
    | (wp_walk; exact z)
theorem call_kw (F : ExcBaseFacts B newId initId bmB) (hT : ∀ X : String, bm.contains (.type X) = bmB.contains (.type X)) {rest : List Value} {kw : List (Str × Value)} {fI : Addr}
    (hC : h.get? C = some (excClassObj nm q C N bs bm hdct sn sub ab col dd k0 k1 k2 k3 k5 newId))
    (hi : W.Looks (model prog w) h (typeLookup (.ref C) "__init__") (some (.ref fI))) (hb : ∀ self, W.Looks (model prog w) h (bindSpecial (.ref fI) self) (.ref fI, [self])) (hrest : rest.length ≤ sizeLine)
    (hq : codeAny (model prog w) (A.under (.builtin "type.__call__" ⟨.ref C :: rest, kw⟩)) (.call (.ref fI) ⟨.ref (h.objs.size + 1) :: rest, kw⟩) (W.InitBack (h.objs.size + 1) R)
      ⟨(h.push (W.kdv_tup rest)).push (excO C h.objs.size), g, d, t, os⟩) :
    codeAny (model prog w) A (.call (.ref C) ⟨rest, kw⟩) R ⟨h, g, d, t, os⟩ := by
  have f1 := tc_lookup
  have f2 := tc_bind (.ref C)
  have hTy : (⟨h, g, d, t, os⟩ : Shared).TypeIs (.ref C) "type" := ⟨_, hC, rfl⟩
  refine codeAny_of_tree ?_
  show wpAny _ _ (callAny (.ref C) _) _ _ _
  repeat (any_goals (first | assumption | with_reducible refine wpAny_loadPart_at hC ?_ | wp_step))
  refine ⟨rfl, ?_⟩
  refine codeAny_call_builtin_at (Code.quiet_builtin _ (by decide +kernel)) entry_typeCall (wpAny_check_type_call_sub hC (type_call_kw F hT hC hi hb hrest ?_))
  refine codeAny_mono hq fun r s' z => ?_
  rcases r with e | (v | _ | _ | _) <;> exact z
end
end SsE
end PySem
namespace PySem
namespace SsE
open PySem.W PySem.Calls PyProof.Rows PySem.HandSPX
/-- what is asked of the order of an error's classes -/
structure Order (l : List Value) : Prop where
  pass : ∀ self, refuseLoop self "__setattr__" l = pure ()
  obj : l.contains (.type "object") = true
  ne : l.isEmpty = false
theorem Order.cons {l : List Value} (o : Order l) (C : Addr) : Order (.ref C :: l) :=
  ⟨fun self => by rw [refuseLoop_ref]; exact o.pass self, by rw [List.contains_cons, o.obj, Bool.or_true], rfl⟩
theorem order_VE : Order [.type "ValueError", .type "Exception", .type "BaseException", .type "object"] := ⟨F.store_ValueError.passes, by decide +kernel, rfl⟩
theorem order_LE : Order [.type "LookupError", .type "Exception", .type "BaseException", .type "object"] := ⟨F.store_LookupError.passes, by decide +kernel, rfl⟩
theorem order_RE : Order [.type "RuntimeError", .type "Exception", .type "BaseException", .type "object"] := ⟨F.store_RuntimeError.passes, by decide +kernel, rfl⟩
section
open Builtin Builtin.ObjectAttr
variable {prog : Program} {w : World} {A : Around} {R : Result → Shared → Prop} {hp : Heap} {g : Array GenState} {d : Drawn} {t : Nat} {os : OsState}
/-- the first field of an error -/
theorem osa_first {K : Frag} {name : Str} {tk : Tok} {v : Value} {x C : Addr} {fv : Array Value} {cd : ClassData}
    (X : K.In hp) (hx : hp.get? x = some { cls := .ref C, data := .fields fv }) (hcd : clsIn K C = some cd) (hm : Order cd.mro) (hh : cd.hasDict = true) (ha : findIn K (.ref C) name = some none)
    (hq : ∀ h' tk' dx, (∀ b o, b ≠ x → hp.get? b = some o → h'.get? b = some o) → hp.objs.size ≤ dx → dx ≠ x → h'.get? x = some { cls := .ref C, dict := some dx, data := .fields fv } →
      h'.Ns1 dx (fun y => if y = name then some v else none) → R (.ok (.ret .none)) ⟨h', g, d, tk', os⟩) :
    codeAny (model prog w) A (.call (.builtin "object.__setattr__") ⟨[.ref x, .str name tk, v], []⟩) R ⟨hp, g, d, t, os⟩ := by
  have I : InstAt hp x { cls := .ref C, data := .fields fv } C none := ⟨hx, rfl, rfl, trivial⟩
  have SF := F.store_object
  have hxs : x ≠ hp.objs.size := Nat.ne_of_lt (Heap.lt_size hx)
  have sub : Looks (model prog w) hp (isInstance (.ref x) (.type "object")) true := I.type.andThen (looks_mroIn X (by unfold mroIn; rw [hcd, Option.bind_some, if_neg (by rw [hm.ne]; decide), hm.obj]))
  refine codeAny_call_builtin SF.slot.plain SF.entry (@check_slot (model prog w) _ _ ⟨hp, g, d, t, os⟩ "object.__setattr__" "object" "__setattr__" (.ref x) [.str name tk, v] [] _ SF.kind SF.split sub (SF.args (.ref x) (.str name tk) v) ?_)
  have hmr : Looks (model prog w) hp (mroOf (.ref C)) cd.mro := (looks_clsIn X hcd).andThen .now
  have l3 : Looks (model prog w) hp (storeTaker? none) none := .now
  have hcls : Looks (model prog w) hp (classData C) cd := looks_clsIn X hcd
  rw [osa_eq, refuse_eq]
  refine wpAny_bind (wpAny_bind (I.type.at (wpAny_bind (hmr.at ?_))))
  rw [hm.pass]
  refine wpAny_pure (wpAny_bind (I.type.at (wpAny_bind ((looks_findIn X ha).at (wpAny_bind (l3.at ?_))))))
  show wpAny _ _ (storeInOwnDict (.ref x) (.ref C) (.str name tk) name v false) _ _ _
  obtain ⟨nm, bs, mro, ns, qn, hd, sn, sb, ab, col, del⟩ := cd
  dsimp only at hh
  subst hh
  unfold storeInOwnDict ownDictForStores
  repeat (first | with_reducible refine store_in_new ?_ ?_ | with_reducible refine wpAny_loadPart_at hx ?_ | with_reducible refine hcls.at ?_ | wp_step)
  · exact ⟨_, #[], _, (Heap.get?_update_ne _ _ _ _ hxs.symm).trans (Heap.get?_push_at rfl rfl), rfl, fun e he => absurd he (by simp), fun _ => rfl⟩
  · intro h' tk' hn' hs
    have hx1 : (hp.push { cls := .type "dict", data := .dict #[] }).get? x = some { cls := .ref C, data := .fields fv } := Heap.get?_push_of_some _ hx
    refine hq h' tk' hp.objs.size (fun b o hb ho => ?_) (Nat.le_refl _) hxs.symm ?_ hn'
    · exact (hs.2 b (Nat.ne_of_lt (Heap.lt_size ho))).trans ((Heap.get?_update_ne _ _ _ _ hb).trans (Heap.get?_push_of_some _ ho))
    · exact (hs.2 x hxs).trans (Heap.get?_update_self _ hx1 rfl)
/-- a further field -/
theorem osa_more {K : Frag} {name : Str} {tk : Tok} {v : Value} {x C dx : Addr} {fv : Array Value} {cd : ClassData} {m0 : Str → Option Value} {nl : List Str}
    (X : K.In hp) (hx : hp.get? x = some { cls := .ref C, dict := some dx, data := .fields fv }) (hns : hp.Ns1 dx m0) (hw : Within m0 nl) (hz : nl.length ≤ 1000) (hcd : clsIn K C = some cd) (hm : Order cd.mro) (hh : cd.hasDict = true)
    (ha : findIn K (.ref C) name = some none)
    (hq : ∀ h' tk', (∀ b o, b ≠ dx → hp.get? b = some o → h'.get? b = some o) → h'.Ns1 dx (fun y => if y = name then some v else m0 y) → R (.ok (.ret .none)) ⟨h', g, d, tk', os⟩) :
    codeAny (model prog w) A (.call (.builtin "object.__setattr__") ⟨[.ref x, .str name tk, v], []⟩) R ⟨hp, g, d, t, os⟩ := by
  obtain ⟨oD, esD, epD, hoD, hdD, _⟩ := hns.count hw
  have I : InstAt hp x { cls := .ref C, dict := some dx, data := .fields fv } C (some oD) := ⟨hx, rfl, rfl, hoD⟩
  have SF := F.store_object
  have sub : Looks (model prog w) hp (isInstance (.ref x) (.type "object")) true := I.type.andThen (looks_mroIn X (by unfold mroIn; rw [hcd, Option.bind_some, if_neg (by rw [hm.ne]; decide), hm.obj]))
  refine codeAny_call_builtin SF.slot.plain SF.entry (@check_slot (model prog w) _ _ ⟨hp, g, d, t, os⟩ "object.__setattr__" "object" "__setattr__" (.ref x) [.str name tk, v] [] _ SF.kind SF.split sub (SF.args (.ref x) (.str name tk) v) ?_)
  have hmr : Looks (model prog w) hp (mroOf (.ref C)) cd.mro := (looks_clsIn X hcd).andThen .now
  have l3 : Looks (model prog w) hp (storeTaker? none) none := .now
  have hcls : Looks (model prog w) hp (classData C) cd := looks_clsIn X hcd
  rw [osa_eq, refuse_eq]
  refine wpAny_bind (wpAny_bind (I.type.at (wpAny_bind (hmr.at ?_))))
  rw [hm.pass]
  refine wpAny_pure (wpAny_bind (I.type.at (wpAny_bind ((looks_findIn X ha).at (wpAny_bind (l3.at ?_))))))
  show wpAny _ _ (storeInOwnDict (.ref x) (.ref C) (.str name tk) name v false) _ _ _
  obtain ⟨nm, bs, mro, ns, qn, hd, sn, sb, ab, col, del⟩ := cd
  dsimp only at hh
  subst hh
  unfold storeInOwnDict ownDictForStores
  repeat (first | with_reducible refine OEX.store_in_old hns hw hz ?_ | with_reducible refine wpAny_loadPart_at hx ?_ | with_reducible refine hcls.at ?_ | wp_step)
  intro h' tk' hn' hs
  exact hq h' tk' (fun b o hb ho => (hs.2 b hb).trans ho) hn'
end
end SsE
end PySem
namespace Ss
open PySem L2 PySem.Spec PyProof.Rows
/-- an error class of the text at C; its built-in base's __init__ is ini -/
structure EC (K : PySem.W.Frag) (C : Addr) (ini : String) : Prop where
  cls : ∃ B newId bmB nm q N bs bm sn sub ab col dd k0 k1 k2 k3 k5, ExcBaseFacts B newId ini bmB ∧ K.lookup C = some (excClassObj nm q C N bs bm true sn sub ab col dd k0 k1 k2 k3 k5 newId) ∧
    (∀ Y : String, bm.contains (.type Y) = bmB.contains (.type Y)) ∧ SsE.Order bm
  sa : PySem.W.findIn K (.ref C) "__setattr__" = some (some (.builtin "object.__setattr__"))
  ga : PySem.W.findIn K (.ref C) "__getattribute__" = some (some (.builtin "BaseException.__getattribute__"))
  gg : PySem.W.findIn K (.ref C) "__getattr__" = some none
  exC : PySem.W.subIn K (.ref C) (.type "BaseException") = some true
  tyC : PySem.W.typeIn K (.ref C) = some (.type "type")
  hdC : PySem.W.hasDictIn K C = true
  kC : PySem.W.keepIn K (.ref C) = true
  ha : PySem.W.findIn K (.ref C) "__class__" = some (some (.builtin "object.__class__"))
  hn : PySem.W.specialIn K (.builtin "object.__class__") "__get__" = some (some (.builtin "getset_descriptor.__get__"))
  ht : PySem.W.takesIn K (.builtin "object.__class__") = some true
  hm : PySem.W.mroIn K C (.type "object") = some true
section
variable {X : Cx} {pins : List (Addr × Obj)} {σ : L2.St} {H : Hp} {s : Shared} {a C dx : Addr} {f : Str} {y : V} {u : Value} {fs : List (Str × V)} {A : Around} {ini : String}
/-- self.f = y, the first one -/
theorem est_new {Q : Unit → Shared → Prop} {E : Value → Shared → Prop} (T : EC X.K C ini) (I : Inv X pins σ H s) (e : H a = some (exo a C none)) (hno : PySem.W.findIn X.K (.ref C) f = some none) (ry : RelV y u)
    (h : ∀ dx s', H dx = none → dx ≠ a → Inv X pins σ (upd (upd H dx (exd dx [(f, y)])) a (exo a C (some dx))) s' → Q () s') : wpAny (model X.prog X.w) A (setAttr (.ref a) f u) Q E s := by
  obtain ⟨B, newId, bmB, nm, q, N, bs, bm, sn, sub, ab, col, dd, k0, k1, k2, k3, k5, F, hC, hT, hbm⟩ := T.cls
  have hcl : PySem.W.clsIn X.K C = some { name := nm, bases := bs, mro := .ref C :: bm, ns := N, qualname := q, hasDict := true, slotNames := sn, subclasses := sub, abstract := ab, collection := col, hasDel := false } := by unfold PySem.W.clsIn; rw [hC] <;> rfl
  obtain ⟨t1, ho⟩ := exo_at I.hok e
  obtain ⟨hp, g, d, t, os⟩ := s
  refine PySem.W.set_plain I.kIn (ox := { cls := .ref C, dict := none, data := .fields #[.ref t1, .none, .none, .none, .bool false, .none] }) (od := none) ⟨ho, rfl, rfl, trivial⟩ T.sa ?_
  refine SsE.osa_first I.kIn ho hcl (hbm.cons C) rfl hno (fun h' tk' dx k dn dne hx hn => ?_)
  have hnd : H dx = none := I.hok.fresh dn
  have nd : ∀ {b : Addr} {o : Obj}, hp.get? b = some o → b ≠ dx := fun {b o} q => Nat.ne_of_lt (Nat.lt_of_lt_of_le (Heap.lt_size q) dn)
  have na : ∀ {b : Addr}, H b = none → b ≠ a := fun {b} n z => by
    rw [z, e] at n
    cases n
  have Un1 : Un X.fs [] H (upd (upd H dx (exd dx [(f, y)])) a (exo a C (some dx))) hp h' := {
    keep := fun b o q n _ _ => k b o (na n) q
    slot := fun b o q n _ _ => ⟨o.slots, k b o (na n) q⟩
    free := fun b o q n _ => by rw [upd_ne (na n), upd_ne (nd q)]; exact n
    there := fun b o q _ => by
      by_cases hb : b = a
      · exact ⟨_, by rw [hb]; exact hx⟩
      · exact ⟨o, k b o hb q⟩
    tups := fun b xs q => by rw [upd_ne (at_ne e q exo_tup), upd_ne (ne_of_none q hnd)]; exact q
    frzs := fun b o v q => by rw [upd_ne (at_ne e q exo_frz), upd_ne (ne_of_none q hnd)]; exact q
    tbls := fun b ps q => ⟨#[], by rw [upd_ne (at_ne e q exo_tbl), upd_ne (ne_of_none q hnd), q]; simp⟩ }
  refine h dx _ hnd dne (I.un (t' := tk') Un1 fun b o q => ?_)
  by_cases hb : b = a
  · subst hb
    rw [upd_same] at q
    cases q
    exact exo_ok hx
  · rw [upd_ne hb] at q
    by_cases hd : b = dx
    · subst hd
      rw [upd_same] at q
      cases q
      exact exd_ok hn (relO_put (fs := []) ry fun g => True.intro)
    · rw [upd_ne hd] at q
      exact (I.hok b o q).stay (fun c v hc z => k c v (by
          rcases hc with hc | hc
          · rw [hc]
            exact hb
          · exact at_ne e hc exo_own) z)
        (fun c hc => by rw [upd_ne (at_ne e hc exo_own), upd_ne (ne_of_none hc hnd)]; exact hc) (fun c xs hc => by rw [upd_ne (at_ne e hc exo_tup), upd_ne (ne_of_none hc hnd)]; exact hc)
/-- self.f = y, a further one -/
theorem est_old {Q : Unit → Shared → Prop} {E : Value → Shared → Prop} (T : EC X.K C ini) (I : Inv X pins σ H s) (e : H a = some (exo a C (some dx))) (ed : H dx = some (exd dx fs)) (hl : fs.length ≤ 900) (hno : PySem.W.findIn X.K (.ref C) f = some none) (ry : RelV y u)
    (h : ∀ s', Inv X pins σ (upd H dx (exd dx ((f, y) :: fs))) s' → Q () s') : wpAny (model X.prog X.w) A (setAttr (.ref a) f u) Q E s := by
  obtain ⟨B, newId, bmB, nm, q, N, bs, bm, sn, sub, ab, col, dd, k0, k1, k2, k3, k5, F, hC, hT, hbm⟩ := T.cls
  have hcl : PySem.W.clsIn X.K C = some { name := nm, bases := bs, mro := .ref C :: bm, ns := N, qualname := q, hasDict := true, slotNames := sn, subclasses := sub, abstract := ab, collection := col, hasDel := false } := by unfold PySem.W.clsIn; rw [hC] <;> rfl
  obtain ⟨t1, ho⟩ := exo_at I.hok e
  obtain ⟨mA, hns, rel⟩ := exd_at I.hok ed
  have hw := within_of rel
  obtain ⟨hp, g, d, t, os⟩ := s
  obtain ⟨oD, _, _, hoD, _, _⟩ := hns.count hw
  refine PySem.W.set_plain I.kIn (ox := { cls := .ref C, dict := some dx, data := .fields #[.ref t1, .none, .none, .none, .bool false, .none] }) (od := some oD) ⟨ho, rfl, rfl, hoD⟩ T.sa ?_
  refine SsE.osa_more I.kIn ho hns hw (by rw [List.length_map]; omega) hcl (hbm.cons C) rfl hno (fun h' tk' k hn => ?_)
  have hd : ∃ o, h'.get? dx = some o := by
    obtain ⟨o, _, _, e', _⟩ := hn
    exact ⟨o, e'⟩
  exact h _ (I.write (t' := tk') (x := dx) (e := dx) (o := exd dx ((f, y) :: fs)) (by rw [ed]; exact True.intro) (.inl rfl) k hd (exd_ok hn (relO_put ry rel)))
/-- the base's __init__ of an error that is being made: nothing of it is told -/
theorem einit_ok {us : List Value} {Q : Value → Shared → Prop} {E : Value → Shared → Prop} (T : EC X.K C ini) (I : Inv X pins σ H s) (e : H a = some (exo a C none)) (hl : us.length ≤ sizeLine) (h : ∀ s', Inv X pins σ H s' → Q .none s') :
    wpAny (model X.prog X.w) A (call (.builtin ini) (.ref a :: us)) Q E s := by
  obtain ⟨B, newId, bmB, nm, q, N, bs, bm, sn, sub, ab, col, dd, k0, k1, k2, k3, k5, F, hC, hT, hbm⟩ := T.cls
  obtain ⟨t1, ho⟩ := exo_at I.hok e
  obtain ⟨hp, g, d, t, os⟩ := s
  refine wpAny_call (PySem.HandSPX.init_base F hT (I.kIn _ _ hC) ho hl fun h' t2 k hx => ?_)
  have J := I.write (t' := t) (x := a) (e := a) (o := exo a C none) (by rw [e]; exact True.intro) (.inl rfl) k ⟨_, hx⟩ (exo_ok hx)
  have eu : upd H a (exo a C none) = H := by
    funext b
    by_cases hb : b = a
    · rw [hb, upd_same, e]
    · rw [upd_ne hb]
  rw [eu] at J
  exact h _ J
end
/-- base.__init__(self, ..) -/
def tEI (K : PySem.W.Frag) (ini : String) (ta : TA) : TE := fun σ H Q => ta σ H fun vs H1 => ∃ (a C : Addr) (ws : List V), vs = .ref a :: ws ∧ ws.length ≤ 1000 ∧ EC K C ini ∧ H1 a = some (exo a C none) ∧ Q .non H1
/-- self.f = e -/
def tEst (K : PySem.W.Frag) (ini : String) (f : Str) (to te : TE) : TS := fun D σ H => te σ H fun y H1 => to σ H1 fun x H2 => ∃ a C : Addr, x = .ref a ∧ EC K C ini ∧ PySem.W.findIn K (.ref C) f = some none ∧
  ((H2 a = some (exo a C none) ∧ ∀ dx, H2 dx = none → dx ≠ a → D.nx σ (upd (upd H2 dx (exd dx [(f, y)])) a (exo a C (some dx)))) ∨
    ∃ (dx : Addr) (fs : List (Str × V)), H2 a = some (exo a C (some dx)) ∧ H2 dx = some (exd dx fs) ∧ fs.length ≤ 900 ∧ D.nx σ (upd H2 dx (exd dx ((f, y) :: fs))))
section
variable {X : Cx} {o e : Expr} {es : List Expr} {to te : TE} {ta tk : TA} {f x : Str} {p p' p1 p2 pos : Pos} {ini : String}
/-- base.__init__(self, ..), base a class of the text -/
theorem pe_einitO {pl : Sem Bool} {S : Addr} (hg : Gl X x) (hm : X.mg x = some (.ref S)) (rd : PySem.W.readsIn X.K S (.type "type") = true) (ga : PySem.W.specialIn X.K (.ref S) "__getattribute__" = some (some (.builtin "type.__getattribute__")))
    (vV : PySem.W.findCls X.K (.ref S) (.type "type") "__init__" = some (.val (.builtin ini))) (hh : PySem.W.handedIn (.builtin ini) = true) (ha : PA X (e :: es) ta) (hdb : (x == ("__debug__" : Str)) = false := by decide)
    (hc : eval (.Call (.Attribute (.Name x p1) "__init__" p2) (e :: es) [] pos) X.env = (do
      let ov ← eval (.Name x p1) X.env
      standAt p2.atName
      let (f, first) ← holding [ov] (getMethod ov "__init__" pl)
      callWith pos f first (backTo pos (starEach (e :: es) X.env)) (backToKw pos (keywordEach [] X.env))) := by rfl)
    (he : starEach (e :: es) X.env = (false, eval e X.env) :: starEach es X.env := by rfl) (hpl : (backTo pos (starEach es X.env)).any (·.1) = false := by rfl) :
    PE X (.Call (.Attribute (.Name x p1) "__init__" p2) (e :: es) [] pos) (tEI X.K ini ta) := by
  refine ⟨fun pins s σ H Q I h => ?_⟩
  refine PySem.W.methodCall_KW (ld_glob I hg hm ?_ hdb) hc
  refine PySem.W.method_cls I.kIn ga (PySem.W.cls_value I.kIn rd vV hh ?_)
  show wpAny _ _ (callWith pos (Value.builtin ini) [] (backTo pos (starEach (e :: es) X.env)) []) _ _ _
  refine PyProof.Rows.callWith_method1 (thn (ha.run pos pins _ σ H _ (I.tok _) h) fun us s1 ⟨vs, H1, I1, r1, a, C, ws, ev, hl, T, ea, q⟩ => ?_) he hpl
  subst ev
  cases r1 with
  | @cons _ u0 _ ur ra rw' =>
    obtain rfl : u0 = Value.ref a := ra
    have hlen : ur.length ≤ sizeLine := by
      rw [← Paired.length rw', sizeLine_eq]
      omega
    exact einit_ok T I1 ea hlen fun s' J => ⟨.non, H1, J, rfl, q⟩
/-- .., base a built-in class -/
theorem pe_einitB {pl : Sem Bool} {B : String} (hg : Gl X x) (hm : X.mg x = none) (hv : bootBuiltins x = some (.type B)) (ty : typeOf (.type B) = pure (.type "type")) (hs : Manifest.isStub B = false)
    (vV : PySem.W.findCls X.K (.type B) (.type "type") "__init__" = some (.val (.builtin ini))) (hh : PySem.W.handedIn (.builtin ini) = true) (ha : PA X (e :: es) ta) (hn : x ≠ "__name__" := by decide) (hdb : (x == ("__debug__" : Str)) = false := by decide)
    (hc : eval (.Call (.Attribute (.Name x p1) "__init__" p2) (e :: es) [] pos) X.env = (do
      let ov ← eval (.Name x p1) X.env
      standAt p2.atName
      let (f, first) ← holding [ov] (getMethod ov "__init__" pl)
      callWith pos f first (backTo pos (starEach (e :: es) X.env)) (backToKw pos (keywordEach [] X.env))) := by rfl)
    (he : starEach (e :: es) X.env = (false, eval e X.env) :: starEach es X.env := by rfl) (hpl : (backTo pos (starEach es X.env)).any (·.1) = false := by rfl) :
    PE X (.Call (.Attribute (.Name x p1) "__init__" p2) (e :: es) [] pos) (tEI X.K ini ta) := by
  refine ⟨fun pins s σ H Q I h => ?_⟩
  refine PySem.W.methodCall_KW (ld_blt I hg hm hv ?_ hn hdb) hc
  obtain ⟨m, fr⟩ := I.fr
  refine PySem.W.method_type fr I.ok.mod.kin ty hs vV hh ?_
  show wpAny _ _ (callWith pos (Value.builtin ini) [] (backTo pos (starEach (e :: es) X.env)) []) _ _ _
  refine PyProof.Rows.callWith_method1 (thn (ha.run pos pins _ σ H _ (I.tok _) h) fun us s1 ⟨vs, H1, I1, r1, a, C, ws, ev, hl, T, ea, q⟩ => ?_) he hpl
  subst ev
  cases r1 with
  | @cons _ u0 _ ur ra rw' =>
    obtain rfl : u0 = Value.ref a := ra
    have hlen : ur.length ≤ sizeLine := by
      rw [← Paired.length rw', sizeLine_eq]
      omega
    exact einit_ok T I1 ea hlen fun s' J => ⟨.non, H1, J, rfl, q⟩
theorem ps_est (ini : String) (ho : PE X o to) (he : PE X e te) (hs : swapsWith e (some (.Attribute o f p')) pos.line X.env = pure false := by rfl) : PS X (.Assign [.Attribute o f p'] e pos) (tEst X.K ini f to te) := by
  refine ⟨fun pins s σ H D I h => ?_⟩
  refine plainObj_wpAny_Assign_Attribute (thn (he.run pins s σ H _ I h) fun v s1 ⟨y, H1, I1, r1, q1⟩ => thn (ho.run pins s1 σ H1 _ I1 q1) fun u s2 ⟨x, H2, I2, r2, a, C, ex, T, hno, q⟩ => ?_) hs
  subst ex
  obtain rfl : u = Value.ref a := r2
  rcases q with ⟨ea, q⟩ | ⟨dx, fs, ea, ed, hl, q⟩
  · exact est_new T I2 ea hno r1 fun dx s' n ne J => ⟨σ, _, J, q dx n ne⟩
  · exact est_old T I2 ea ed hl hno r1 fun s' J => ⟨σ, _, J, q⟩
end
end Ss
namespace Ss
open PySem L2 PySem.Spec PyProof.Rows
/-- n values by position, then the keywords ks in the order of the parameters left -/
structure NB (fd : FuncData) (ps : List Str) (n : Nat) (ks : List Str) : Prop where
  to : ∀ (s : Shared) (us ws : List Value), us.length = n → ws.length = ks.length → BindsTo s fd ⟨us, ks.zip ws⟩ (ps.zip (us ++ ws))
/-- an error class whose own __init__ keeps sp -/
structure EMk (P : Program) (w : World) (K : PySem.W.Frag) (mg : Str → Option Value) (base : Heap) (CX : CXT) (C : Addr) (ini : String) (k : Nat) (ps : List Str) (sp : Sp) (fd : FuncData) : Prop where
  ec : EC K C ini
  ex : ∃ (fI : Addr), PySem.W.findIn K (.ref C) "__init__" = some (some (.ref fI)) ∧ PySem.W.typeIn K (.ref fI) = some (.type "function") ∧ FnOk P w K mg base CX k fI fd ps sp
/-- C(e, .., k = v, ..) as a value: n values, m keywords -/
def tEMk (C : Addr) (n m : Nat) (sp : Sp) (E : XK) (ta tk : TA) : TE := fun σ H Q => ta σ H fun vs H1 => tk σ H1 fun zs H2 => vs.length = n ∧ zs.length = m ∧
  ∀ a, H2 a = none → sp (.ref a :: (vs ++ zs)) (upd H2 a (exo a C none)) (fun v H3 => v = .non ∧ Q (.ref a) H3) E
section
variable {X : Cx} {CX : CXT} {C : Addr} {ini : String} {k j n : Nat} {ps ks : List Str} {sp : Sp} {fd : FuncData} {E : XK} {x : Str} {p pos : Pos} {e : Expr} {es : List Expr} {kws : List Keyword} {ta tk : TA}
theorem run_emk {pins : List (Addr × Obj)} {σ : L2.St} {H : Hp} {s : Shared} {Q : VK} {us ws : List Value} {vs zs : List V} (M : EMk X.prog X.w X.K X.mg X.base CX C ini k ps sp fd) (hr : Room (k + 1) X.A) (hb : NB fd ps (n + 1) ks) (hx : Passes CX X E)
    (hn : n ≤ 1000) (I : Inv X pins σ H s) (r : Vals vs us) (rz : Vals zs ws) (l1 : vs.length = n) (l2 : zs.length = ks.length)
    (h : ∀ a, H a = none → sp (.ref a :: (vs ++ zs)) (upd H a (exo a C none)) (fun v H3 => v = .non ∧ Q (.ref a) H3) E) : wpAny (model X.prog X.w) X.A (call (.ref C) us (ks.zip ws)) (EP X pins σ Q) X.xe s := by
  obtain ⟨fI, iC, tI, F1⟩ := M.ex
  obtain ⟨B, newId, bmB, nm, q, N, bs, bm, sn, sub, ab, col, dd, k0, k1, k2, k3, k5, F, hC, hT, hbm⟩ := M.ec.cls
  obtain ⟨hp, g, dr, tk, os⟩ := s
  have hsz : hp.objs.size ≤ hp.objs.size + 1 := Nat.le_succ _
  have hq := h (hp.objs.size + 1) (I.hok.fresh hsz)
  have kk : ∀ b o, hp.get? b = some o → ((hp.push (PySem.W.kdv_tup us)).push (PySem.HandSPX.excO C hp.objs.size)).get? b = some o := fun b o e => Heap.get?_push_of_some _ (Heap.get?_push_of_some _ e)
  have hget : ((hp.push (PySem.W.kdv_tup us)).push (PySem.HandSPX.excO C hp.objs.size)).get? (hp.objs.size + 1) = some (PySem.HandSPX.excO C hp.objs.size) := by heap_get
  have I2 : Inv X pins σ (upd H (hp.objs.size + 1) (exo (hp.objs.size + 1) C none)) ⟨(hp.push (PySem.W.kdv_tup us)).push (PySem.HandSPX.excO C hp.objs.size), g, dr, tk, os⟩ :=
    I.laid (t' := tk) (a := hp.objs.size + 1) (o := exo (hp.objs.size + 1) C none) (h' := (hp.push (PySem.W.kdv_tup us)).push (PySem.HandSPX.excO C hp.objs.size)) kk hsz (exo_ok hget)
  have r2 : Vals (V.ref (hp.objs.size + 1) :: (vs ++ zs)) (Value.ref (hp.objs.size + 1) :: (us ++ ws)) := .cons rfl (r.append rz)
  have e1 : (Value.ref (hp.objs.size + 1) :: us).length = n + 1 := congrArg Nat.succ (r.length.symm.trans l1)
  have e2 : ws.length = ks.length := rz.length.symm.trans l2
  have hus : us.length ≤ sizeLine := by
    rw [← r.length, l1, sizeLine_eq]
    omega
  refine wpAny_call (SsE.call_kw F hT (I.kIn _ _ hC) (PySem.W.looks_findIn I.kIn iC) (fun self => PySem.W.bind_fn I.kIn self tI) hus
    (codeAny_mono (F1.run _ X.stack _ _ ⟨Value.ref (hp.objs.size + 1) :: us, ks.zip ws⟩ (Value.ref (hp.objs.size + 1) :: us ++ ws) _ _ E (hr.make C us (ks.zip ws)) (I2.env0.make C us (ks.zip ws)) (hb.to _ _ _ e1 e2) r2 hq) fun r s' hq' => ?_))
  cases r with
  | error er => exact hx pins σ _ _ er s' I2 hq'
  | ok fl =>
    cases fl with
    | ret u =>
      obtain ⟨v, H', I3, rv, ev, q3⟩ := I2.after hq'
      subst ev
      exact ⟨rv, ⟨V.ref (hp.objs.size + 1), H', I3, rfl, q3⟩⟩
    | next => exact False.elim hq'
    | brk => exact False.elim hq'
    | cont => exact False.elim hq'
/-- C(e, ..) -/
theorem pe_emk (M : EMk X.prog X.w X.K X.mg X.base CX C ini k ps sp fd) (hm : X.mg x = some (.ref C)) (hr : Room j X.A) (hb : NB fd ps (n + 1) []) (hx : Passes CX X E) (ha : PA X (e :: es) ta) (hk : k + 1 ≤ j := by decide) (hn : n ≤ 1000 := by decide) (hg : Gl X x := by rfl)
    (hdb : (x == ("__debug__" : Str)) = false := by decide) (he : starEach (e :: es) X.env = (false, eval e X.env) :: starEach es X.env := by rfl) (hpl : (backTo pos (starEach es X.env)).any (·.1) = false := by rfl) :
    PE X (.Call (.Name x p) (e :: es) [] pos) (tEMk C n 0 sp E ta tNil) := by
  refine ⟨fun pins s σ H Q I h => ?_⟩
  refine wpAny_Call_Name_kw (ld_glob I hg hm ?_ hdb)
  refine PySem.W.callWith_K (h₀ := X.base) I.ok.mod.kin M.ec.kC (thn (ha.run pos pins s σ H _ I h) fun us s1 ⟨vs, H1, I1, r, l1, l2, q⟩ => ⟨I1.kIn, ?_⟩) he hpl
  exact run_emk (ks := []) (ws := []) (zs := []) M (hr.mono hk) hb hx hn I1 r .nil l1 rfl q
/-- C() -/
theorem pe_emk0 (M : EMk X.prog X.w X.K X.mg X.base CX C ini k ps sp fd) (hm : X.mg x = some (.ref C)) (hr : Room j X.A) (hb : NB fd ps 1 []) (hx : Passes CX X E) (hk : k + 1 ≤ j := by decide) (hg : Gl X x := by rfl)
    (hdb : (x == ("__debug__" : Str)) = false := by decide) : PE X (.Call (.Name x p) [] [] pos) (tEMk C 0 0 sp E tNil tNil) := by
  refine ⟨fun pins s σ H Q I h => ?_⟩
  refine wpAny_Call_Name_kw (ld_glob I hg hm ?_ hdb)
  obtain ⟨l1, l2, q⟩ := h
  exact PySem.W.callWith_K0 I.kIn M.ec.kC (run_emk (ks := []) (ws := []) (zs := []) (us := []) (vs := []) M (hr.mono hk) hb hx (Nat.zero_le _) I .nil .nil rfl rfl q)
/-- C(e, .., k = v) -/
theorem pe_emkK (M : EMk X.prog X.w X.K X.mg X.base CX C ini k ps sp fd) (hm : X.mg x = some (.ref C)) (hr : Room j X.A) (hb : NB fd ps (n + 1) ks) (hx : Passes CX X E) (ha : PA X (e :: es) ta) (hkw : PK X kws tk) (hk : k + 1 ≤ j := by decide) (hn : n ≤ 1000 := by decide) (hg : Gl X x := by rfl)
    (hall : (backToKw pos (keywordEach kws X.env)).all (·.1.isSome) = true := by rfl) (hks : (backToKw pos (keywordEach kws X.env)).filterMap (·.1) = ks := by rfl) (hdb : (x == ("__debug__" : Str)) = false := by decide)
    (he : starEach (e :: es) X.env = (false, eval e X.env) :: starEach es X.env := by rfl)
    (hpl : ((backTo pos (starEach (e :: es) X.env)).any (·.1) || (backToKw pos (keywordEach kws X.env)).any (·.1.isNone)) = false := by rfl) :
    PE X (.Call (.Name x p) (e :: es) kws pos) (tEMk C n ks.length sp E ta tk) := by
  refine ⟨fun pins s σ H Q I h => ?_⟩
  refine wpAny_Call_Name_kw (ld_glob I hg hm ?_ hdb)
  refine PySem.W.callWith_KW (h₀ := X.base) I.ok.mod.kin M.ec.kC hall (thn (ha.run pos pins s σ H _ I h) fun us s1 ⟨vs, H1, I1, r, q⟩ => ?_) hpl he
  refine thn (hkw.run pos pins s1 σ H1 _ I1 q) fun ws s2 ⟨zs, H2, I2, rz, l1, l2, q2⟩ => ⟨I2.kIn, ?_⟩
  rw [hks]
  exact run_emk M (hr.mono hk) hb hx hn I2 r rz l1 l2 q2
end
section
variable {X : Cx} {CX : CXT} {C : Addr} {ini : String} {k j n : Nat} {ps ks : List Str} {sp : Sp} {fd : FuncData} {E : XK} {x : Str} {p pos : Pos} {kws : List Keyword} {tk : TA}
/-- C(k = v) -/
theorem pe_emkK0 (M : EMk X.prog X.w X.K X.mg X.base CX C ini k ps sp fd) (hm : X.mg x = some (.ref C)) (hr : Room j X.A) (hb : NB fd ps 1 ks) (hx : Passes CX X E) (hkw : PK X kws tk) (hk : k + 1 ≤ j := by decide) (hg : Gl X x := by rfl)
    (hall : (backToKw pos (keywordEach kws X.env)).all (·.1.isSome) = true := by rfl) (hks : (backToKw pos (keywordEach kws X.env)).filterMap (·.1) = ks := by rfl) (hdb : (x == ("__debug__" : Str)) = false := by decide)
    (hpl : ((backTo pos (starEach [] X.env)).any (·.1) || (backToKw pos (keywordEach kws X.env)).any (·.1.isNone)) = false := by rfl) :
    PE X (.Call (.Name x p) [] kws pos) (tEMk C 0 ks.length sp E tNil tk) := by
  refine ⟨fun pins s σ H Q I h => ?_⟩
  refine wpAny_Call_Name_kw (ld_glob I hg hm ?_ hdb)
  refine PySem.W.callWith_KW0 (h₀ := X.base) I.ok.mod.kin M.ec.kC hall ?_ hpl
  refine thn (hkw.run pos pins s σ H _ I h) fun ws s2 ⟨zs, H2, I2, rz, l1, l2, q2⟩ => ⟨I2.kIn, ?_⟩
  rw [hks]
  exact run_emk (us := []) (vs := []) M (hr.mono hk) hb hx (Nat.zero_le _) I2 .nil rz rfl l2 q2
end
/-! ### an error's field, its class -/
/-- e.f, e an error that stands as a value -/
def tEF (K : PySem.W.Frag) (f : Str) (ta : TE) : TE := fun σ H Q => ta σ H fun x H1 => ∃ (a C d : Addr) (ini : String) (fs : List (Str × V)) (v : V), x = .ref a ∧ H1 a = some (exo a C (some d)) ∧ H1 d = some (exd d fs) ∧ EC K C ini ∧ PySem.W.findIn K (.ref C) f = some none ∧ fs.lookup f = some v ∧ Q v H1
theorem pe_ef {X : Cx} {e : Expr} {te : TE} {f : Str} {pos : Pos} (he : PE X e te) (hb : attributeBase e f X.env (eval e X.env) = eval e X.env := by rfl) : PE X (.Attribute e f pos) (tEF X.K f te) := by
  refine ⟨fun pins s σ H Q I h => ?_⟩
  refine attr_of hb (thn (he.run pins s σ H _ I h) fun u s1 hh => ?_)
  obtain ⟨x, H1, I1, rx, a, C, d, ini, fs, v, ex, ea, ed, T, hno, l, q⟩ := hh
  subst ex
  obtain rfl : u = Value.ref a := rx
  obtain ⟨t1, ha⟩ := exo_at I1.hok ea
  obtain ⟨mA, hns, hr⟩ := exd_at I1.hok ed
  obtain ⟨od, ho, hl⟩ := lookIn_ns hns
  obtain ⟨u, hu, ru⟩ := RelO.some_of (v := v) (o := mA f) (by rw [← l]; exact hr f)
  have J : PySem.W.InstAt s1.heap a { cls := .ref C, dict := some d, data := .fields #[.ref t1, .none, .none, .none, .bool false, .none] } C (some od) := ⟨ha, rfl, rfl, ho⟩
  exact HandSPX.exc_get I1.kIn J T.ga T.gg T.exC (PySem.W.findObj_own T.hdC hno rfl (by rw [hl, hu])) (handed_of ru) ⟨v, H1, I1.tok _, ru, q⟩
end Ss
namespace PySem.W
open PySem PySem.Spec PySem.Calls PyProof.Rows
section
variable {prog : Program} {w : World} {A : Around} {E : Value → Shared → Prop} {s : Shared} {K : Frag} {x D : Addr} {ox : Obj} {od : Option Obj}
theorem ssFindData {C : Addr} {name : Str} {a g : Value} (hc : (clsIn K C).isSome = true) (ha : findIn K (.ref C) name = some (some a)) (hg : specialIn K a "__get__" = some (some g)) (ht : takesIn K a = some true) : findObj K C od name = some (.bind g a) := by
  obtain ⟨cd, hc⟩ := Option.isSome_iff_exists.mp hc
  unfold findObj
  rw [hc, Option.bind_some, ha, Option.bind_some]
  simp [hg, ht]
theorem ssClassOf {Q : Option Value → Shared → Prop} (hga : findIn K (.ref D) "__getattribute__" = some (some (.builtin "BaseException.__getattribute__"))) (hgt : findIn K (.ref D) "__getattr__" = some none) (hsub : subIn K (.ref D) (.type "BaseException") = some true)
    (hdct : hasDictIn K D = true) (ha : findIn K (.ref D) "__class__" = some (some (.builtin "object.__class__")))
    (hn : specialIn K (.builtin "object.__class__") "__get__" = some (some (.builtin "getset_descriptor.__get__"))) (htk : takesIn K (.builtin "object.__class__") = some true) (hm : mroIn K D (.type "object") = some true)
    (X : K.In s.heap) (I : InstAt s.heap x ox D od) (h : Q (some (.ref D)) { s with toks := s.toks + 1 }) : wpAny (model prog w) A (getAttr? (.ref x) "__class__") Q E s := by
  have hf : findObj K D od "__class__" = some (.bind (.builtin "getset_descriptor.__get__") (.builtin "object.__class__")) := ssFindData (by obtain ⟨cd, hc, _⟩ := any_some hdct; rw [hc]; rfl) ha hn htk
  obtain ⟨hp, g, d, t, os⟩ := s
  have L0 := I.type (M := model prog w)
  have L1 := looks_findIn (M := model prog w) X hga
  have L2 := looks_findIn (M := model prog w) X hgt
  have L3 := looks_find (M := model prog w) X I hf
  have sub : Looks (model prog w) hp (isInstance (.ref x) (.type "BaseException")) true := L0.andThen (looks_subIn X hsub)
  have z0 : (false && onTheHeap (Value.builtin "BaseException.__getattribute__")) = false := rfl
  have z2 : (Value.builtin "BaseException.__getattribute__" == Value.builtin "object.__getattribute__") = false := by decide +kernel
  have z1 : (onTheHeap (Value.ref D) && Value.builtin "BaseException.__getattribute__" == Value.builtin "object.__getattribute__") = false := by rw [z2]; rfl
  unfold getAttr? getAttrBy? getAttrBy
  refine wpAny_bind (wpAny_mkText (wpAny_bind (wpAny_attempt (wpAny_holding (wpAny_bind (L0.at (wpAny_bind (L1.at ?_))))))))
  show wpAny _ _ (if (onTheHeap (Value.ref D) && Value.builtin "BaseException.__getattribute__" == Value.builtin "object.__getattribute__") = true then _ else _) _ _ _
  rw [z1, if_neg Bool.false_ne_true]
  unfold getAttrByItsOwn hookBefore
  refine wpAny_bind ?_
  rw [if_pos (show onTheHeap (Value.ref D) = true from rfl)]
  refine L2.at ?_
  refine wpAny_bind (wpAny_attempt (wpAny_holding ?_))
  unfold callGetattribute
  rw [z0, if_neg Bool.false_ne_true]
  unfold boundAndCalled
  rw [PySem.F.excAttr_ValueError.ga.bind (.ref x)]
  refine wpAny_bind (wpAny_pure ?_)
  show wpAny _ _ (call (.builtin "BaseException.__getattribute__") [.ref x, .str "__class__" t]) _ _ _
  refine wpAny_call (codeAny_call_builtin PySem.F.excAttr_ValueError.ga.plain PySem.F.entry_bexc_ga ?_)
  refine @check_slot (model prog w) _ _ ⟨hp, g, d, t + 1, os⟩ "BaseException.__getattribute__" "BaseException" "__getattribute__" (.ref x) [.str "__class__" t] [] _ (by decide +kernel) (by decide +kernel) sub (PySem.F.args_bexc_ga (.ref x) (.str "__class__" t)) ?_
  unfold Builtin.«object.__getattribute__»
  refine wpAny_bind (wpAny_of_eq (a := ((Value.ref x : Value), [Value.str "__class__" t])) (by first | rfl | (simp only [slotArgs]; rfl)) ?_)
  refine wpAny_bind (wpAny_pure (wpAny_bind (L0.at (wpAny_bind (L3.at ?_)))))
  show wpAny _ _ (holding [Value.builtin "object.__class__"] (call (.builtin "getset_descriptor.__get__") [.builtin "object.__class__", .ref x, .ref D]) >>= ret) _ _ _
  refine wpAny_bind (wpAny_holding (wpAny_call (class_get (s := ⟨hp, g, d, t + 1, os⟩) (ox := ox) (od := od) X I hm ?_)))
  refine wpAny_pure ?_
  show wpAny _ _ (handedOut (.ref D)) _ _ _
  rw [handedOut_of (v := .ref D) rfl]
  first
    | exact wpAny_pure (wpAny_pure h)
    | exact wpAny_pure h
    | exact wpAny_pure (wpAny_bind (wpAny_pure (wpAny_pure h)))
theorem ssKit (hga : findIn K (.ref D) "__getattribute__" = some (some (.builtin "BaseException.__getattribute__"))) (hgt : findIn K (.ref D) "__getattr__" = some none) (hsub : subIn K (.ref D) (.type "BaseException") = some true) (hdct : hasDictIn K D = true) (ha : findIn K (.ref D) "__class__" = some (some (.builtin "object.__class__")))
    (hn : specialIn K (.builtin "object.__class__") "__get__" = some (some (.builtin "getset_descriptor.__get__"))) (htk : takesIn K (.builtin "object.__class__") = some true) (hm : mroIn K D (.type "object") = some true) :
    KitX K (.ref x) (.ref D) (fun h => ∃ od, InstAt h x ox D od) where
  ty := fun _ _ _ I => let ⟨_, I⟩ := I; I.type
  it := fun _ _ X _ => by
    obtain ⟨cdD, hcD, _⟩ := any_some hdct
    unfold clsIn at hcD
    split at hcD
    · rename_i c' d' cd' sl' ho
      intro A' Q' E' s' k q
      unfold isType loadHead
      exact wpAny_bind (wpAny_loadPart (k _ _ (X _ _ ho)) (wpAny_pure q))
    · cases hcD
  ne := fun h tp dd its n sl X htp => by
    obtain ⟨cdD, hcD, _⟩ := any_some hdct
    refine Bool.eq_false_iff.mpr fun q => ?_
    have e : D = tp := Value.ref.inj (beq_iff_eq.mp q)
    subst e
    unfold clsIn at hcD
    split at hcD
    · rename_i c' d' cd' sl' ho
      have z := (X _ _ ho).symm.trans htp
      cases z
    · cases hcD
  ca := fun X I k => let ⟨_, I⟩ := I; ssClassOf hga hgt hsub hdct ha hn htk hm X I k
end
end PySem.W
namespace Ss
open PySem L2 PySem.Spec PyProof.Rows
/-- isinstance(x, c), x an error that stands as a value -/
def rIsX (K : PySem.W.Frag) : List V → Hp → VK → Prop := fun xs H Q => ∃ (a C : Addr) (dd : Option Addr) (ini : String) (c : V) (cv : Value) (b : Bool), xs = [.ref a, c] ∧ H a = some (exo a C dd) ∧ (∀ d, dd = some d → ∃ fs, H d = some (exd d fs)) ∧ EC K C ini ∧ ClsV c cv ∧ PySem.W.kitOne K (.ref C) cv = some b ∧ Q (.bl b) H
theorem call_isx {X : Cx} : CallR X (.builtin "isinstance") (rIsX X.K) := by
  intro pins s σ H xs us Q I r h
  obtain ⟨a, C, dd, ini, c, cv, b, rfl, ea, ed, T, k, e, q⟩ := h
  obtain ⟨u1, u2, rfl, r1, r2⟩ := vals2 r
  have e2 := k.eq r2
  subst e2
  cases (show u1 = Value.ref a from r1)
  obtain ⟨t1, ha⟩ := exo_at I.hok ea
  have J : ∃ od, PySem.W.InstAt s.heap a { cls := .ref C, dict := dd, data := .fields #[.ref t1, .none, .none, .none, .bool false, .none] } C od := by
    cases dd with
    | none => exact ⟨none, ha, rfl, rfl, trivial⟩
    | some d =>
      obtain ⟨fs, ed⟩ := ed d rfl
      obtain ⟨mA, hns, hr⟩ := exd_at I.hok ed
      obtain ⟨od, ho, hl⟩ := lookIn_ns hns
      exact ⟨some od, ha, rfl, rfl, ho⟩
  exact PySem.W.kia_one (PySem.W.ssKit T.ga T.gg T.exC T.hdC T.ha T.hn T.ht T.hm) I.kIn J e (fun z => nomatch z) fun tk => ⟨.bl b, H, I.kept (t' := tk) fun _ _ z => z, rfl, q⟩
end Ss
namespace Ss
open PySem L2 PySem.Spec PyProof.Rows
/-! ### a text made of a value: some bounded text -/
def leafOk : V → Prop
  | .non => True
  | .bl _ => True
  | .int i => i.natAbs.log2 < 1920
  | .str y => y.length ≤ 1000 ∧ ∀ c ∈ y.cps.toList, c < 16 ^ 8
  | _ => False
def leafTx : V → Str
  | .non => "None"
  | .bl b => if b then "True" else "False"
  | .int i => toString i
  | .str y => reprText y
  | _ => ""
theorem leaf_len {x : V} (h : leafOk x) : (leafTx x).length ≤ 10002 := by
  cases x with
  | non => decide +kernel
  | bl b => cases b <;> decide +kernel
  | int i =>
    have e := int_text_length_le (k := 1920) (by decide) (show i.natAbs.log2 < 1920 from h)
    show (Str.ofString (toString i)).length ≤ _
    rw [PySem.ofString_length]
    omega
  | str y =>
    have e := StrLaws.reprText_len y h.2
    have e2 : y.length ≤ 1000 := h.1
    show (reprText y).length ≤ _
    omega
  | _ => exact False.elim h
theorem leaf_repr {prog : Program} {w : World} {x : V} {u : Value} (h : leafOk x) (r : RelV x u) : ReprIs prog w u (leafTx x) := by
  have hl := leaf_len h
  have hz : (leafTx x).length ≤ sizeLine := Nat.le_trans hl (by decide)
  cases x with
  | non => cases r; exact ReprIs.none
  | bl b => cases r; exact ReprIs.bool b
  | int i => obtain ⟨t, rfl⟩ := r; exact ReprIs.int t h
  | str y => obtain ⟨t, rfl⟩ := r; exact ReprIs.str y t hz
  | _ => exact False.elim h
theorem leaf_all {prog : Program} {w : World} : ∀ {l : List V} {us : List Value}, Vals l us → (∀ y ∈ l, leafOk y) → ReprAll prog w us (l.map leafTx)
  | _, _, .nil, _ => .nil
  | _, _, .cons r rr, h => .cons (leaf_repr (h _ List.mem_cons_self) r) (leaf_all rr fun y hy => h y (List.mem_cons_of_mem _ hy))
theorem leaf_piled : ∀ {l : List V}, (∀ y ∈ l, leafOk y) → piled (l.map leafTx) ≤ 10004 * l.length
  | [], _ => Nat.zero_le _
  | x :: l, h => by
    have h1 := leaf_len (h x List.mem_cons_self)
    have h2 := leaf_piled (l := l) fun y hy => h y (List.mem_cons_of_mem _ hy)
    rw [List.map_cons, piled_cons, List.length_cons]
    omega
/-- such values may stand in an error's text -/
def Shown (K : PySem.W.Frag) (H : Hp) (x : V) : Prop := leafOk x ∨ ∃ (a : Addr) (l : List V), x = .ref a ∧ SqT K H a l ∧ (∀ y ∈ l, leafOk y) ∧ l.length ≤ 100
/-- {x!r}, {x!s} -/
def tFmtX (K : PySem.W.Frag) (te : TE) : TE := fun σ H Q => te σ H fun x H1 => Shown K H1 x ∧ ∀ m : Str, m.length ≤ 1100000 → Q (.str m) H1
section
variable {X : Cx} {e : Expr} {te : TE} {pos : Pos} {k : Nat}
theorem fmt_mem {prog : Program} {w : World} {A : Around} {E : Value → Shared → Prop} {s : Shared} {a : Addr} {o : Obj} {items : Array Value} {n : Nat} {ts : List Str} {Q : Value → Shared → Prop} (hu : A.units < cLine) (ha : s.heap.get? a = some o) (hc : o.cls = .type "tuple") (hd : o.data = .seq items n)
    (hT : ReprAll prog w items.toList ts) (hsz : (tupleText ts).length ≤ sizeLine) (h : ∀ (m : Str) (u tk : Tok), m.length ≤ (tupleText ts).length + 5 → Q (.str m u) { s with toks := tk }) : wpAny (model prog w) A (pyReprObj (.ref a)) Q E s :=
  wpAny_pyReprObj_slot hu ⟨o, ha, hc⟩ F.slot_tuple_repr (fmt_tuple_repr ha hc hd hT hsz fun m u tk hm => ⟨m, u, rfl, h m u tk hm⟩)
theorem pe_fmtX (hr : Room k X.A) (he : PE X e te) : PE X (.FormattedValue e 114 none pos) (tFmtX X.K te) := by
  refine ⟨fun pins s σ H Q I h => ?_⟩
  refine wpAny_FormattedValue_repr (thn (he.run pins s σ H _ I h) fun v s1 hv => ?_)
  obtain ⟨x, H1, I1, r1, sh, q⟩ := hv
  have fin : ∀ (m : Str) (u tk : Tok), m.length ≤ 1100000 → wpAny (model X.prog X.w) X.A (formatField (.str m u) Str.empty) (EP X pins σ Q) X.xe { s1 with toks := tk } := fun m u tk hm =>
    wpAny_formatField_str ⟨.str m, H1, I1.tok _, ⟨_, rfl⟩, q m hm⟩ ⟨.str m, H1, I1.tok _, ⟨_, rfl⟩, q m hm⟩ (Nat.le_trans hm (by decide))
  rcases sh with sh | ⟨a, l, rfl, ht, hl, hn⟩
  · have hz : (leafTx x).length ≤ 1100000 := Nat.le_trans (leaf_len sh) (by decide)
    have hz2 : (leafTx x).length ≤ sizeLine := Nat.le_trans hz (by decide)
    cases x with
    | non => cases r1; exact pyReprObj_none (fin _ _ _ hz)
    | bl b => cases r1; exact pyReprObj_bool (fin _ _ _ hz)
    | int i => obtain ⟨t, rfl⟩ := r1; exact pyReprObj_int sh (fin _ _ _ hz)
    | str y => obtain ⟨t, rfl⟩ := r1; exact pyReprObj_str (fin _ _ _ hz) hz2
    | _ => exact False.elim sh
  · cases r1
    obtain ⟨its, rv, ⟨o, ho, hcl, n, hd⟩, _⟩ := I1.tuple ht
    have hp := leaf_piled hl
    have htx := fmt_text (l.map leafTx)
    have hb : (tupleText (l.map leafTx)).length + 5 ≤ 1100000 := by omega
    exact fmt_mem hr.units0 ho hcl hd (leaf_all rv hl) (Nat.le_trans (Nat.le_trans (Nat.le_add_right _ 5) hb) (by decide)) fun m u tk hm => fin m u tk (Nat.le_trans hm hb)
theorem pe_fmtS (hr : Room k X.A) (he : PE X e te) : PE X (.FormattedValue e 115 none pos) (tFmtX X.K te) := by
  refine ⟨fun pins s σ H Q I h => ?_⟩
  refine wpAny_FormattedValue_s (thn (he.run pins s σ H _ I h) fun v s1 hv => ?_)
  obtain ⟨x, H1, I1, r1, sh, q⟩ := hv
  have fin : ∀ (m : Str) (u tk : Tok), m.length ≤ 1100000 → wpAny (model X.prog X.w) X.A (formatField (.str m u) Str.empty) (EP X pins σ Q) X.xe { s1 with toks := tk } := fun m u tk hm =>
    wpAny_formatField_str ⟨.str m, H1, I1.tok _, ⟨_, rfl⟩, q m hm⟩ ⟨.str m, H1, I1.tok _, ⟨_, rfl⟩, q m hm⟩ (Nat.le_trans hm (by decide))
  rcases sh with sh | ⟨a, l, rfl, ht, hl, hn⟩
  · have hz : (leafTx x).length ≤ 1100000 := Nat.le_trans (leaf_len sh) (by decide)
    cases x with
    | non => cases r1; exact pyStrObj_none (fin _ _ _ hz)
    | bl b => cases r1; exact pyStrObj_bool (fin _ _ _ hz)
    | int i => obtain ⟨t, rfl⟩ := r1; exact pyStrObj_int sh (fin _ _ _ hz)
    | str y =>
      obtain ⟨t, rfl⟩ := r1
      have hy : y.length ≤ 1100000 := Nat.le_trans sh.1 (by decide)
      show wpAny _ _ (habitSame "fstring-hands-on-the-str" (.str y t)) _ _ _
      exact wpAny_habitSame_str (fin _ _ _ hy) (fin _ _ _ hy) (Nat.le_trans hy (by decide))
    | _ => exact False.elim sh
  · cases r1
    obtain ⟨its, rv, ⟨o, ho, hcl, n, hd⟩, _⟩ := I1.tuple ht
    have hp := leaf_piled hl
    have htx := fmt_text (l.map leafTx)
    have hb : (tupleText (l.map leafTx)).length + 5 ≤ 1100000 := by omega
    have hu := hr.units
    exact convS_slot (fun _ _ => nofun) (by omega) ⟨o, ho, hcl⟩ F.slot_tuple_str F.slot_tuple_repr
      (fmt_tuple_repr ho hcl hd (leaf_all rv hl) (Nat.le_trans (Nat.le_trans (Nat.le_add_right _ 5) hb) (by decide)) fun m u tk hm => ⟨m, u, rfl, fin m u tk (Nat.le_trans hm hb)⟩)
end
/-! ### an error's text: written parts and values one behind the other -/
/-- a part: a written text, or a value -/
def PartOk (K : PySem.W.Frag) (σ : L2.St) (H : Hp) (t : TE) : Prop := ∀ Q : VK, (∀ m : Str, m.length ≤ 1100000 → Q (.str m) H) → t σ H Q
theorem part_c {K : PySem.W.Frag} {σ : L2.St} {H : Hp} {z : Str} (h : z.length ≤ 1100000) : PartOk K σ H (tC (.str z)) := fun _ q => q z h
theorem part_v {K : PySem.W.Frag} {σ : L2.St} {H : Hp} {i : Nat} {x : V} (hx : σ[i]? = some (some x)) (h : Shown K H x) : PartOk K σ H (tFmtX K (tVar i)) := fun _ q => ⟨x, hx, h, fun m hm => q m hm⟩
theorem parts_run {K : PySem.W.Frag} {σ : L2.St} {H : Hp} : ∀ {ts : List TE} {acc : Str} {n : Nat} {Q : Str → Hp → Prop}, (∀ t ∈ ts, PartOk K σ H t) → acc.length ≤ 1100000 * n → n + ts.length ≤ 12 → (∀ z, Q z H) → tJs ts acc σ H Q
  | [], _, _, _, _, _, _, q => q _
  | t :: ts, acc, n, Q, h, ha, hn, q => by
    refine h t List.mem_cons_self _ fun m hm => ?_
    have e : (acc ++ m).length = acc.length + m.length := strLen_append acc m
    have hn : n + (ts.length + 1) ≤ 12 := hn
    refine ⟨m, rfl, ?_, parts_run (n := n + 1) (fun t ht => h t (List.mem_cons_of_mem _ ht)) ?_ (by omega) q⟩
    · rw [e]; exact Nat.le_trans (show _ ≤ 1100000 * 12 by omega) (by decide)
    · rw [e]; omega
end Ss
namespace Ss
open PySem L2 PySem.Spec PyProof.Rows
/-! ### data -/
mutual
theorem Dp.mono {K : PySem.W.Frag} {H H' : Hp} (s : Same H H') : ∀ {v : V} {d : PyData}, Dp K H v d → Dp K H' v d
  | _, _, .non => .non
  | _, _, .bl b => .bl b
  | _, _, .int i => .int i
  | _, _, .str x => .str x
  | _, _, .lst h a => .lst (s.seq h) (DpAll.mono s a)
  | _, _, .tup h a => .tup (Evl.ex_t s h) (DpAll.mono s a)
theorem DpAll.mono {K : PySem.W.Frag} {H H' : Hp} (s : Same H H') : ∀ {vs : List V} {ds : List PyData}, DpAll K H vs ds → DpAll K H' vs ds
  | _, _, .nil => .nil
  | _, _, .cons h t => .cons (Dp.mono s h) (DpAll.mono s t)
end
theorem DpAll.get {K : PySem.W.Frag} {H : Hp} : ∀ {vs : List V} {ds : List PyData} {i : Nat} {v : V}, DpAll K H vs ds → vs[i]? = some v → ∃ d, ds[i]? = some d ∧ Dp K H v d
  | _, _, _, _, .nil, e => by simp at e
  | _, _, 0, _, .cons h _, e => by
    simp at e
    subst e
    exact ⟨_, rfl, h⟩
  | _, _, i + 1, _, .cons _ t, e => by
    obtain ⟨d, h1, h2⟩ := DpAll.get (i := i) t (by simpa using e)
    exact ⟨d, by simpa using h1, h2⟩
theorem DpAll.len {K : PySem.W.Frag} {H : Hp} : ∀ {vs : List V} {ds : List PyData}, DpAll K H vs ds → vs.length = ds.length
  | _, _, .nil => rfl
  | _, _, .cons _ t => by rw [List.length_cons, List.length_cons, DpAll.len t]
theorem DpAll.snoc {K : PySem.W.Frag} {H : Hp} {v : V} {d : PyData} : ∀ {vs : List V} {ds : List PyData}, DpAll K H vs ds → Dp K H v d → DpAll K H (vs ++ [v]) (ds ++ [d])
  | _, _, .nil, h => .cons h .nil
  | _, _, .cons a t, h => .cons a (DpAll.snoc t h)
/-- tuples within each other at most n deep, of at most a thousand items each -/
def tupD : Nat → PyData → Bool
  | _, .none => true
  | _, .bool _ => true
  | _, .int _ => true
  | _, .str _ => true
  | n + 1, .tuple ds => decide (ds.length ≤ 1000) && ds.all (tupD n)
  | _, _ => false
/-- the type of a value that is data -/
def tyD : PyData → String
  | .none => "NoneType"
  | .bool _ => "bool"
  | .int _ => "int"
  | .str _ => "str"
  | .list _ => "list"
  | .tuple _ => "tuple"
  | .dict _ => "dict"
theorem dp_ty {K : PySem.W.Frag} {H : Hp} {v : V} {d : PyData} (h : Dp K H v d) (hl : ∀ ds, d ≠ .list ds) : TyX K H v (.type (tyD d)) := by
  cases h with
  | non => exact .base .non
  | bl b => exact .base (.bl b)
  | int i => exact .base (.int i)
  | str x => exact .base (.str x)
  | lst h a => exact absurd rfl (hl _)
  | tup h a =>
    rcases h with (h | ⟨o, h⟩) | ⟨o, its, n, lk, c, dd, r⟩
    · exact .base (.tup h)
    · exact .fTuple h
    · exact .kTuple lk c
theorem tupD_all {n : Nat} {ds : List PyData} (h : tupD (n + 1) (.tuple ds) = true) : ds.length ≤ 1000 ∧ ∀ d ∈ ds, tupD n d = true := by
  have h : (decide (ds.length ≤ 1000) && ds.all (tupD n)) = true := h
  rw [Bool.and_eq_true] at h
  exact ⟨of_decide_eq_true h.1, List.all_eq_true.mp h.2⟩
theorem DpAll.imp {K : PySem.W.Frag} {H H' : Hp} {p : PyData → Prop} (f : ∀ d v, p d → Dp K H v d → Dp K H' v d) : ∀ {vs : List V} {ds : List PyData}, DpAll K H vs ds → (∀ d ∈ ds, p d) → DpAll K H' vs ds
  | _, _, .nil, _ => .nil
  | _, _, .cons h t, hp => .cons (f _ _ (hp _ List.mem_cons_self) h) (DpAll.imp f t fun d hd => hp d (List.mem_cons_of_mem _ hd))
/-- no tuple -/
def NotTup : Option HO → Prop
  | some (.tup _) => False
  | some (.frz _ (.tup _)) => False
  | _ => True
/-- what is no tuple, and changes, is no part of such data -/
theorem Dp.off {K : PySem.W.Frag} {H H' : Hp} {b : Addr} (s : Off b H H') (hb : NotTup (H b)) : ∀ (n : Nat) (d : PyData) (v : V), tupD n d = true → Dp K H v d → Dp K H' v d := by
  intro n
  induction n with
  | zero =>
    intro d v ht h
    cases h with
    | non => exact .non
    | bl b => exact .bl b
    | int i => exact .int i
    | str x => exact .str x
    | lst _ _ => exact Bool.noConfusion ht
    | tup _ _ => exact Bool.noConfusion ht
  | succ n ih =>
    intro d v ht h
    cases h with
    | non => exact .non
    | bl b => exact .bl b
    | int i => exact .int i
    | str x => exact .str x
    | lst _ _ => exact Bool.noConfusion ht
    | @tup a xs ds hs ha =>
      have hall := (tupD_all ht).2
      refine .tup (xs := xs) ?_ ?_
      · rcases hs with (hs | ⟨q, hs⟩) | hs
        · exact .inl (.inl (s _ _ (fun z => by rw [← z, hs] at hb; exact hb) hs))
        · exact .inl (.inr ⟨q, s _ _ (fun z => by rw [← z, hs] at hb; exact hb) hs⟩)
        · exact .inr hs
      · exact DpAll.imp (p := fun d => tupD n d = true) (fun d v hd h => ih d v hd h) ha hall
theorem DpAll.off {K : PySem.W.Frag} {H H' : Hp} {b : Addr} {n : Nat} (s : Off b H H') (hb : NotTup (H b)) {vs : List V} {ds : List PyData} (h : ∀ d ∈ ds, tupD n d = true) (a : DpAll K H vs ds) : DpAll K H' vs ds :=
  DpAll.imp (p := fun d => tupD n d = true) (fun d v hd h => Dp.off s hb n d v hd h) a h
theorem Shown.mono {K : PySem.W.Frag} {H H' : Hp} {x : V} (s : Same H H') (h : Shown K H x) : Shown K H' x := by
  rcases h with h | ⟨a, l, e, ht, r⟩
  · exact .inl h
  · exact .inr ⟨a, l, e, Evl.ex_t s ht, r⟩
theorem Shown.off {K : PySem.W.Frag} {H H' : Hp} {b : Addr} (s : Off b H H') (hb : NotTup (H b)) {x : V} (h : Shown K H x) : Shown K H' x := by
  rcases h with h | ⟨a, l, e, hs, r⟩
  · exact .inl h
  · refine .inr ⟨a, l, e, ?_, r⟩
    rcases hs with (hs | ⟨q, hs⟩) | hs
    · exact .inl (.inl (s _ _ (fun z => by rw [← z, hs] at hb; exact hb) hs))
    · exact .inl (.inr ⟨q, s _ _ (fun z => by rw [← z, hs] at hb; exact hb) hs⟩)
    · exact .inr hs
/-- kept(value): the same data -/
def spKept (K : PySem.W.Frag) (n : Nat) : Sp := fun vs H Q _ => ∃ (v : V) (d : PyData), vs = [v] ∧ Dp K H v d ∧ tupD n d = true ∧ ∀ (v' : V) (H' : Hp), Same H H' → Dp K H' v' d → Q v' H'
/-- a def whose calls are never reached -/
theorem Dk.never {P : Program} {w : World} {K : PySem.W.Frag} {mg : Str → Option Value} {base : Heap} {x : Str} {st : Stmt} {ps : List Str} (D : DefAt K mg x st) (b : ∀ f fd, Fun K x x st f fd → Binds K fd ps []) : Dk P w K mg base CX0 0 x ps (fun _ _ _ _ => False) := by
  obtain ⟨f, fd, F, mf⟩ := D.ex
  exact ⟨f, fd, ⟨fun _ _ _ _ h => h.elim, fun _ _ _ _ _ _ _ _ _ _ _ _ _ h => h.elim⟩, mf, F.kp, b f fd F⟩
/-! ### an error's fields, one after another -/
/-- since H0 the error at a, which was being made, has got the fields fs (the last one first) -/
def Part (K : PySem.W.Frag) (H0 H' : Hp) (a C : Addr) (n : Nat) (fs : List (Str × PyData)) : Prop := Off a H0 H' ∧ NotTup (H0 a) ∧
  ((fs = [] ∧ H' a = some (exo a C none)) ∨ ∃ (dx : Addr) (vs : List (Str × V)), H' a = some (exo a C (some dx)) ∧ H' dx = some (exd dx vs) ∧ H0 dx = none ∧ dx ≠ a ∧ vs.length = fs.length ∧ ∀ f d, fs.lookup f = some d → tupD n d = true ∧ ∃ v, vs.lookup f = some v ∧ Dp K H' v d)
theorem nt_exo {a C : Addr} {d : Option Addr} : NotTup (some (exo a C d)) := trivial
theorem nt_exd {a : Addr} {fs : List (Str × V)} : NotTup (some (exd a fs)) := trivial
theorem lookup_hd {α : Type} (f g : Str) (y : α) (fs : List (Str × α)) : ((f, y) :: fs).lookup g = if g = f then some y else fs.lookup g := by
  by_cases h : g = f
  · subst h
    simp [List.lookup]
  · have e : (g == f) = false := by simpa using h
    rw [if_neg h]
    simp [List.lookup, e]
/-- self.f = kept(x) -/
theorem est_turn {K : PySem.W.Frag} {H0 H' : Hp} {a C : Addr} {n i : Nat} {ini : String} {f : Str} {fs : List (Str × PyData)} {σ : L2.St} {D : Ends} {x : V} {d : PyData} (T : EC K C ini) (hno : PySem.W.findIn K (.ref C) f = some none)
    (h0 : σ[0]? = some (some (.ref a))) (hi : σ[i]? = some (some x)) (hp : Part K H0 H' a C n fs) (hd : Dp K H0 x d) (ht : tupD n d = true) (hl : fs.length ≤ 900) (k : ∀ H'', Part K H0 H'' a C n ((f, d) :: fs) → D.nx σ H'') :
    tEst K ini f (tVar 0) (tCall (spKept K n) [] E0 (tCons (tVar i) tNil)) D σ H' := by
  obtain ⟨hO, hN, hc⟩ := hp
  refine ⟨x, hi, x, d, rfl, Dp.off hO hN n d x ht hd, ht, fun x' H1 s1 hx' => ?_⟩
  refine ⟨_, h0, a, C, rfl, T, hno, ?_⟩
  rcases hc with ⟨rfl, ha⟩ | ⟨dx, vs, ha, hdx, h0x, hne, hvl, hv⟩
  · refine .inl ⟨s1 _ _ ha, fun dx ndx ne => k _ ⟨fun b o nb hb => ?_, hN, .inr ⟨dx, [(f, x')], upd_same, ?_, ?_, ne, rfl, ?_⟩⟩⟩
    · have q := s1 _ _ (hO b o nb hb)
      rw [upd_ne nb, upd_ne (ne_of_none q ndx)]
      exact q
    · rw [upd_ne ne, upd_same]
    · cases q : H0 dx with
      | none => rfl
      | some o =>
        have z := s1 _ _ (hO dx o ne q)
        rw [ndx] at z
        cases z
    · intro g e hg
      rw [lookup_hd] at hg
      by_cases hgf : g = f
      · rw [if_pos hgf] at hg
        cases hg
        refine ⟨ht, x', by rw [lookup_hd, if_pos hgf], ?_⟩
        have o1 : Off a H1 (upd (upd H1 dx (exd dx [(f, x')])) a (exo a C (some dx))) := ((Off.refl a H1).new ndx).upd
        exact Dp.off o1 (by rw [s1 _ _ ha]; exact nt_exo) n d x' ht hx'
      · rw [if_neg hgf] at hg
        cases hg
  · refine .inr ⟨dx, vs, s1 _ _ ha, s1 _ _ hdx, by omega, k _ ⟨fun b o nb hb => ?_, hN, .inr ⟨dx, (f, x') :: vs, ?_, upd_same, h0x, hne, by rw [List.length_cons, List.length_cons, hvl], ?_⟩⟩⟩
    · have nbd : b ≠ dx := fun z => by rw [z, h0x] at hb; cases hb
      rw [upd_ne nbd]
      exact s1 _ _ (hO b o nb hb)
    · have nad : a ≠ dx := fun z => hne z.symm
      rw [upd_ne nad]
      exact s1 _ _ ha
    · have o1 : Off dx H1 (upd H1 dx (exd dx ((f, x') :: vs))) := (Off.refl dx H1).upd
      have n1 : NotTup (H1 dx) := by rw [s1 _ _ hdx]; exact nt_exd
      intro g e hg
      rw [lookup_hd] at hg
      by_cases hgf : g = f
      · rw [if_pos hgf] at hg
        cases hg
        exact ⟨ht, x', by rw [lookup_hd, if_pos hgf], Dp.off o1 n1 n d x' ht hx'⟩
      · rw [if_neg hgf] at hg
        obtain ⟨t1, v, h1, h2⟩ := hv g e hg
        exact ⟨t1, v, by rw [lookup_hd, if_neg hgf]; exact h1, Dp.off o1 n1 n e v t1 (Dp.mono s1 h2)⟩
end Ss
namespace Ss
open PySem L2 PySem.Spec PyProof.Rows
/-- the error class x of the text: its own __init__ keeps sp -/
structure EDef (P : Program) (w : World) (K : PySem.W.Frag) (mg : Str → Option Value) (base : Heap) (k : Nat) (x : Str) (C : Addr) (ini : String) (ps : List Str) (sp : Sp) : Prop where
  ex : ∃ (fd : FuncData), EMk P w K mg base CX0 C ini k ps sp fd ∧ mg x = some (.ref C) ∧ ∀ n, n + 1 ≤ ps.length → NB fd ps (n + 1) (ps.drop (n + 1))
section
variable {X : Cx} {C : Addr} {ini : String} {k j n : Nat} {ps ks : List Str} {sp : Sp} {x : Str} {p pos : Pos} {e : Expr} {es : List Expr} {kws : List Keyword} {ta tk : TA}
theorem pe_en (n : Nat) (D : EDef X.prog X.w X.K X.mg X.base k x C ini ps sp) (hr : Room j X.A) (ha : PA X (e :: es) ta) (hd : ps.drop (n + 1) = [] := by rfl) (hl : n + 1 ≤ ps.length := by decide) (hk : k + 1 ≤ j := by decide) (hn : n ≤ 1000 := by decide) (hg : Gl X x := by rfl)
    (hdb : (x == ("__debug__" : Str)) = false := by decide) (he : starEach (e :: es) X.env = (false, eval e X.env) :: starEach es X.env := by rfl) (hpl : (backTo pos (starEach es X.env)).any (·.1) = false := by rfl) :
    PE X (.Call (.Name x p) (e :: es) [] pos) (tEMk C n 0 sp E0 ta tNil) := by
  obtain ⟨fd, M, hm, nb⟩ := D.ex
  exact pe_emk M hm hr (by have q := nb n hl; rw [hd] at q; exact q) pass0 ha hk hn hg hdb he hpl
theorem pe_en0 (D : EDef X.prog X.w X.K X.mg X.base k x C ini ps sp) (hr : Room j X.A) (hd : ps.drop 1 = [] := by rfl) (hl : 1 ≤ ps.length := by decide) (hk : k + 1 ≤ j := by decide) (hg : Gl X x := by rfl)
    (hdb : (x == ("__debug__" : Str)) = false := by decide) : PE X (.Call (.Name x p) [] [] pos) (tEMk C 0 0 sp E0 tNil tNil) := by
  obtain ⟨fd, M, hm, nb⟩ := D.ex
  exact pe_emk0 M hm hr (by have q := nb 0 hl; rw [hd] at q; exact q) pass0 hk hg hdb
theorem pe_enK (n : Nat) (D : EDef X.prog X.w X.K X.mg X.base k x C ini ps sp) (hr : Room j X.A) (ha : PA X (e :: es) ta) (hkw : PK X kws tk) (hl : n + 1 ≤ ps.length := by decide) (hk : k + 1 ≤ j := by decide) (hn : n ≤ 1000 := by decide) (hg : Gl X x := by rfl)
    (hall : (backToKw pos (keywordEach kws X.env)).all (·.1.isSome) = true := by rfl) (hks : (backToKw pos (keywordEach kws X.env)).filterMap (·.1) = ps.drop (n + 1) := by rfl) (hdb : (x == ("__debug__" : Str)) = false := by decide)
    (he : starEach (e :: es) X.env = (false, eval e X.env) :: starEach es X.env := by rfl)
    (hpl : ((backTo pos (starEach (e :: es) X.env)).any (·.1) || (backToKw pos (keywordEach kws X.env)).any (·.1.isNone)) = false := by rfl) :
    PE X (.Call (.Name x p) (e :: es) kws pos) (tEMk C n (ps.drop (n + 1)).length sp E0 ta tk) := by
  obtain ⟨fd, M, hm, nb⟩ := D.ex
  exact pe_emkK M hm hr (nb n hl) pass0 ha hkw hk hn hg hall hks hdb he hpl
theorem pe_enK0 (D : EDef X.prog X.w X.K X.mg X.base k x C ini ps sp) (hr : Room j X.A) (hkw : PK X kws tk) (hl : 1 ≤ ps.length := by decide) (hk : k + 1 ≤ j := by decide) (hg : Gl X x := by rfl)
    (hall : (backToKw pos (keywordEach kws X.env)).all (·.1.isSome) = true := by rfl) (hks : (backToKw pos (keywordEach kws X.env)).filterMap (·.1) = ps.drop 1 := by rfl) (hdb : (x == ("__debug__" : Str)) = false := by decide)
    (hpl : ((backTo pos (starEach [] X.env)).any (·.1) || (backToKw pos (keywordEach kws X.env)).any (·.1.isNone)) = false := by rfl) :
    PE X (.Call (.Name x p) [] kws pos) (tEMk C 0 (ps.drop 1).length sp E0 tNil tk) := by
  obtain ⟨fd, M, hm, nb⟩ := D.ex
  exact pe_emkK0 M hm hr (nb 0 hl) pass0 hkw hk hg hall hks hdb hpl
end
/-- the values xs are the data ds, and may stand in an error's text -/
def EDat (K : PySem.W.Frag) (H : Hp) (n : Nat) (xs : List V) (ds : List PyData) : Prop := xs.length = ds.length ∧ ∀ (i : Nat) (x : V), xs[i]? = some x → ∃ d, ds[i]? = some d ∧ Dp K H x d ∧ tupD n d = true ∧ Shown K H x
/-- C.__init__(self, ..): an error with its fields -/
def spErr (K : PySem.W.Frag) (C : Addr) (fs : List Str) (n : Nat) : Sp := fun vs H Q _ => ∃ (a : Addr) (xs : List V) (ds : List PyData), vs = .ref a :: xs ∧ xs.length = fs.length ∧ H a = some (exo a C none) ∧ EDat K H n xs ds ∧
  ∀ H', Part K H H' a C n ((fs.zip ds).reverse) → Q .non H'
theorem one_of {α : Type} {xs : List α} (h : xs.length = 1) : ∃ x, xs = [x] := by
  match xs, h with
  | [x], _ => exact ⟨x, rfl⟩
theorem two_of {α : Type} {xs : List α} (h : xs.length = 2) : ∃ x y, xs = [x, y] := by
  match xs, h with
  | [x, y], _ => exact ⟨x, y, rfl⟩
theorem three_of {α : Type} {xs : List α} (h : xs.length = 3) : ∃ x y z, xs = [x, y, z] := by
  match xs, h with
  | [x, y, z], _ => exact ⟨x, y, z, rfl⟩
theorem nil_of {α : Type} {xs : List α} (h : xs.length = 0) : xs = [] := by
  match xs, h with
  | [], _ => rfl
/-- SlipError, whose __init__ is that of ValueError -/
structure SlipB (K : PySem.W.Frag) (mg : Str → Option Value) (S : Addr) : Prop where
  gS : mg "SlipError" = some (.ref S)
  rd : PySem.W.readsIn K S (.type "type") = true
  ga : PySem.W.specialIn K (.ref S) "__getattribute__" = some (some (.builtin "type.__getattribute__"))
  vV : PySem.W.findCls K (.ref S) (.type "type") "__init__" = some (.val (.builtin "ValueError.__init__"))
structure LookB (K : PySem.W.Frag) (mg : Str → Option Value) : Prop where
  gL : mg "LookupError" = none
  vL : PySem.W.findCls K (.type "LookupError") (.type "type") "__init__" = some (.val (.builtin "LookupError.__init__"))
structure RunB (K : PySem.W.Frag) (mg : Str → Option Value) : Prop where
  gR : mg "RuntimeError" = none
  vR : PySem.W.findCls K (.type "RuntimeError") (.type "type") "__init__" = some (.val (.builtin "RuntimeError.__init__"))
theorem typ_LE : typeOf (.type "LookupError") = pure (.type "type") := by kernel_rfl
theorem typ_RE : typeOf (.type "RuntimeError") = pure (.type "type") := by kernel_rfl
/-- the error's class, as the text's top has written it, with its __init__ -/
structure EAtop (K : PySem.W.Frag) (mg : Str → Option Value) (x qual : Str) (C : Addr) (ini : String) (fs : List Str) (st : Stmt) : Prop where
  ec : EC K C ini
  mg : mg x = some (.ref C)
  ex : ∃ (fI : Addr) (fd : FuncData), PySem.W.findIn K (.ref C) "__init__" = some (some (.ref fI)) ∧ PySem.W.typeIn K (.ref fI) = some (.type "function") ∧ Fun K "__init__" qual st fI fd
  no : ∀ f ∈ fs, PySem.W.findIn K (.ref C) f = some none
theorem part0 {K : PySem.W.Frag} {H : Hp} {a C : Addr} {n : Nat} (ha : H a = some (exo a C none)) : Part K H H a C n [] := ⟨Off.refl a H, by rw [ha]; exact nt_exo, .inl ⟨rfl, ha⟩⟩
end Ss
namespace Ss
open PySem L2
def topS (i : Nat) : Stmt := PySem.Challenge.pw_silentslips_k01_errors.main.body.getD i (.Pass ⟨0, 0, 0, 0⟩)
abbrev sBag : Stmt := topS 20
theorem scBag : FnScope ["script", "at", "cell", "digits"] ["script", "at"] (defScope sBag) := ⟨rfl, rfl, rfl, by decide +kernel, rfl, by decide +kernel, by decide +kernel⟩
abbrev sTake : Stmt := topS 21
theorem scTake : FnScope ["dice", "many", "digit", "mixed"] ["dice", "many"] (defScope sTake) := ⟨rfl, rfl, rfl, by decide +kernel, rfl, by decide +kernel, by decide +kernel⟩
abbrev sOf : Stmt := topS 22
theorem scOf : FnScope ["dice", "some"] ["dice", "some"] (defScope sOf) := ⟨rfl, rfl, rfl, by decide +kernel, rfl, by decide +kernel, by decide +kernel⟩
abbrev sSigns : Stmt := topS 23
theorem scSigns : FnScope ["some"] [] (defScope sSigns) := ⟨rfl, rfl, rfl, by decide +kernel, rfl, by decide +kernel, by decide +kernel⟩
abbrev sToken : Stmt := topS 24
theorem scToken : FnScope ["dice", "taken", "chars", "made", "turn", "base", "sign"] ["dice", "taken"] (defScope sToken) := ⟨rfl, rfl, rfl, by decide +kernel, rfl, by decide +kernel, by decide +kernel⟩
abbrev sName : Stmt := topS 25
theorem scName : FnScope ["dice", "taken", "letters", "made", "turn", "base", "letter"] ["dice", "taken"] (defScope sName) := ⟨rfl, rfl, rfl, by decide +kernel, rfl, by decide +kernel, by decide +kernel⟩

def spBag (K : PySem.W.Frag) : Sp := fun vs H Q _ => ∃ (a : Addr) (ns : List Int) (i : Nat), vs = [.ref a, .int i] ∧ SqL K H a (ns.map V.int) ∧ ns.length ≤ 63 ∧ i ≤ 63 ∧
  ∀ (p : Addr) (H' : Hp), H p = none → Same H H' → Bag H' p 0 → Q (.ref p) H'
def spTake : Sp := fun vs H Q _ => ∃ (b : Addr) (many : Int) (n : Nat), vs = [.ref b, .int many] ∧ Bag H b n ∧ n ≤ 1000000000 ∧ 1 ≤ many ∧ many < 2 ^ 200 ∧
  ∀ (i : Int) (H' : Hp), 0 ≤ i → i < many → Off b H H' → Bag H' b (n + 1) → Q (.int i) H'
/-- one of some: of a list, a tuple, a text -/
def spOf (K : PySem.W.Frag) : Sp := fun vs H Q _ => ∃ (b : Addr) (n : Nat), Bag H b n ∧ n ≤ 1000000000 ∧
  ((∃ (p : Addr) (xs : List V), vs = [.ref b, .ref p] ∧ p ≠ b ∧ SqL K H p xs ∧ 1 ≤ xs.length ∧ xs.length ≤ 1000000 ∧ ∀ (x : V) (H' : Hp), x ∈ xs → Off b H H' → Bag H' b (n + 1) → Q x H') ∨
   (∃ (z : Str), vs = [.ref b, .str z] ∧ 1 ≤ z.length ∧ z.length ≤ 1000000 ∧ ∀ (c : Nat) (H' : Hp), c ∈ z.cps.toList → Off b H H' → Bag H' b (n + 1) → Q (.str ⟨#[c]⟩) H'))
section
variable {P : Program} {w : World} {K : PySem.W.Frag} {mg : Str → Option Value} {base : Heap}
theorem ok_bag (F : DefAt K mg "_law_bag" sBag) (T : G0 mg) : Dk P w K mg base CX0 1 "_law_bag" ["script", "at"] (spBag K) := by
  obtain ⟨f, fd, F, mf⟩ := F.ex
  refine ⟨f, fd, F.ok scBag (fun vs H Q E h => ?_) (fun cdv A outer s H vs Q E hr h => ?_), mf, F.kp, F.binds fun _ _ _ _ _ _ us hl => match us, hl with | [_, _], _ => rfl⟩
  · obtain ⟨a, ns, i, rfl, _⟩ := h
    rfl
  · obtain ⟨a, ns, i, rfl, hS, hl, hi, k⟩ := h
    refine ⟨_, (Evl.pss_cut (ps_set (i := 2) scBag.nd rfl (Or.inl rfl) (pe_ifExp (pt_cmpR op_lt (pv 1) (pe_callB call_len_seq (by rfl) T.len (by decide +kernel) (pa_cons (pv 0) pa_nil)) (nomark _)) (pe_ix ix_list (pv 0) (pv 1) (fun _ _ => rfl)) pe_int)) (Evl.pss_cut (ps_set (i := 3) scBag.nd rfl (Or.inl rfl) (pe_ifExp (pt_cmpR op_ge (pe_callB call_abs (by rfl) T.abs (by decide +kernel) (pa_cons (pv 2) pa_nil)) (pe_op op_pow pe_int pe_int) (nomark _)) (pe_callB call_abs (by rfl) T.abs (by decide +kernel) (pa_cons (pv 2) pa_nil)) pe_int)) (pss_one (ps_ret (pe_lst (pa_cons (pv 3) (pa_cons (pe_op op_add (pe_op op_add (pe_op op_mul (pe_op op_mod (pe_callTy call_int1 (by rfl) T.int (by decide +kernel) (pa_cons (pv 2) pa_nil)) pe_int) pe_int) (pe_op op_mul pe_int (pv 1))) pe_int) (pa_cons pe_int pa_nil)))))))), ?_⟩
    refine ⟨fun σ' H' => H' = H ∧ ∃ cell : Int, σ' = [some (.ref a), some (.int i), some (.int cell), none], ?_, ?_⟩
    · refine ⟨_, rfl, _, rfl, a, _, rfl, .inl hS, _, _, rfl, rfl, _, rfl, ?_⟩
      refine ite2 (fun c => ?_) (fun c => ?_)
      · have c' : i < ns.length := by
          have q := of_decide_eq_true c
          rw [List.length_map] at q
          omega
        exact ⟨_, rfl, _, rfl, a, _, i, _, rfl, rfl, hS, atI_nat (by rw [List.getElem?_map, List.getElem?_eq_getElem c']; rfl), rfl, _, rfl⟩
      · exact ⟨rfl, 0, rfl⟩
    rintro _ H2 ⟨rfl, cell, rfl⟩
    refine ⟨fun σ' H1 => H1 = H2 ∧ ∃ d : Int, 0 ≤ d ∧ σ' = [some (.ref a), some (.int i), some (.int cell), some (.int d)], ?_, ?_⟩
    · refine ⟨_, rfl, _, rfl, _, _, rfl, rfl, ⟨by decide, by decide, by decide⟩, _, _, rfl, rfl, _, rfl, ?_⟩
      refine ite2 (fun c => ?_) (fun c => ?_)
      · refine ⟨_, rfl, _, rfl, rfl, _, ?_, rfl⟩
        split <;> omega
      · exact ⟨rfl, 0, Int.le_refl _, rfl⟩
    rintro _ _ ⟨rfl, d, hd, rfl⟩
    refine ⟨_, rfl, _, rfl, .inl ⟨_, rfl, _, _, rfl, rfl, (by show (0 : Int) < 2305843009213693951; decide), _, _, rfl, rfl, .inr ⟨by decide, by decide⟩, _, rfl, _, _, rfl, rfl, .inl ⟨by decide, by decide⟩, _, _, rfl, rfl, _, _, rfl, rfl, ?_⟩⟩
    refine ⟨by show 3 ≤ sizeLine; decide, fun p hp => ?_⟩
    have h1 := Int.emod_nonneg cell (show (2305843009213693951 : Int) ≠ 0 by decide)
    have h2 := Int.emod_lt_of_pos cell (show (0 : Int) < 2305843009213693951 by decide)
    refine k p _ hp (fun b o e => ?_) ⟨d, _, 0, upd_same, hd, ?_, ?_, Int.le_refl _, Int.le_refl _⟩
    · rw [upd_ne (ne_of_none e hp)]; exact e
    · omega
    · show _ < (11529215047000000000 : Int)
      omega
theorem ok_take (F : DefAt K mg "_law_take" sTake) (T : G0 mg) : Dk P w K mg base CX0 1 "_law_take" ["dice", "many"] spTake := by
  obtain ⟨f, fd, F, mf⟩ := F.ex
  refine ⟨f, fd, F.ok scTake (fun vs H Q E h => ?_) (fun cdv A outer s H vs Q E hr h => ?_), mf, F.kp, F.binds fun _ _ _ _ _ _ us hl => match us, hl with | [_, _], _ => rfl⟩
  · obtain ⟨b, many, n, rfl, _⟩ := h
    rfl
  · obtain ⟨b, many, n, rfl, ⟨d, m, c, hb, hd, hm, hM, hc, hn⟩, hn9, h1, h2, k⟩ := h
    have hM : m < (11529215047000000000 : Int) := hM
    have hW : CDivW d many := wide_div (b := 200) (by omega) (by omega) (by decide) (by decide)
    refine ⟨_, (pss_cons (ps_if (pt_cmpR op_gt (pe_ix ix_list (pv 0) pe_int (fun _ _ => rfl)) pe_int (nomark _)) (pss_cons (ps_set (i := 2) scTake.nd rfl (Or.inl rfl) (pe_op op_mod (pe_callTy call_int1 (by rfl) T.int (by decide +kernel) (pa_cons (pe_ix ix_list (pv 0) pe_int (fun _ _ => rfl)) pa_nil)) (pv 1))) (pss_cons (ps_asg (pe_op op_fdivW (pe_ix ix_list (pv 0) pe_int (fun _ _ => rfl)) (pv 1)) (pg_sub (pv 0) pe_int set_list)) (pss_one (ps_ret (pv 2))))) pss_nil) (pss_cons (ps_asg (pe_op op_add (pe_ix ix_list (pv 0) pe_int (fun _ _ => rfl)) pe_int) (pg_sub (pv 0) pe_int set_list)) (pss_cons (ps_set (i := 3) scTake.nd rfl (Or.inl rfl) (pe_op op_mod (pe_callTy call_int1 (by rfl) T.int (by decide +kernel) (pa_cons (pe_op op_pow (pe_op op_add (pe_ix ix_list (pv 0) pe_int (fun _ _ => rfl)) (pe_op op_mul pe_int (pe_ix ix_list (pv 0) pe_int (fun _ _ => rfl)))) pe_int) pa_nil)) pe_int)) (pss_cons (ps_set (i := 3) scTake.nd rfl (Or.inl rfl) (pe_op op_mod (pe_callTy call_int1 (by rfl) T.int (by decide +kernel) (pa_cons (pe_op op_pow (pe_op op_add (pv 3) (pe_op op_mul pe_int (pe_ix ix_list (pv 0) pe_int (fun _ _ => rfl)))) pe_int) pa_nil)) pe_int)) (pss_one (ps_ret (pe_op op_mod (pe_callTy call_int1 (by rfl) T.int (by decide +kernel) (pa_cons (pe_op op_fdivW (pv 3) pe_int) pa_nil)) (pv 1)))))))), ?_⟩
    refine ⟨_, rfl, b, _, 0, _, rfl, rfl, SqL.of hb, rfl, _, _, rfl, rfl, _, rfl, ?_⟩
    refine ite2 (fun c0 => ?_) (fun c0 => ?_)
    · refine ⟨_, rfl, b, _, 0, _, rfl, rfl, SqL.of hb, rfl, .inl ⟨_, rfl, _, rfl, _, _, rfl, rfl, (by show (0 : Int) < many; omega), ?_⟩⟩
      refine ⟨_, rfl, b, _, 0, _, rfl, rfl, SqL.of hb, rfl, _, rfl, _, _, rfl, rfl, hW, _, rfl, b, _, _, 0, rfl, rfl, hb, rfl, ?_⟩
      refine ⟨_, rfl, k _ _ (Int.emod_nonneg _ (by omega)) (Int.emod_lt_of_pos _ (by omega)) (Off.upd (Off.refl b H)) ⟨_, m, c, upd_same, ?_, hm, hM, hc, by omega⟩⟩
      exact Int.ediv_nonneg hd (by omega)
    · have x1 := Int.emod_nonneg ((m + 1000081 * (c + 1)) ^ 3) (show (2305843009213693921 : Int) ≠ 0 by decide)
      have x2 := Int.emod_lt_of_pos ((m + 1000081 * (c + 1)) ^ 3) (show (0 : Int) < 2305843009213693921 by decide)
      have e64 : (2 : Nat) ^ 64 = 18446744073709551616 := by decide
      refine ⟨_, rfl, b, _, 2, _, rfl, rfl, SqL.of hb, rfl, _, _, rfl, rfl, _, rfl, b, _, _, 2, rfl, rfl, hb, rfl, ?_⟩
      have hb2 := upd_same (H := H) (a := b) (o := .lst [.int d, .int m, .int (c + 1)])
      refine ⟨_, rfl, b, _, 1, _, rfl, rfl, SqL.of hb2, rfl, _, rfl, b, _, 2, _, rfl, rfl, SqL.of hb2, rfl, _, _, rfl, rfl, .inl ⟨by decide, by decide⟩, _, _, rfl, rfl, ?_⟩
      refine ⟨_, _, rfl, rfl, ⟨by decide, by decide, ?_⟩, .inl ⟨_, rfl, _, _, rfl, rfl, (by show (0 : Int) < 2305843009213693921; decide), ?_⟩⟩
      · rw [e64]; omega
      refine ⟨_, rfl, _, rfl, b, _, 2, _, rfl, rfl, SqL.of hb2, rfl, _, _, rfl, rfl, .inl ⟨by decide, by decide⟩, _, _, rfl, rfl, ?_⟩
      refine ⟨_, _, rfl, rfl, ⟨by decide, by decide, ?_⟩, .inl ⟨_, rfl, _, _, rfl, rfl, (by show (0 : Int) < 2305843009213693951; decide), ?_⟩⟩
      · rw [e64]
        show Int.natAbs ((m + 1000081 * (c + 1)) ^ 3 % 2305843009213693921 + 32452867 * (c + 1)) < _
        omega
      refine ⟨_, rfl, _, _, rfl, rfl, ⟨by decide, by decide⟩, .inl ⟨_, rfl, _, rfl, _, _, rfl, rfl, (by show (0 : Int) < many; omega), ?_⟩⟩
      refine k _ _ (Int.emod_nonneg _ (by omega)) (Int.emod_lt_of_pos _ (by omega)) (Off.upd (Off.refl b H)) ⟨d, m, c + 1, upd_same, hd, hm, hM, by omega, by omega⟩
theorem ok_of (F : DefAt K mg "_law_of" sOf) (T : G0 mg) (D_law_take : Dk P w K mg base CX0 1 "_law_take" ["dice", "many"] spTake) : Dk P w K mg base CX0 2 "_law_of" ["dice", "some"] (spOf K) := by
  obtain ⟨f, fd, F, mf⟩ := F.ex
  refine ⟨f, fd, F.ok scOf (fun vs H Q E h => ?_) (fun cdv A outer s H vs Q E hr h => ?_), mf, F.kp, F.binds fun _ _ _ _ _ _ us hl => match us, hl with | [_, _], _ => rfl⟩
  · obtain ⟨b, n, _, _, ⟨p, xs, rfl, _⟩ | ⟨z, rfl, _⟩⟩ := h <;> rfl
  · refine ⟨_, (pss_one (ps_ret (pe_ix ix_seq (pv 1) (pe_cd D_law_take hr pass0 (pa_cons (pv 0) (pa_cons (pe_callB call_len (by rfl) T.len (by decide +kernel) (pa_cons (pv 1) pa_nil)) pa_nil))) (fun _ _ => rfl)))), ?_⟩
    have e200 : (1000000 : Int) < 2 ^ 200 := by decide
    obtain ⟨b, n, hB, hn, ⟨p, xs, rfl, hpb, hS, h1, h2, k⟩ | ⟨z, rfl, h1, h2, k⟩⟩ := h
    · refine ⟨_, rfl, _, rfl, _, rfl, .ref p, xs.length, rfl, .inl ⟨xs, hS, rfl⟩, ?_⟩
      refine ⟨b, _, n, rfl, hB, hn, by omega, by omega, fun i H' i0 i1 hO hB' => ?_⟩
      have hi : i.toNat < xs.length := by omega
      exact .inl ⟨p, xs, i, xs[i.toNat], rfl, rfl, hO.seq hpb hS, atI_int i0 hi, k _ _ (List.getElem_mem hi) hO hB'⟩
    · have hz : z.cps.toList.length = z.length := by rw [Array.length_toList]; rfl
      refine ⟨_, rfl, _, rfl, _, rfl, .str z, z.length, rfl, ?_, ?_⟩
      · exact ⟨Nat.le_trans h2 (by decide), rfl⟩
      refine ⟨b, _, n, rfl, hB, hn, by omega, by omega, fun i H' i0 i1 hO hB' => ?_⟩
      have hi : i.toNat < z.cps.toList.length := by omega
      exact .inr (.inr ⟨z, i, z.cps.toList[i.toNat], rfl, rfl, Nat.le_trans h2 (by decide), atI_int i0 hi, k _ _ (List.getElem_mem hi) hO hB'⟩)
def spSigns : Sp := fun vs H Q _ => vs = [] ∧ Q (.str (mkS SGN)) H
theorem ok_signs (F : DefAt K mg "_law_signs" sSigns) : Dk P w K mg base CX0 1 "_law_signs" [] spSigns := by
  obtain ⟨f, fd, F, mf⟩ := F.ex
  refine ⟨f, fd, F.ok scSigns (fun vs H Q E h => ?_) (fun cdv A outer s H vs Q E hr h => ?_), mf, F.kp, F.binds fun _ _ _ _ _ _ us hl => match us, hl with | [], _ => rfl⟩
  · obtain ⟨rfl, _⟩ := h; rfl
  · obtain ⟨rfl, k⟩ := h
    refine ⟨_, (pss_cons (ps_set (i := 0) scSigns.nd rfl (Or.inl rfl) pe_str) (pss_one (ps_ret (pe_op op_add_str (pv 0) pe_str)))), ?_⟩
    refine ⟨_, rfl, _, _, rfl, rfl, (by decide +kernel), ?_⟩
    refine cast (congrArg (fun z => Q (.str z) H) ?_) k
    decide +kernel
/-- a text t of the letters L, of 1 to m letters, that is not among xs -/
def spWord (K : PySem.W.Frag) (L : List Nat) (m : Nat) : Sp := fun vs H Q _ => ∃ (b p : Addr) (n : Nat) (xs : List Str), vs = [.ref b, .ref p] ∧ Bag H b n ∧ n ≤ 900000000 ∧ p ≠ b ∧ SqL K H p (xs.map V.str) ∧ xs.length < L.length ∧
  ∀ (t : List Nat) (H' : Hp), 1 ≤ t.length → t.length ≤ m → (∀ c ∈ t, c ∈ L) → mkS t ∉ xs → Off b H H' → Bag H' b (n + 1 + m) → Q (.str (mkS t)) H'
theorem ok_token (F : DefAt K mg "_law_token" sToken) (T : G0 mg) (D_law_of : Dk P w K mg base CX0 2 "_law_of" ["dice", "some"] (spOf K)) (D_law_signs : Dk P w K mg base CX0 1 "_law_signs" [] spSigns) :
    Dk P w K mg base CX0 3 "_law_token" ["dice", "taken"] (spWord K SGN 4) := by
  obtain ⟨f, fd, F, mf⟩ := F.ex
  refine ⟨f, fd, F.ok scToken (fun vs H Q E h => ?_) (fun cdv A outer s H vs Q E hr h => ?_), mf, F.kp, F.binds fun _ _ _ _ _ _ us hl => match us, hl with | [_, _], _ => rfl⟩
  · obtain ⟨b, p, n, xs, rfl, _⟩ := h; rfl
  · obtain ⟨b, p, n, xs, rfl, hB, hn, hpb, hS, hl, k⟩ := h
    refine ⟨_, (pss_cons (ps_par (by rfl) scToken.nd rfl rfl (by decide) rfl rfl (pa_cons (pe_cd0 D_law_signs hr pass0) (pa_cons pe_str pa_nil)) (by rfl) (i := 2) (j := 3)) (pss_cons (ps_for PassesOwn.never rfl (pi_range1 (by rfl) T.range (pa_cons (pe_cd D_law_of hr pass0 (pa_cons (pv 0) (pa_cons (pe_lst (pa_cons pe_int (pa_cons pe_int (pa_cons pe_int (pa_cons pe_int (pa_cons pe_int (pa_cons pe_int pa_nil))))))) pa_nil))) pa_nil)) (pg_name (i := 4) scToken.nd rfl (.inl rfl)) (pss_one (ps_set (i := 3) scToken.nd rfl (Or.inl rfl) (pe_op op_add_str (pv 3) (pe_cd D_law_of hr pass0 (pa_cons (pv 0) (pa_cons (pv 2) pa_nil))))))) (pss_cons (ps_set (i := 5) scToken.nd rfl (Or.inl rfl) (pe_slice sl_str (pv 3) po_none (po_some pe_int))) (pss_cons (ps_for PassesOwn.never rfl (pi_str (pv 2)) (pg_name (i := 6) scToken.nd rfl (.inl rfl)) (pss_one (ps_if (pt_cmpR op_in_seq (pv 3) (pv 1) (by rfl)) (pss_one (ps_set (i := 3) scToken.nd rfl (Or.inl rfl) (pe_op op_add_str (pv 5) (pv 6)))) pss_nil))) (pss_one (ps_ret (pv 3))))))), ?_⟩
    refine ⟨rfl, _, _, rfl, ?_⟩
    refine ⟨_, rfl, by show 6 ≤ sizeLine; decide, fun q hq => ?_⟩
    refine ⟨b, n, hB.new hq, by omega, .inl ⟨q, _, rfl, (hB.ne hq).symm, SqL.of upd_same, by show 1 ≤ 6; decide, by show 6 ≤ 1000000; decide, fun x H1 hx hO hB1 => ?_⟩⟩
    obtain ⟨j, hj1, hj4, rfl⟩ : ∃ j : Nat, 1 ≤ j ∧ j ≤ 4 ∧ x = .int j := by
      simp only [List.mem_cons, List.not_mem_nil, or_false] at hx
      rcases hx with rfl | rfl | rfl | rfl | rfl | rfl
      · exact ⟨1, by decide, by decide, rfl⟩
      · exact ⟨1, by decide, by decide, rfl⟩
      · exact ⟨1, by decide, by decide, rfl⟩
      · exact ⟨2, by decide, by decide, rfl⟩
      · exact ⟨3, by decide, by decide, rfl⟩
      · exact ⟨4, by decide, by decide, rfl⟩
    have O1 : Off b H H1 := ((Off.refl b H).new hq).trans hO
    refine ⟨j, rfl, by omega, by omega, ?_⟩
    rw [Int.toNat_natCast]
    refine for_range (lo := 0) (n := j) (fun i σ H' => ∃ (m : List Nat) (v : Option V), σ = [some (.ref b), some (.ref p), some (.str (mkS SGN)), some (.str (mkS m)), v, none, none] ∧ m.length = i ∧ (∀ c ∈ m, c ∈ SGN) ∧ Off b H H' ∧ Bag H' b (n + 1 + i))
      ⟨[], none, by rw [← mkS_nil]; rfl, rfl, (fun _ h => by cases h), O1, hB1⟩ ?_ ?_
    · rintro i σ H' hi ⟨m, v, rfl, hm, hc, hO', hB'⟩
      refine ⟨_, rfl, _, rfl, _, rfl, b, n + 1 + i, hB', by omega, .inr ⟨mkS SGN, rfl, by decide +kernel, by decide +kernel, fun c H2 hcs hO2 hB2 => ?_⟩⟩
      rw [mkS_cps] at hcs
      refine ⟨_, _, rfl, rfl, ?_, ?_⟩
      · rw [mkS_len]; exact Nat.le_trans (show _ ≤ 10 by rw [hm]; show i + 1 ≤ 10; omega) (by decide)
      · refine ⟨m ++ [c], some (.int (0 + i)), ?_, by rw [List.length_append, hm]; rfl, fun d hd => ?_, hO'.trans hO2, hB2⟩
        · rw [mkS_one, mkS_app]; rfl
        · rcases List.mem_append.mp hd with hd | hd
          · exact hc d hd
          · rw [List.mem_singleton.mp hd]; exact hcs
    · rintro σ H' ⟨m, v, rfl, hm, hc, hO', hB'⟩
      refine ⟨_, rfl, 3, rfl, _, rfl, ?_, ?_⟩
      · rw [mkS_len]; exact Nat.le_trans (show _ ≤ 10 by omega) (by decide)
      rw [show cutS (mkS m) none (some (3 : Int)) = mkS (m.take 3) from cut_to m 3]
      refine ⟨_, rfl, _, rfl, for_it walk_str (fun i σ H2 => H2 = H' ∧ ∃ u : Option V, σ = [some (.ref b), some (.ref p), some (.str (mkS SGN)), some (.str (mkS ((SGN.take i).foldl (more1 xs (m.take 3)) m))), v, some (.str (mkS (m.take 3))), u])
        ⟨rfl, none, rfl⟩ (fun _ _ _ _ _ => trivial) ?_ ?_⟩
      · rintro i x σ H2 H3 hi ⟨rfl, u, rfl⟩ ⟨rfl, c, hc', rfl⟩
        have hs : SGN[i]? = some c := by
          have q : (mkS SGN).cps.toList[i]? = some c := by rw [Array.getElem?_toList]; exact hc'
          rw [mkS_cps] at q
          exact q
        refine ⟨_, rfl, _, rfl, p, _, rfl, .inl (hO'.seq hpb hS), rfl, flat_strs xs, _, rfl, ?_⟩
        show if inV (.str _) (xs.map V.str) = true then _ else _
        rw [inV_str]
        have et : SGN.take (i + 1) = SGN.take i ++ [c] := by
          rw [List.take_add_one, hs]; rfl
        have ef : (SGN.take (i + 1)).foldl (more1 xs (m.take 3)) m = more1 xs (m.take 3) ((SGN.take i).foldl (more1 xs (m.take 3)) m) c := by
          rw [et, List.foldl_append]; rfl
        refine ite2 (fun q => ?_) (fun q => ?_)
        · refine ⟨_, rfl, _, rfl, _, _, rfl, rfl, ?_, rfl, some (.str ⟨#[c]⟩), ?_⟩
          · rw [mkS_len]; exact Nat.le_trans (show _ ≤ 10 by rw [List.length_take]; show _ + 1 ≤ 10; omega) (by decide)
          · rw [ef, more_yes (of_decide_eq_true q), mkS_one, mkS_app]
            rfl
        · refine ⟨rfl, some (.str ⟨#[c]⟩), ?_⟩
          rw [ef, more_no (fun z => q (decide_eq_true z))]
          rfl
      · rintro σ H2 ⟨rfl, u, rfl⟩
        have es : (mkS SGN).cps.size = SGN.length := by rw [← Array.length_toList, mkS_cps]
        rw [es, List.take_length]
        refine ⟨_, rfl, ?_⟩
        have sh : ∀ c, c ∈ SGN → (fun t : List Nat => 1 ≤ t.length ∧ t.length ≤ 4 ∧ ∀ d ∈ t, d ∈ SGN) (m.take 3 ++ [c]) := fun c hcs => by
          refine ⟨by rw [List.length_append]; exact Nat.le_add_left _ _, ?_, fun d hd => ?_⟩
          · rw [List.length_append, List.length_take]; show min 3 m.length + 1 ≤ 4; omega
          · rcases List.mem_append.mp hd with hd | hd
            · exact hc d (List.mem_of_mem_take hd)
            · rw [List.mem_singleton.mp hd]; exact hcs
        obtain ⟨s1, s2, s3⟩ := more_shape (xs := xs) (bs := m.take 3) (cs := SGN) (S := fun t : List Nat => 1 ≤ t.length ∧ t.length ≤ 4 ∧ ∀ d ∈ t, d ∈ SGN) sh (m := m) ⟨by omega, by omega, hc⟩
        exact k _ _ s1 s2 s3 (more_new sgn_nd hl) hO' (hB'.mono (by omega))
theorem ok_name (F : DefAt K mg "_law_name" sName) (T : G0 mg) (D_law_of : Dk P w K mg base CX0 2 "_law_of" ["dice", "some"] (spOf K)) :
    Dk P w K mg base CX0 3 "_law_name" ["dice", "taken"] (spWord K LET 8) := by
  obtain ⟨f, fd, F, mf⟩ := F.ex
  refine ⟨f, fd, F.ok scName (fun vs H Q E h => ?_) (fun cdv A outer s H vs Q E hr h => ?_), mf, F.kp, F.binds fun _ _ _ _ _ _ us hl => match us, hl with | [_, _], _ => rfl⟩
  · obtain ⟨b, p, n, xs, rfl, _⟩ := h; rfl
  · obtain ⟨b, p, n, xs, rfl, hB, hn, hpb, hS, hl, k⟩ := h
    refine ⟨_, (pss_cons (ps_asg (pe_tup (pa_cons pe_str (pa_cons pe_str pa_nil))) (pg_tup (by rfl) (pgs_cons (pg_name (i := 2) scName.nd rfl (.inl rfl)) (pgs_cons (pg_name (i := 3) scName.nd rfl (.inl rfl)) pgs_nil)))) (pss_cons (ps_for PassesOwn.never rfl (pi_range1 (by rfl) T.range (pa_cons (pe_cd D_law_of hr pass0 (pa_cons (pv 0) (pa_cons (pe_lst (pa_cons pe_int (pa_cons pe_int (pa_cons pe_int (pa_cons pe_int (pa_cons pe_int (pa_cons pe_int (pa_cons pe_int (pa_cons pe_int pa_nil))))))))) pa_nil))) pa_nil)) (pg_name (i := 4) scName.nd rfl (.inl rfl)) (pss_one (ps_set (i := 3) scName.nd rfl (Or.inl rfl) (pe_op op_add_str (pv 3) (pe_cd D_law_of hr pass0 (pa_cons (pv 0) (pa_cons (pv 2) pa_nil))))))) (pss_cons (ps_set (i := 5) scName.nd rfl (Or.inl rfl) (pe_slice sl_str (pv 3) po_none (po_some pe_int))) (pss_cons (ps_for PassesOwn.never rfl (pi_str (pv 2)) (pg_name (i := 6) scName.nd rfl (.inl rfl)) (pss_one (ps_if (pt_cmpR op_in_seq (pv 3) (pv 1) (by rfl)) (pss_one (ps_set (i := 3) scName.nd rfl (Or.inl rfl) (pe_op op_add_str (pv 5) (pv 6)))) pss_nil))) (pss_one (ps_ret (pv 3))))))), ?_⟩
    refine ⟨by show 2 ≤ sizeLine; decide, fun tp htp => ?_⟩
    refine ⟨tp, _, rfl, .inl (.inl upd_same), rfl, ?_⟩
    refine ⟨_, _, rfl, _, _, rfl, rfl, ?_⟩
    have S0 : Same H (upd H tp (.tup [.str "abcdefghijklmnopqrstuvwxyz", .str ""])) := Same.new (Same.refl H) htp
    generalize upd H tp (.tup [.str "abcdefghijklmnopqrstuvwxyz", .str ""]) = G at S0 ⊢
    have hS := S0.seq hS
    have hB := hB.same S0
    have hG : Off b H G := Off.of S0
    have k := fun t H' a1 a2 a3 a4 (a5 : Off b G H') a6 => k t H' a1 a2 a3 a4 (hG.trans a5) a6
    clear S0 hG htp tp
    rw [show (("abcdefghijklmnopqrstuvwxyz" : Str)) = mkS LET by decide +kernel]
    refine ⟨_, rfl, by show 8 ≤ sizeLine; decide, fun q hq => ?_⟩
    refine ⟨b, n, hB.new hq, by omega, .inl ⟨q, _, rfl, (hB.ne hq).symm, SqL.of upd_same, by show 1 ≤ 8; decide, by show 8 ≤ 1000000; decide, fun x H1 hx hO hB1 => ?_⟩⟩
    obtain ⟨j, hj1, hj4, rfl⟩ : ∃ j : Nat, 1 ≤ j ∧ j ≤ 8 ∧ x = .int j := by
      simp only [List.mem_cons, List.not_mem_nil, or_false] at hx
      rcases hx with rfl | rfl | rfl | rfl | rfl | rfl | rfl | rfl
      · exact ⟨1, by decide, by decide, rfl⟩
      · exact ⟨1, by decide, by decide, rfl⟩
      · exact ⟨2, by decide, by decide, rfl⟩
      · exact ⟨2, by decide, by decide, rfl⟩
      · exact ⟨3, by decide, by decide, rfl⟩
      · exact ⟨4, by decide, by decide, rfl⟩
      · exact ⟨5, by decide, by decide, rfl⟩
      · exact ⟨8, by decide, by decide, rfl⟩
    have O1 : Off b G H1 := ((Off.refl b G).new hq).trans hO
    refine ⟨j, rfl, by omega, by omega, ?_⟩
    rw [Int.toNat_natCast]
    refine for_range (lo := 0) (n := j) (fun i σ H' => ∃ (m : List Nat) (v : Option V), σ = [some (.ref b), some (.ref p), some (.str (mkS LET)), some (.str (mkS m)), v, none, none] ∧ m.length = i ∧ (∀ c ∈ m, c ∈ LET) ∧ Off b G H' ∧ Bag H' b (n + 1 + i))
      ⟨[], none, by rw [← mkS_nil]; rfl, rfl, (fun _ h => by cases h), O1, hB1⟩ ?_ ?_
    · rintro i σ H' hi ⟨m, v, rfl, hm, hc, hO', hB'⟩
      refine ⟨_, rfl, _, rfl, _, rfl, b, n + 1 + i, hB', by omega, .inr ⟨mkS LET, rfl, by decide +kernel, by decide +kernel, fun c H2 hcs hO2 hB2 => ?_⟩⟩
      rw [mkS_cps] at hcs
      refine ⟨_, _, rfl, rfl, ?_, ?_⟩
      · rw [mkS_len]; exact Nat.le_trans (show _ ≤ 10 by rw [hm]; show i + 1 ≤ 10; omega) (by decide)
      · refine ⟨m ++ [c], some (.int (0 + i)), ?_, by rw [List.length_append, hm]; rfl, fun d hd => ?_, hO'.trans hO2, hB2⟩
        · rw [mkS_one, mkS_app]; rfl
        · rcases List.mem_append.mp hd with hd | hd
          · exact hc d hd
          · rw [List.mem_singleton.mp hd]; exact hcs
    · rintro σ H' ⟨m, v, rfl, hm, hc, hO', hB'⟩
      refine ⟨_, rfl, 7, rfl, _, rfl, ?_, ?_⟩
      · rw [mkS_len]; exact Nat.le_trans (show _ ≤ 10 by omega) (by decide)
      rw [show cutS (mkS m) none (some (7 : Int)) = mkS (m.take 7) from cut_to m 7]
      refine ⟨_, rfl, _, rfl, for_it walk_str (fun i σ H2 => H2 = H' ∧ ∃ u : Option V, σ = [some (.ref b), some (.ref p), some (.str (mkS LET)), some (.str (mkS ((LET.take i).foldl (more1 xs (m.take 7)) m))), v, some (.str (mkS (m.take 7))), u])
        ⟨rfl, none, rfl⟩ (fun _ _ _ _ _ => trivial) ?_ ?_⟩
      · rintro i x σ H2 H3 hi ⟨rfl, u, rfl⟩ ⟨rfl, c, hc', rfl⟩
        have hs : LET[i]? = some c := by
          have q : (mkS LET).cps.toList[i]? = some c := by rw [Array.getElem?_toList]; exact hc'
          rw [mkS_cps] at q
          exact q
        refine ⟨_, rfl, _, rfl, p, _, rfl, .inl (hO'.seq hpb hS), rfl, flat_strs xs, _, rfl, ?_⟩
        show if inV (.str _) (xs.map V.str) = true then _ else _
        rw [inV_str]
        have et : LET.take (i + 1) = LET.take i ++ [c] := by
          rw [List.take_add_one, hs]; rfl
        have ef : (LET.take (i + 1)).foldl (more1 xs (m.take 7)) m = more1 xs (m.take 7) ((LET.take i).foldl (more1 xs (m.take 7)) m) c := by
          rw [et, List.foldl_append]; rfl
        refine ite2 (fun q => ?_) (fun q => ?_)
        · refine ⟨_, rfl, _, rfl, _, _, rfl, rfl, ?_, rfl, some (.str ⟨#[c]⟩), ?_⟩
          · rw [mkS_len]; exact Nat.le_trans (show _ ≤ 10 by rw [List.length_take]; show _ + 1 ≤ 10; omega) (by decide)
          · rw [ef, more_yes (of_decide_eq_true q), mkS_one, mkS_app]
            rfl
        · refine ⟨rfl, some (.str ⟨#[c]⟩), ?_⟩
          rw [ef, more_no (fun z => q (decide_eq_true z))]
          rfl
      · rintro σ H2 ⟨rfl, u, rfl⟩
        have es : (mkS LET).cps.size = LET.length := by rw [← Array.length_toList, mkS_cps]
        rw [es, List.take_length]
        refine ⟨_, rfl, ?_⟩
        have sh : ∀ c, c ∈ LET → (fun t : List Nat => 1 ≤ t.length ∧ t.length ≤ 8 ∧ ∀ d ∈ t, d ∈ LET) (m.take 7 ++ [c]) := fun c hcs => by
          refine ⟨by rw [List.length_append]; exact Nat.le_add_left _ _, ?_, fun d hd => ?_⟩
          · rw [List.length_append, List.length_take]; show min 7 m.length + 1 ≤ 8; omega
          · rcases List.mem_append.mp hd with hd | hd
            · exact hc d (List.mem_of_mem_take hd)
            · rw [List.mem_singleton.mp hd]; exact hcs
        obtain ⟨s1, s2, s3⟩ := more_shape (xs := xs) (bs := m.take 7) (cs := LET) (S := fun t : List Nat => 1 ≤ t.length ∧ t.length ≤ 8 ∧ ∀ d ∈ t, d ∈ LET) sh (m := m) ⟨by omega, by omega, hc⟩
        exact k _ _ s1 s2 s3 (more_new let_nd hl) hO' (hB'.mono (by omega))
abbrev sKept : Stmt := topS 1
theorem scKept : FnScope ["value", "part"] ["value"] (defScope sKept) := ⟨rfl, rfl, rfl, by decide +kernel, rfl, by decide +kernel, by decide +kernel⟩

theorem ok_kept (F : DefAt K mg "kept" sKept) (T : G0 mg) : ∀ n : Nat, Dk P w K mg base CX0 (n + 1) "kept" ["value"] (spKept K n) := by
  obtain ⟨f, fd, F0, mf⟩ := F.ex
  have bb : ∀ f fd, Fun K "kept" "kept" sKept f fd → Binds K fd ["value"] [] := fun f fd F => F.binds fun _ _ _ _ _ _ us hl => match us, hl with | [_], _ => rfl
  -- the flat ones, any promise of the inner calls
  have step : ∀ (n k : Nat) (sp : Sp), Dk P w K mg base CX0 k "kept" ["value"] sp → (∀ m, n = m + 1 → sp = spKept K m) → Dk P w K mg base CX0 (k + 1) "kept" ["value"] (spKept K n) := by
    intro n k sp Dk0 hsp
    refine ⟨f, fd, F0.ok scKept (fun vs H Q E h => ?_) (fun cdv A outer s H vs Q E hr h => ?_), mf, F0.kp, bb f fd F0⟩
    · obtain ⟨v, d, rfl, _⟩ := h
      rfl
    · obtain ⟨v, d, rfl, hd, ht, kk⟩ := h
      have hr : Room k _ := hr
      have hkk : k ≤ k := Nat.le_refl k
      refine ⟨_, (pss_cons (ps_if (pt_val (pe_callB call_isi (by rfl) T.isinstance (by decide +kernel) (pa_cons (pv 0) (pa_cons (pe_bltn (v := .ty "list") (u := .type "list") (by rfl) T.list (by decide +kernel) rfl) pa_nil)))) (pss_one (ps_ret (pe_lc (own := [("part", 1)]) (g := gName 1) rfl scKept.nd (pi_list (pv 0)) (blkOk_by (N := ["value", "part"]) (sc := defScope sKept) (by decide +kernel)) (fun _ _ _ _ _ => (pg_name (i := 1) scKept.nd rfl (.inl rfl))) (fun _ _ _ _ _ => pts_nil) (fun _ _ _ _ _ => (pe_cd Dk0 hr pass0 (pa_cons (pv 1) pa_nil) (hk := Nat.le_refl _)))))) pss_nil) (pss_cons (ps_if (pt_val (pe_callB call_isi (by rfl) T.isinstance (by decide +kernel) (pa_cons (pv 0) (pa_cons (pe_bltn (v := .ty "tuple") (u := .type "tuple") (by rfl) T.tuple (by decide +kernel) rfl) pa_nil)))) (pss_one (ps_ret (pe_callTy call_tuple_of (by rfl) T.tuple (by decide +kernel) (pa_cons (pe_lc (own := [("part", 1)]) (g := gName 1) rfl scKept.nd (pi_tup (pv 0)) (blkOk_by (N := ["value", "part"]) (sc := defScope sKept) (by decide +kernel)) (fun _ _ _ _ _ => (pg_name (i := 1) scKept.nd rfl (.inl rfl))) (fun _ _ _ _ _ => pts_nil) (fun _ _ _ _ _ => (pe_cd Dk0 hr pass0 (pa_cons (pv 1) pa_nil) (hk := Nat.le_refl _)))) pa_nil)))) pss_nil) (pss_one (ps_ret (pv 0))))), ?_⟩
      have ty := dp_ty hd (fun ds e => by subst e; cases n <;> exact Bool.noConfusion ht)
      cases d with
      | none => exact ⟨_, rfl, _, .ty "list", _, _, false, rfl, .ty _, ty, kit_ty (show kitB "NoneType" "list" = some false by decide +kernel), false, rfl, iteF ⟨_, rfl, _, .ty "tuple", _, _, false, rfl, .ty _, ty, kit_ty (show kitB "NoneType" "tuple" = some false by decide +kernel), false, rfl, iteF ⟨_, rfl, kk _ H (Same.refl H) hd⟩⟩⟩
      | bool b => exact ⟨_, rfl, _, .ty "list", _, _, false, rfl, .ty _, ty, kit_ty (show kitB "bool" "list" = some false by decide +kernel), false, rfl, iteF ⟨_, rfl, _, .ty "tuple", _, _, false, rfl, .ty _, ty, kit_ty (show kitB "bool" "tuple" = some false by decide +kernel), false, rfl, iteF ⟨_, rfl, kk _ H (Same.refl H) hd⟩⟩⟩
      | int i => exact ⟨_, rfl, _, .ty "list", _, _, false, rfl, .ty _, ty, kit_ty (show kitB "int" "list" = some false by decide +kernel), false, rfl, iteF ⟨_, rfl, _, .ty "tuple", _, _, false, rfl, .ty _, ty, kit_ty (show kitB "int" "tuple" = some false by decide +kernel), false, rfl, iteF ⟨_, rfl, kk _ H (Same.refl H) hd⟩⟩⟩
      | str x => exact ⟨_, rfl, _, .ty "list", _, _, false, rfl, .ty _, ty, kit_ty (show kitB "str" "list" = some false by decide +kernel), false, rfl, iteF ⟨_, rfl, _, .ty "tuple", _, _, false, rfl, .ty _, ty, kit_ty (show kitB "str" "tuple" = some false by decide +kernel), false, rfl, iteF ⟨_, rfl, kk _ H (Same.refl H) hd⟩⟩⟩
      | list ds => cases n <;> exact Bool.noConfusion ht
      | dict kvs => cases n <;> exact Bool.noConfusion ht
      | tuple ds =>
        cases n with
        | zero => exact Bool.noConfusion ht
        | succ m =>
        obtain rfl := hsp m rfl
        obtain ⟨hlen, hall⟩ := tupD_all ht
        cases hd with
        | @tup a xs ds hs ha =>
          have hxl := DpAll.len ha
          refine ⟨_, rfl, _, .ty "list", _, _, false, rfl, .ty _, ty, kit_ty (show kitB "tuple" "list" = some false by decide +kernel), false, rfl, iteF ?_⟩
          refine ⟨_, rfl, _, .ty "tuple", _, _, true, rfl, .ty _, ty, kit_ty (show kitB "tuple" "tuple" = some true by decide +kernel), true, rfl, iteT ?_⟩
          refine ⟨_, rfl, a, rfl, ⟨_, hs⟩, fun D hD => lc_tup (xs := xs) (fun i H' => ∃ ys, H' D = some (.lst ys) ∧ ys.length = i ∧ DpAll K H' ys (ds.take i) ∧ Same H H') ⟨[], upd_same, rfl, .nil, Same.new (Same.refl H) hD⟩ (fun i H' _ ⟨_, _, _, _, s⟩ => Evl.ex_t s hs) ?_ ?_⟩
          · rintro i x H' hi ⟨ys, hD', hyl, hys, s⟩
            obtain ⟨d, hdi, hdx⟩ := DpAll.get ha hi
            have hmem : d ∈ ds := List.mem_of_getElem? hdi
            have hi2 : i < ds.length := (List.getElem?_eq_some_iff.mp hdi).1
            refine ⟨rfl, x, rfl, x, d, rfl, Dp.mono s hdx, hall d hmem, fun v' H2 s2 hv' => ⟨ys, s2 _ _ hD', ?_, ys ++ [v'], upd_same, ?_, ?_, fun b o hb => ?_⟩⟩
            · rw [hyl]; exact Nat.lt_of_lt_of_le (show i < 1000 by omega) (by decide)
            · rw [List.length_append, hyl]; rfl
            · have et : ds.take (i + 1) = ds.take i ++ [d] := by rw [List.take_add_one, hdi]; rfl
              rw [et]
              have o2 : Off D H2 (upd H2 D (.lst (ys ++ [v']))) := (Off.refl D H2).upd
              have n2 : NotTup (H2 D) := by rw [s2 _ _ hD']; exact trivial
              exact DpAll.snoc (DpAll.off (n := m) o2 n2 (fun d hd => hall d (List.mem_of_mem_take hd)) (DpAll.mono s2 hys)) (Dp.off o2 n2 m _ _ (hall d hmem) hv')
            · rw [upd_ne (ne_of_none hb hD)]
              exact s2 _ _ (s _ _ hb)
          · rintro H' ⟨ys, hD', hyl, hys, s⟩
            rw [hxl, List.take_length] at hys
            refine ⟨D, ys, rfl, .inl ⟨SqL.of hD', fun p hp => kk _ _ (Same.new s hp) ?_⟩⟩
            exact .tup (.inl (.inl upd_same)) (DpAll.mono (Same.new (Same.refl H') hp) hys)
  intro n
  induction n with
  | zero => exact step 0 0 _ (Dk.never F bb) (fun m e => by cases e)
  | succ n ih => exact step (n + 1) (n + 1) _ ih (fun m e => by cases e; rfl)
abbrev sBadCount : Stmt := inClass (topS 3) 0
theorem scBadCount : FnScope ["self", "count"] ["self", "count"] (defScope sBadCount) := ⟨rfl, rfl, rfl, by decide +kernel, rfl, by decide +kernel, by decide +kernel⟩
theorem ok_BadCount {C S : Addr} (D : EAtop K mg "BadCount" "BadCount.__init__" C "ValueError.__init__" ["count"] sBadCount) (B : SlipB K mg S) (Dkept : Dk P w K mg base CX0 2 "kept" ["value"] (spKept K 1)) : EDef P w K mg base 3 "BadCount" C "ValueError.__init__" ["self", "count"] (spErr K C ["count"] 1) := by
  obtain ⟨T, hm, ⟨f, fd, iC, tI, F⟩, hno⟩ := D
  refine ⟨fd, ⟨T, f, iC, tI, F.ok scBadCount (fun vs H Q E h => ?_) (fun cdv A outer s H vs Q E hr h => ?_)⟩, hm, fun n hn => ⟨fun s us ws h1 h2 => ?_⟩⟩
  · obtain ⟨a, xs, ds, rfl, hl, _⟩ := h
    rw [List.length_cons, hl]
    all_goals rfl
  · obtain ⟨a, xs, ds, rfl, hl, ha, ⟨hL, hD⟩, k⟩ := h
    obtain ⟨x1, rfl⟩ := one_of hl
    obtain ⟨d1, rfl⟩ := one_of (hL.symm.trans hl)
    obtain ⟨e1, q1, hd1, ht1, sh1⟩ := hD 0 x1 rfl
    cases q1
    refine ⟨_, (pss_cons (ps_expr (pe_einitO rfl B.gS B.rd B.ga B.vV (by decide +kernel) (pa_cons (pv 0) (pa_cons (pe_joined (PJ.cons pe_str (PJ.cons (pe_fmtX hr (pv 1)) PJ.nil))) pa_nil)))) (pss_one (ps_est "ValueError.__init__" (pv 0) (pe_cd Dkept hr pass0 (pa_cons (pv 1) pa_nil))))), ?_⟩
    refine ⟨_, rfl, parts_run (K := K) (n := 0) (fun t ht => ?_) (Nat.zero_le _) (by show 0 + 2 ≤ 12; decide) fun z => ⟨a, C, [.str z], rfl, by show 1 ≤ 1000; decide, T, ha, ?_⟩⟩
    · simp only [List.mem_cons, List.not_mem_nil, or_false] at ht
      rcases ht with rfl | rfl
      · exact part_c (by decide +kernel)
      · exact part_v rfl sh1
    refine est_turn T (hno "count" (by simp)) rfl rfl (part0 ha) hd1 ht1 (by show 0 ≤ 900; decide) fun H1 hp1 => ?_
    exact k _ hp1
  · obtain ⟨oc, od, kV, doc, pm, an, cdv, ct, osl, rfl, lk, hcd⟩ := F.ex
    match n, hn, us, ws, h1, h2 with
    | 0, _, [_], [_], _, _ => exact .of_eq rfl
    | 1, _, [_, _], [], _, _ => exact .of_eq rfl
abbrev sBadBook : Stmt := inClass (topS 4) 0
theorem scBadBook : FnScope ["self", "what", "worth"] ["self", "what", "worth"] (defScope sBadBook) := ⟨rfl, rfl, rfl, by decide +kernel, rfl, by decide +kernel, by decide +kernel⟩
theorem ok_BadBook {C S : Addr} (D : EAtop K mg "BadBook" "BadBook.__init__" C "ValueError.__init__" ["what", "worth"] sBadBook) (B : SlipB K mg S) (Dkept : Dk P w K mg base CX0 2 "kept" ["value"] (spKept K 1)) : EDef P w K mg base 3 "BadBook" C "ValueError.__init__" ["self", "what", "worth"] (spErr K C ["what", "worth"] 1) := by
  obtain ⟨T, hm, ⟨f, fd, iC, tI, F⟩, hno⟩ := D
  refine ⟨fd, ⟨T, f, iC, tI, F.ok scBadBook (fun vs H Q E h => ?_) (fun cdv A outer s H vs Q E hr h => ?_)⟩, hm, fun n hn => ⟨fun s us ws h1 h2 => ?_⟩⟩
  · obtain ⟨a, xs, ds, rfl, hl, _⟩ := h
    rw [List.length_cons, hl]
    all_goals rfl
  · obtain ⟨a, xs, ds, rfl, hl, ha, ⟨hL, hD⟩, k⟩ := h
    obtain ⟨x1, x2, rfl⟩ := two_of hl
    obtain ⟨d1, d2, rfl⟩ := two_of (hL.symm.trans hl)
    obtain ⟨e1, q1, hd1, ht1, sh1⟩ := hD 0 x1 rfl
    cases q1
    obtain ⟨e2, q2, hd2, ht2, sh2⟩ := hD 1 x2 rfl
    cases q2
    refine ⟨_, (pss_cons (ps_expr (pe_einitO rfl B.gS B.rd B.ga B.vV (by decide +kernel) (pa_cons (pv 0) (pa_cons (pe_joined (PJ.cons pe_str (PJ.cons (pe_fmtS hr (pv 1)) (PJ.cons pe_str (PJ.cons (pe_fmtX hr (pv 2)) PJ.nil))))) pa_nil)))) (pss_cons (ps_est "ValueError.__init__" (pv 0) (pe_cd Dkept hr pass0 (pa_cons (pv 1) pa_nil))) (pss_one (ps_est "ValueError.__init__" (pv 0) (pe_cd Dkept hr pass0 (pa_cons (pv 2) pa_nil)))))), ?_⟩
    refine ⟨_, rfl, parts_run (K := K) (n := 0) (fun t ht => ?_) (Nat.zero_le _) (by show 0 + 4 ≤ 12; decide) fun z => ⟨a, C, [.str z], rfl, by show 1 ≤ 1000; decide, T, ha, ?_⟩⟩
    · simp only [List.mem_cons, List.not_mem_nil, or_false] at ht
      rcases ht with rfl | rfl | rfl | rfl
      · exact part_c (by decide +kernel)
      · exact part_v rfl sh1
      · exact part_c (by decide +kernel)
      · exact part_v rfl sh2
    refine est_turn T (hno "what" (by simp)) rfl rfl (part0 ha) hd1 ht1 (by show 0 ≤ 900; decide) fun H1 hp1 => ?_
    refine est_turn T (hno "worth" (by simp)) rfl rfl hp1 hd2 ht2 (by show 1 ≤ 900; decide) fun H2 hp2 => ?_
    exact k _ hp2
  · obtain ⟨oc, od, kV, doc, pm, an, cdv, ct, osl, rfl, lk, hcd⟩ := F.ex
    match n, hn, us, ws, h1, h2 with
    | 0, _, [_], [_, _], _, _ => exact .of_eq rfl
    | 1, _, [_, _], [_], _, _ => exact .of_eq rfl
    | 2, _, [_, _, _], [], _, _ => exact .of_eq rfl
abbrev sAmbiguous : Stmt := inClass (topS 5) 0
theorem scAmbiguous : FnScope ["self", "form", "row"] ["self", "form", "row"] (defScope sAmbiguous) := ⟨rfl, rfl, rfl, by decide +kernel, rfl, by decide +kernel, by decide +kernel⟩
theorem ok_Ambiguous {C S : Addr} (D : EAtop K mg "Ambiguous" "Ambiguous.__init__" C "ValueError.__init__" ["form", "row"] sAmbiguous) (B : SlipB K mg S) (Dkept : Dk P w K mg base CX0 2 "kept" ["value"] (spKept K 1)) : EDef P w K mg base 3 "Ambiguous" C "ValueError.__init__" ["self", "form", "row"] (spErr K C ["form", "row"] 1) := by
  obtain ⟨T, hm, ⟨f, fd, iC, tI, F⟩, hno⟩ := D
  refine ⟨fd, ⟨T, f, iC, tI, F.ok scAmbiguous (fun vs H Q E h => ?_) (fun cdv A outer s H vs Q E hr h => ?_)⟩, hm, fun n hn => ⟨fun s us ws h1 h2 => ?_⟩⟩
  · obtain ⟨a, xs, ds, rfl, hl, _⟩ := h
    rw [List.length_cons, hl]
    all_goals rfl
  · obtain ⟨a, xs, ds, rfl, hl, ha, ⟨hL, hD⟩, k⟩ := h
    obtain ⟨x1, x2, rfl⟩ := two_of hl
    obtain ⟨d1, d2, rfl⟩ := two_of (hL.symm.trans hl)
    obtain ⟨e1, q1, hd1, ht1, sh1⟩ := hD 0 x1 rfl
    cases q1
    obtain ⟨e2, q2, hd2, ht2, sh2⟩ := hD 1 x2 rfl
    cases q2
    refine ⟨_, (pss_cons (ps_expr (pe_einitO rfl B.gS B.rd B.ga B.vV (by decide +kernel) (pa_cons (pv 0) (pa_cons (pe_joined (PJ.cons pe_str (PJ.cons (pe_fmtX hr (pv 1)) (PJ.cons pe_str (PJ.cons (pe_fmtX hr (pv 2)) PJ.nil))))) pa_nil)))) (pss_cons (ps_est "ValueError.__init__" (pv 0) (pe_cd Dkept hr pass0 (pa_cons (pv 1) pa_nil))) (pss_one (ps_est "ValueError.__init__" (pv 0) (pe_cd Dkept hr pass0 (pa_cons (pv 2) pa_nil)))))), ?_⟩
    refine ⟨_, rfl, parts_run (K := K) (n := 0) (fun t ht => ?_) (Nat.zero_le _) (by show 0 + 4 ≤ 12; decide) fun z => ⟨a, C, [.str z], rfl, by show 1 ≤ 1000; decide, T, ha, ?_⟩⟩
    · simp only [List.mem_cons, List.not_mem_nil, or_false] at ht
      rcases ht with rfl | rfl | rfl | rfl
      · exact part_c (by decide +kernel)
      · exact part_v rfl sh1
      · exact part_c (by decide +kernel)
      · exact part_v rfl sh2
    refine est_turn T (hno "form" (by simp)) rfl rfl (part0 ha) hd1 ht1 (by show 0 ≤ 900; decide) fun H1 hp1 => ?_
    refine est_turn T (hno "row" (by simp)) rfl rfl hp1 hd2 ht2 (by show 1 ≤ 900; decide) fun H2 hp2 => ?_
    exact k _ hp2
  · obtain ⟨oc, od, kV, doc, pm, an, cdv, ct, osl, rfl, lk, hcd⟩ := F.ex
    match n, hn, us, ws, h1, h2 with
    | 0, _, [_], [_, _], _, _ => exact .of_eq rfl
    | 1, _, [_, _], [_], _, _ => exact .of_eq rfl
    | 2, _, [_, _, _], [], _, _ => exact .of_eq rfl
abbrev sUnwritable : Stmt := inClass (topS 6) 0
theorem scUnwritable : FnScope ["self", "kind"] ["self", "kind"] (defScope sUnwritable) := ⟨rfl, rfl, rfl, by decide +kernel, rfl, by decide +kernel, by decide +kernel⟩
theorem ok_Unwritable {C S : Addr} (D : EAtop K mg "Unwritable" "Unwritable.__init__" C "ValueError.__init__" ["kind"] sUnwritable) (B : SlipB K mg S) (Dkept : Dk P w K mg base CX0 2 "kept" ["value"] (spKept K 1)) : EDef P w K mg base 3 "Unwritable" C "ValueError.__init__" ["self", "kind"] (spErr K C ["kind"] 1) := by
  obtain ⟨T, hm, ⟨f, fd, iC, tI, F⟩, hno⟩ := D
  refine ⟨fd, ⟨T, f, iC, tI, F.ok scUnwritable (fun vs H Q E h => ?_) (fun cdv A outer s H vs Q E hr h => ?_)⟩, hm, fun n hn => ⟨fun s us ws h1 h2 => ?_⟩⟩
  · obtain ⟨a, xs, ds, rfl, hl, _⟩ := h
    rw [List.length_cons, hl]
    all_goals rfl
  · obtain ⟨a, xs, ds, rfl, hl, ha, ⟨hL, hD⟩, k⟩ := h
    obtain ⟨x1, rfl⟩ := one_of hl
    obtain ⟨d1, rfl⟩ := one_of (hL.symm.trans hl)
    obtain ⟨e1, q1, hd1, ht1, sh1⟩ := hD 0 x1 rfl
    cases q1
    refine ⟨_, (pss_cons (ps_expr (pe_einitO rfl B.gS B.rd B.ga B.vV (by decide +kernel) (pa_cons (pv 0) (pa_cons (pe_joined (PJ.cons pe_str (PJ.cons (pe_fmtX hr (pv 1)) PJ.nil))) pa_nil)))) (pss_one (ps_est "ValueError.__init__" (pv 0) (pe_cd Dkept hr pass0 (pa_cons (pv 1) pa_nil))))), ?_⟩
    refine ⟨_, rfl, parts_run (K := K) (n := 0) (fun t ht => ?_) (Nat.zero_le _) (by show 0 + 2 ≤ 12; decide) fun z => ⟨a, C, [.str z], rfl, by show 1 ≤ 1000; decide, T, ha, ?_⟩⟩
    · simp only [List.mem_cons, List.not_mem_nil, or_false] at ht
      rcases ht with rfl | rfl
      · exact part_c (by decide +kernel)
      · exact part_v rfl sh1
    refine est_turn T (hno "kind" (by simp)) rfl rfl (part0 ha) hd1 ht1 (by show 0 ≤ 900; decide) fun H1 hp1 => ?_
    exact k _ hp1
  · obtain ⟨oc, od, kV, doc, pm, an, cdv, ct, osl, rfl, lk, hcd⟩ := F.ex
    match n, hn, us, ws, h1, h2 with
    | 0, _, [_], [_], _, _ => exact .of_eq rfl
    | 1, _, [_, _], [], _, _ => exact .of_eq rfl
abbrev sUnused : Stmt := inClass (topS 7) 0
theorem scUnused : FnScope ["self", "kind"] ["self", "kind"] (defScope sUnused) := ⟨rfl, rfl, rfl, by decide +kernel, rfl, by decide +kernel, by decide +kernel⟩
theorem ok_Unused {C S : Addr} (D : EAtop K mg "Unused" "Unused.__init__" C "ValueError.__init__" ["kind"] sUnused) (B : SlipB K mg S) (Dkept : Dk P w K mg base CX0 2 "kept" ["value"] (spKept K 1)) : EDef P w K mg base 3 "Unused" C "ValueError.__init__" ["self", "kind"] (spErr K C ["kind"] 1) := by
  obtain ⟨T, hm, ⟨f, fd, iC, tI, F⟩, hno⟩ := D
  refine ⟨fd, ⟨T, f, iC, tI, F.ok scUnused (fun vs H Q E h => ?_) (fun cdv A outer s H vs Q E hr h => ?_)⟩, hm, fun n hn => ⟨fun s us ws h1 h2 => ?_⟩⟩
  · obtain ⟨a, xs, ds, rfl, hl, _⟩ := h
    rw [List.length_cons, hl]
    all_goals rfl
  · obtain ⟨a, xs, ds, rfl, hl, ha, ⟨hL, hD⟩, k⟩ := h
    obtain ⟨x1, rfl⟩ := one_of hl
    obtain ⟨d1, rfl⟩ := one_of (hL.symm.trans hl)
    obtain ⟨e1, q1, hd1, ht1, sh1⟩ := hD 0 x1 rfl
    cases q1
    refine ⟨_, (pss_cons (ps_expr (pe_einitO rfl B.gS B.rd B.ga B.vV (by decide +kernel) (pa_cons (pv 0) (pa_cons (pe_joined (PJ.cons pe_str (PJ.cons (pe_fmtX hr (pv 1)) PJ.nil))) pa_nil)))) (pss_one (ps_est "ValueError.__init__" (pv 0) (pe_cd Dkept hr pass0 (pa_cons (pv 1) pa_nil))))), ?_⟩
    refine ⟨_, rfl, parts_run (K := K) (n := 0) (fun t ht => ?_) (Nat.zero_le _) (by show 0 + 2 ≤ 12; decide) fun z => ⟨a, C, [.str z], rfl, by show 1 ≤ 1000; decide, T, ha, ?_⟩⟩
    · simp only [List.mem_cons, List.not_mem_nil, or_false] at ht
      rcases ht with rfl | rfl
      · exact part_c (by decide +kernel)
      · exact part_v rfl sh1
    refine est_turn T (hno "kind" (by simp)) rfl rfl (part0 ha) hd1 ht1 (by show 0 ≤ 900; decide) fun H1 hp1 => ?_
    exact k _ hp1
  · obtain ⟨oc, od, kV, doc, pm, an, cdv, ct, osl, rfl, lk, hcd⟩ := F.ex
    match n, hn, us, ws, h1, h2 with
    | 0, _, [_], [_], _, _ => exact .of_eq rfl
    | 1, _, [_, _], [], _, _ => exact .of_eq rfl
abbrev sBadRule : Stmt := inClass (topS 8) 0
theorem scBadRule : FnScope ["self", "worth"] ["self", "worth"] (defScope sBadRule) := ⟨rfl, rfl, rfl, by decide +kernel, rfl, by decide +kernel, by decide +kernel⟩
theorem ok_BadRule {C S : Addr} (D : EAtop K mg "BadRule" "BadRule.__init__" C "ValueError.__init__" ["worth"] sBadRule) (B : SlipB K mg S) (Dkept : Dk P w K mg base CX0 2 "kept" ["value"] (spKept K 1)) : EDef P w K mg base 3 "BadRule" C "ValueError.__init__" ["self", "worth"] (spErr K C ["worth"] 1) := by
  obtain ⟨T, hm, ⟨f, fd, iC, tI, F⟩, hno⟩ := D
  refine ⟨fd, ⟨T, f, iC, tI, F.ok scBadRule (fun vs H Q E h => ?_) (fun cdv A outer s H vs Q E hr h => ?_)⟩, hm, fun n hn => ⟨fun s us ws h1 h2 => ?_⟩⟩
  · obtain ⟨a, xs, ds, rfl, hl, _⟩ := h
    rw [List.length_cons, hl]
    all_goals rfl
  · obtain ⟨a, xs, ds, rfl, hl, ha, ⟨hL, hD⟩, k⟩ := h
    obtain ⟨x1, rfl⟩ := one_of hl
    obtain ⟨d1, rfl⟩ := one_of (hL.symm.trans hl)
    obtain ⟨e1, q1, hd1, ht1, sh1⟩ := hD 0 x1 rfl
    cases q1
    refine ⟨_, (pss_cons (ps_expr (pe_einitO rfl B.gS B.rd B.ga B.vV (by decide +kernel) (pa_cons (pv 0) (pa_cons (pe_joined (PJ.cons pe_str (PJ.cons (pe_fmtX hr (pv 1)) PJ.nil))) pa_nil)))) (pss_one (ps_est "ValueError.__init__" (pv 0) (pe_cd Dkept hr pass0 (pa_cons (pv 1) pa_nil))))), ?_⟩
    refine ⟨_, rfl, parts_run (K := K) (n := 0) (fun t ht => ?_) (Nat.zero_le _) (by show 0 + 2 ≤ 12; decide) fun z => ⟨a, C, [.str z], rfl, by show 1 ≤ 1000; decide, T, ha, ?_⟩⟩
    · simp only [List.mem_cons, List.not_mem_nil, or_false] at ht
      rcases ht with rfl | rfl
      · exact part_c (by decide +kernel)
      · exact part_v rfl sh1
    refine est_turn T (hno "worth" (by simp)) rfl rfl (part0 ha) hd1 ht1 (by show 0 ≤ 900; decide) fun H1 hp1 => ?_
    exact k _ hp1
  · obtain ⟨oc, od, kV, doc, pm, an, cdv, ct, osl, rfl, lk, hcd⟩ := F.ex
    match n, hn, us, ws, h1, h2 with
    | 0, _, [_], [_], _, _ => exact .of_eq rfl
    | 1, _, [_, _], [], _, _ => exact .of_eq rfl
abbrev sNoPlace : Stmt := inClass (topS 9) 0
theorem scNoPlace : FnScope ["self", "place"] ["self", "place"] (defScope sNoPlace) := ⟨rfl, rfl, rfl, by decide +kernel, rfl, by decide +kernel, by decide +kernel⟩
theorem ok_NoPlace {C S : Addr} (D : EAtop K mg "NoPlace" "NoPlace.__init__" C "ValueError.__init__" ["place"] sNoPlace) (B : SlipB K mg S) (Dkept : Dk P w K mg base CX0 2 "kept" ["value"] (spKept K 1)) : EDef P w K mg base 3 "NoPlace" C "ValueError.__init__" ["self", "place"] (spErr K C ["place"] 1) := by
  obtain ⟨T, hm, ⟨f, fd, iC, tI, F⟩, hno⟩ := D
  refine ⟨fd, ⟨T, f, iC, tI, F.ok scNoPlace (fun vs H Q E h => ?_) (fun cdv A outer s H vs Q E hr h => ?_)⟩, hm, fun n hn => ⟨fun s us ws h1 h2 => ?_⟩⟩
  · obtain ⟨a, xs, ds, rfl, hl, _⟩ := h
    rw [List.length_cons, hl]
    all_goals rfl
  · obtain ⟨a, xs, ds, rfl, hl, ha, ⟨hL, hD⟩, k⟩ := h
    obtain ⟨x1, rfl⟩ := one_of hl
    obtain ⟨d1, rfl⟩ := one_of (hL.symm.trans hl)
    obtain ⟨e1, q1, hd1, ht1, sh1⟩ := hD 0 x1 rfl
    cases q1
    refine ⟨_, (pss_cons (ps_expr (pe_einitO rfl B.gS B.rd B.ga B.vV (by decide +kernel) (pa_cons (pv 0) (pa_cons (pe_joined (PJ.cons pe_str (PJ.cons (pe_fmtX hr (pv 1)) PJ.nil))) pa_nil)))) (pss_one (ps_est "ValueError.__init__" (pv 0) (pe_cd Dkept hr pass0 (pa_cons (pv 1) pa_nil))))), ?_⟩
    refine ⟨_, rfl, parts_run (K := K) (n := 0) (fun t ht => ?_) (Nat.zero_le _) (by show 0 + 2 ≤ 12; decide) fun z => ⟨a, C, [.str z], rfl, by show 1 ≤ 1000; decide, T, ha, ?_⟩⟩
    · simp only [List.mem_cons, List.not_mem_nil, or_false] at ht
      rcases ht with rfl | rfl
      · exact part_c (by decide +kernel)
      · exact part_v rfl sh1
    refine est_turn T (hno "place" (by simp)) rfl rfl (part0 ha) hd1 ht1 (by show 0 ≤ 900; decide) fun H1 hp1 => ?_
    exact k _ hp1
  · obtain ⟨oc, od, kV, doc, pm, an, cdv, ct, osl, rfl, lk, hcd⟩ := F.ex
    match n, hn, us, ws, h1, h2 with
    | 0, _, [_], [_], _, _ => exact .of_eq rfl
    | 1, _, [_, _], [], _, _ => exact .of_eq rfl
abbrev sNoCase : Stmt := inClass (topS 10) 0
theorem scNoCase : FnScope ["self", "rule", "spots"] ["self", "rule", "spots"] (defScope sNoCase) := ⟨rfl, rfl, rfl, by decide +kernel, rfl, by decide +kernel, by decide +kernel⟩
theorem ok_NoCase {C S : Addr} (D : EAtop K mg "NoCase" "NoCase.__init__" C "ValueError.__init__" ["rule", "spots"] sNoCase) (B : SlipB K mg S) (Dkept : Dk P w K mg base CX0 2 "kept" ["value"] (spKept K 1)) : EDef P w K mg base 3 "NoCase" C "ValueError.__init__" ["self", "rule", "spots"] (spErr K C ["rule", "spots"] 1) := by
  obtain ⟨T, hm, ⟨f, fd, iC, tI, F⟩, hno⟩ := D
  refine ⟨fd, ⟨T, f, iC, tI, F.ok scNoCase (fun vs H Q E h => ?_) (fun cdv A outer s H vs Q E hr h => ?_)⟩, hm, fun n hn => ⟨fun s us ws h1 h2 => ?_⟩⟩
  · obtain ⟨a, xs, ds, rfl, hl, _⟩ := h
    rw [List.length_cons, hl]
    all_goals rfl
  · obtain ⟨a, xs, ds, rfl, hl, ha, ⟨hL, hD⟩, k⟩ := h
    obtain ⟨x1, x2, rfl⟩ := two_of hl
    obtain ⟨d1, d2, rfl⟩ := two_of (hL.symm.trans hl)
    obtain ⟨e1, q1, hd1, ht1, sh1⟩ := hD 0 x1 rfl
    cases q1
    obtain ⟨e2, q2, hd2, ht2, sh2⟩ := hD 1 x2 rfl
    cases q2
    refine ⟨_, (pss_cons (ps_expr (pe_einitO rfl B.gS B.rd B.ga B.vV (by decide +kernel) (pa_cons (pv 0) (pa_cons (pe_joined (PJ.cons pe_str (PJ.cons (pe_fmtX hr (pv 1)) (PJ.cons pe_str (PJ.cons (pe_fmtX hr (pv 2)) PJ.nil))))) pa_nil)))) (pss_cons (ps_est "ValueError.__init__" (pv 0) (pe_cd Dkept hr pass0 (pa_cons (pv 1) pa_nil))) (pss_one (ps_est "ValueError.__init__" (pv 0) (pe_cd Dkept hr pass0 (pa_cons (pv 2) pa_nil)))))), ?_⟩
    refine ⟨_, rfl, parts_run (K := K) (n := 0) (fun t ht => ?_) (Nat.zero_le _) (by show 0 + 4 ≤ 12; decide) fun z => ⟨a, C, [.str z], rfl, by show 1 ≤ 1000; decide, T, ha, ?_⟩⟩
    · simp only [List.mem_cons, List.not_mem_nil, or_false] at ht
      rcases ht with rfl | rfl | rfl | rfl
      · exact part_c (by decide +kernel)
      · exact part_v rfl sh1
      · exact part_c (by decide +kernel)
      · exact part_v rfl sh2
    refine est_turn T (hno "rule" (by simp)) rfl rfl (part0 ha) hd1 ht1 (by show 0 ≤ 900; decide) fun H1 hp1 => ?_
    refine est_turn T (hno "spots" (by simp)) rfl rfl hp1 hd2 ht2 (by show 1 ≤ 900; decide) fun H2 hp2 => ?_
    exact k _ hp2
  · obtain ⟨oc, od, kV, doc, pm, an, cdv, ct, osl, rfl, lk, hcd⟩ := F.ex
    match n, hn, us, ws, h1, h2 with
    | 0, _, [_], [_, _], _, _ => exact .of_eq rfl
    | 1, _, [_, _], [_], _, _ => exact .of_eq rfl
    | 2, _, [_, _, _], [], _, _ => exact .of_eq rfl
abbrev sUneven : Stmt := inClass (topS 11) 0
theorem scUneven : FnScope ["self", "token"] ["self", "token"] (defScope sUneven) := ⟨rfl, rfl, rfl, by decide +kernel, rfl, by decide +kernel, by decide +kernel⟩
theorem ok_Uneven {C S : Addr} (D : EAtop K mg "Uneven" "Uneven.__init__" C "ValueError.__init__" ["token"] sUneven) (B : SlipB K mg S) (Dkept : Dk P w K mg base CX0 2 "kept" ["value"] (spKept K 1)) : EDef P w K mg base 3 "Uneven" C "ValueError.__init__" ["self", "token"] (spErr K C ["token"] 1) := by
  obtain ⟨T, hm, ⟨f, fd, iC, tI, F⟩, hno⟩ := D
  refine ⟨fd, ⟨T, f, iC, tI, F.ok scUneven (fun vs H Q E h => ?_) (fun cdv A outer s H vs Q E hr h => ?_)⟩, hm, fun n hn => ⟨fun s us ws h1 h2 => ?_⟩⟩
  · obtain ⟨a, xs, ds, rfl, hl, _⟩ := h
    rw [List.length_cons, hl]
    all_goals rfl
  · obtain ⟨a, xs, ds, rfl, hl, ha, ⟨hL, hD⟩, k⟩ := h
    obtain ⟨x1, rfl⟩ := one_of hl
    obtain ⟨d1, rfl⟩ := one_of (hL.symm.trans hl)
    obtain ⟨e1, q1, hd1, ht1, sh1⟩ := hD 0 x1 rfl
    cases q1
    refine ⟨_, (pss_cons (ps_expr (pe_einitO rfl B.gS B.rd B.ga B.vV (by decide +kernel) (pa_cons (pv 0) (pa_cons (pe_joined (PJ.cons pe_str (PJ.cons (pe_fmtX hr (pv 1)) PJ.nil))) pa_nil)))) (pss_one (ps_est "ValueError.__init__" (pv 0) (pe_cd Dkept hr pass0 (pa_cons (pv 1) pa_nil))))), ?_⟩
    refine ⟨_, rfl, parts_run (K := K) (n := 0) (fun t ht => ?_) (Nat.zero_le _) (by show 0 + 2 ≤ 12; decide) fun z => ⟨a, C, [.str z], rfl, by show 1 ≤ 1000; decide, T, ha, ?_⟩⟩
    · simp only [List.mem_cons, List.not_mem_nil, or_false] at ht
      rcases ht with rfl | rfl
      · exact part_c (by decide +kernel)
      · exact part_v rfl sh1
    refine est_turn T (hno "token" (by simp)) rfl rfl (part0 ha) hd1 ht1 (by show 0 ≤ 900; decide) fun H1 hp1 => ?_
    exact k _ hp1
  · obtain ⟨oc, od, kV, doc, pm, an, cdv, ct, osl, rfl, lk, hcd⟩ := F.ex
    match n, hn, us, ws, h1, h2 with
    | 0, _, [_], [_], _, _ => exact .of_eq rfl
    | 1, _, [_, _], [], _, _ => exact .of_eq rfl
abbrev sUnwritten : Stmt := inClass (topS 12) 0
theorem scUnwritten : FnScope ["self", "path"] ["self", "path"] (defScope sUnwritten) := ⟨rfl, rfl, rfl, by decide +kernel, rfl, by decide +kernel, by decide +kernel⟩
theorem ok_Unwritten {C S : Addr} (D : EAtop K mg "Unwritten" "Unwritten.__init__" C "ValueError.__init__" ["path"] sUnwritten) (B : SlipB K mg S) (Dkept : Dk P w K mg base CX0 2 "kept" ["value"] (spKept K 1)) : EDef P w K mg base 3 "Unwritten" C "ValueError.__init__" ["self", "path"] (spErr K C ["path"] 1) := by
  obtain ⟨T, hm, ⟨f, fd, iC, tI, F⟩, hno⟩ := D
  refine ⟨fd, ⟨T, f, iC, tI, F.ok scUnwritten (fun vs H Q E h => ?_) (fun cdv A outer s H vs Q E hr h => ?_)⟩, hm, fun n hn => ⟨fun s us ws h1 h2 => ?_⟩⟩
  · obtain ⟨a, xs, ds, rfl, hl, _⟩ := h
    rw [List.length_cons, hl]
    all_goals rfl
  · obtain ⟨a, xs, ds, rfl, hl, ha, ⟨hL, hD⟩, k⟩ := h
    obtain ⟨x1, rfl⟩ := one_of hl
    obtain ⟨d1, rfl⟩ := one_of (hL.symm.trans hl)
    obtain ⟨e1, q1, hd1, ht1, sh1⟩ := hD 0 x1 rfl
    cases q1
    refine ⟨_, (pss_cons (ps_expr (pe_einitO rfl B.gS B.rd B.ga B.vV (by decide +kernel) (pa_cons (pv 0) (pa_cons (pe_joined (PJ.cons pe_str (PJ.cons (pe_fmtX hr (pv 1)) PJ.nil))) pa_nil)))) (pss_one (ps_est "ValueError.__init__" (pv 0) (pe_cd Dkept hr pass0 (pa_cons (pv 1) pa_nil))))), ?_⟩
    refine ⟨_, rfl, parts_run (K := K) (n := 0) (fun t ht => ?_) (Nat.zero_le _) (by show 0 + 2 ≤ 12; decide) fun z => ⟨a, C, [.str z], rfl, by show 1 ≤ 1000; decide, T, ha, ?_⟩⟩
    · simp only [List.mem_cons, List.not_mem_nil, or_false] at ht
      rcases ht with rfl | rfl
      · exact part_c (by decide +kernel)
      · exact part_v rfl sh1
    refine est_turn T (hno "path" (by simp)) rfl rfl (part0 ha) hd1 ht1 (by show 0 ≤ 900; decide) fun H1 hp1 => ?_
    exact k _ hp1
  · obtain ⟨oc, od, kV, doc, pm, an, cdv, ct, osl, rfl, lk, hcd⟩ := F.ex
    match n, hn, us, ws, h1, h2 with
    | 0, _, [_], [_], _, _ => exact .of_eq rfl
    | 1, _, [_, _], [], _, _ => exact .of_eq rfl
abbrev sClash : Stmt := inClass (topS 13) 0
theorem scClash : FnScope ["self", "kind"] ["self", "kind"] (defScope sClash) := ⟨rfl, rfl, rfl, by decide +kernel, rfl, by decide +kernel, by decide +kernel⟩
theorem ok_Clash {C S : Addr} (D : EAtop K mg "Clash" "Clash.__init__" C "ValueError.__init__" ["kind"] sClash) (B : SlipB K mg S) (Dkept : Dk P w K mg base CX0 2 "kept" ["value"] (spKept K 1)) : EDef P w K mg base 3 "Clash" C "ValueError.__init__" ["self", "kind"] (spErr K C ["kind"] 1) := by
  obtain ⟨T, hm, ⟨f, fd, iC, tI, F⟩, hno⟩ := D
  refine ⟨fd, ⟨T, f, iC, tI, F.ok scClash (fun vs H Q E h => ?_) (fun cdv A outer s H vs Q E hr h => ?_)⟩, hm, fun n hn => ⟨fun s us ws h1 h2 => ?_⟩⟩
  · obtain ⟨a, xs, ds, rfl, hl, _⟩ := h
    rw [List.length_cons, hl]
    all_goals rfl
  · obtain ⟨a, xs, ds, rfl, hl, ha, ⟨hL, hD⟩, k⟩ := h
    obtain ⟨x1, rfl⟩ := one_of hl
    obtain ⟨d1, rfl⟩ := one_of (hL.symm.trans hl)
    obtain ⟨e1, q1, hd1, ht1, sh1⟩ := hD 0 x1 rfl
    cases q1
    refine ⟨_, (pss_cons (ps_expr (pe_einitO rfl B.gS B.rd B.ga B.vV (by decide +kernel) (pa_cons (pv 0) (pa_cons (pe_joined (PJ.cons pe_str (PJ.cons (pe_fmtX hr (pv 1)) PJ.nil))) pa_nil)))) (pss_one (ps_est "ValueError.__init__" (pv 0) (pe_cd Dkept hr pass0 (pa_cons (pv 1) pa_nil))))), ?_⟩
    refine ⟨_, rfl, parts_run (K := K) (n := 0) (fun t ht => ?_) (Nat.zero_le _) (by show 0 + 2 ≤ 12; decide) fun z => ⟨a, C, [.str z], rfl, by show 1 ≤ 1000; decide, T, ha, ?_⟩⟩
    · simp only [List.mem_cons, List.not_mem_nil, or_false] at ht
      rcases ht with rfl | rfl
      · exact part_c (by decide +kernel)
      · exact part_v rfl sh1
    refine est_turn T (hno "kind" (by simp)) rfl rfl (part0 ha) hd1 ht1 (by show 0 ≤ 900; decide) fun H1 hp1 => ?_
    exact k _ hp1
  · obtain ⟨oc, od, kV, doc, pm, an, cdv, ct, osl, rfl, lk, hcd⟩ := F.ex
    match n, hn, us, ws, h1, h2 with
    | 0, _, [_], [_], _, _ => exact .of_eq rfl
    | 1, _, [_, _], [], _, _ => exact .of_eq rfl
abbrev sUnknown : Stmt := inClass (topS 14) 0
theorem scUnknown : FnScope ["self", "name"] ["self", "name"] (defScope sUnknown) := ⟨rfl, rfl, rfl, by decide +kernel, rfl, by decide +kernel, by decide +kernel⟩
theorem ok_Unknown {C S : Addr} (D : EAtop K mg "Unknown" "Unknown.__init__" C "LookupError.__init__" ["name"] sUnknown) (B : LookB K mg) (Dkept : Dk P w K mg base CX0 2 "kept" ["value"] (spKept K 1)) : EDef P w K mg base 3 "Unknown" C "LookupError.__init__" ["self", "name"] (spErr K C ["name"] 1) := by
  obtain ⟨T, hm, ⟨f, fd, iC, tI, F⟩, hno⟩ := D
  refine ⟨fd, ⟨T, f, iC, tI, F.ok scUnknown (fun vs H Q E h => ?_) (fun cdv A outer s H vs Q E hr h => ?_)⟩, hm, fun n hn => ⟨fun s us ws h1 h2 => ?_⟩⟩
  · obtain ⟨a, xs, ds, rfl, hl, _⟩ := h
    rw [List.length_cons, hl]
    all_goals rfl
  · obtain ⟨a, xs, ds, rfl, hl, ha, ⟨hL, hD⟩, k⟩ := h
    obtain ⟨x1, rfl⟩ := one_of hl
    obtain ⟨d1, rfl⟩ := one_of (hL.symm.trans hl)
    obtain ⟨e1, q1, hd1, ht1, sh1⟩ := hD 0 x1 rfl
    cases q1
    refine ⟨_, (pss_cons (ps_expr (pe_einitB rfl B.gL (by decide +kernel) typ_LE (by decide +kernel) B.vL (by decide +kernel) (pa_cons (pv 0) (pa_cons (pe_joined (PJ.cons pe_str (PJ.cons (pe_fmtX hr (pv 1)) PJ.nil))) pa_nil)))) (pss_one (ps_est "LookupError.__init__" (pv 0) (pe_cd Dkept hr pass0 (pa_cons (pv 1) pa_nil))))), ?_⟩
    refine ⟨_, rfl, parts_run (K := K) (n := 0) (fun t ht => ?_) (Nat.zero_le _) (by show 0 + 2 ≤ 12; decide) fun z => ⟨a, C, [.str z], rfl, by show 1 ≤ 1000; decide, T, ha, ?_⟩⟩
    · simp only [List.mem_cons, List.not_mem_nil, or_false] at ht
      rcases ht with rfl | rfl
      · exact part_c (by decide +kernel)
      · exact part_v rfl sh1
    refine est_turn T (hno "name" (by simp)) rfl rfl (part0 ha) hd1 ht1 (by show 0 ≤ 900; decide) fun H1 hp1 => ?_
    exact k _ hp1
  · obtain ⟨oc, od, kV, doc, pm, an, cdv, ct, osl, rfl, lk, hcd⟩ := F.ex
    match n, hn, us, ws, h1, h2 with
    | 0, _, [_], [_], _, _ => exact .of_eq rfl
    | 1, _, [_, _], [], _, _ => exact .of_eq rfl
abbrev sTooFew : Stmt := inClass (topS 15) 0
theorem scTooFew : FnScope ["self", "count"] ["self", "count"] (defScope sTooFew) := ⟨rfl, rfl, rfl, by decide +kernel, rfl, by decide +kernel, by decide +kernel⟩
theorem ok_TooFew {C S : Addr} (D : EAtop K mg "TooFew" "TooFew.__init__" C "LookupError.__init__" ["count"] sTooFew) (B : LookB K mg) (Dkept : Dk P w K mg base CX0 2 "kept" ["value"] (spKept K 1)) : EDef P w K mg base 3 "TooFew" C "LookupError.__init__" ["self", "count"] (spErr K C ["count"] 1) := by
  obtain ⟨T, hm, ⟨f, fd, iC, tI, F⟩, hno⟩ := D
  refine ⟨fd, ⟨T, f, iC, tI, F.ok scTooFew (fun vs H Q E h => ?_) (fun cdv A outer s H vs Q E hr h => ?_)⟩, hm, fun n hn => ⟨fun s us ws h1 h2 => ?_⟩⟩
  · obtain ⟨a, xs, ds, rfl, hl, _⟩ := h
    rw [List.length_cons, hl]
    all_goals rfl
  · obtain ⟨a, xs, ds, rfl, hl, ha, ⟨hL, hD⟩, k⟩ := h
    obtain ⟨x1, rfl⟩ := one_of hl
    obtain ⟨d1, rfl⟩ := one_of (hL.symm.trans hl)
    obtain ⟨e1, q1, hd1, ht1, sh1⟩ := hD 0 x1 rfl
    cases q1
    refine ⟨_, (pss_cons (ps_expr (pe_einitB rfl B.gL (by decide +kernel) typ_LE (by decide +kernel) B.vL (by decide +kernel) (pa_cons (pv 0) (pa_cons (pe_joined (PJ.cons pe_str (PJ.cons (pe_fmtX hr (pv 1)) PJ.nil))) pa_nil)))) (pss_one (ps_est "LookupError.__init__" (pv 0) (pe_cd Dkept hr pass0 (pa_cons (pv 1) pa_nil))))), ?_⟩
    refine ⟨_, rfl, parts_run (K := K) (n := 0) (fun t ht => ?_) (Nat.zero_le _) (by show 0 + 2 ≤ 12; decide) fun z => ⟨a, C, [.str z], rfl, by show 1 ≤ 1000; decide, T, ha, ?_⟩⟩
    · simp only [List.mem_cons, List.not_mem_nil, or_false] at ht
      rcases ht with rfl | rfl
      · exact part_c (by decide +kernel)
      · exact part_v rfl sh1
    refine est_turn T (hno "count" (by simp)) rfl rfl (part0 ha) hd1 ht1 (by show 0 ≤ 900; decide) fun H1 hp1 => ?_
    exact k _ hp1
  · obtain ⟨oc, od, kV, doc, pm, an, cdv, ct, osl, rfl, lk, hcd⟩ := F.ex
    match n, hn, us, ws, h1, h2 with
    | 0, _, [_], [_], _, _ => exact .of_eq rfl
    | 1, _, [_, _], [], _, _ => exact .of_eq rfl
abbrev sNothingToUndo : Stmt := inClass (topS 16) 0
theorem scNothingToUndo : FnScope ["self"] ["self"] (defScope sNothingToUndo) := ⟨rfl, rfl, rfl, by decide +kernel, rfl, by decide +kernel, by decide +kernel⟩
theorem ok_NothingToUndo {C S : Addr} (D : EAtop K mg "NothingToUndo" "NothingToUndo.__init__" C "LookupError.__init__" [] sNothingToUndo) (B : LookB K mg) (Dkept : Dk P w K mg base CX0 2 "kept" ["value"] (spKept K 1)) : EDef P w K mg base 3 "NothingToUndo" C "LookupError.__init__" ["self"] (spErr K C [] 1) := by
  obtain ⟨T, hm, ⟨f, fd, iC, tI, F⟩, hno⟩ := D
  refine ⟨fd, ⟨T, f, iC, tI, F.ok scNothingToUndo (fun vs H Q E h => ?_) (fun cdv A outer s H vs Q E hr h => ?_)⟩, hm, fun n hn => ⟨fun s us ws h1 h2 => ?_⟩⟩
  · obtain ⟨a, xs, ds, rfl, hl, _⟩ := h
    rw [List.length_cons, hl]
    all_goals rfl
  · obtain ⟨a, xs, ds, rfl, hl, ha, ⟨hL, hD⟩, k⟩ := h
    obtain rfl := nil_of hl
    obtain rfl := nil_of hL.symm
    refine ⟨_, (pss_one (ps_expr (pe_einitB rfl B.gL (by decide +kernel) typ_LE (by decide +kernel) B.vL (by decide +kernel) (pa_cons (pv 0) (pa_cons pe_str pa_nil))))), ?_⟩
    refine ⟨_, rfl, a, C, _, rfl, by show 1 ≤ 1000; decide, T, ha, ?_⟩
    exact k _ (part0 ha)
  · obtain ⟨oc, od, kV, doc, pm, an, cdv, ct, osl, rfl, lk, hcd⟩ := F.ex
    match n, hn, us, ws, h1, h2 with
    | 0, _, [_], [], _, _ => exact .of_eq rfl
abbrev sRefused : Stmt := inClass (topS 17) 0
theorem scRefused : FnScope ["self", "at", "line", "awaited"] ["self", "at", "line", "awaited"] (defScope sRefused) := ⟨rfl, rfl, rfl, by decide +kernel, rfl, by decide +kernel, by decide +kernel⟩
theorem ok_Refused {C S : Addr} (D : EAtop K mg "Refused" "Refused.__init__" C "RuntimeError.__init__" ["at", "line", "awaited"] sRefused) (B : RunB K mg) (Dkept : Dk P w K mg base CX0 2 "kept" ["value"] (spKept K 1)) : EDef P w K mg base 3 "Refused" C "RuntimeError.__init__" ["self", "at", "line", "awaited"] (spErr K C ["at", "line", "awaited"] 1) := by
  obtain ⟨T, hm, ⟨f, fd, iC, tI, F⟩, hno⟩ := D
  refine ⟨fd, ⟨T, f, iC, tI, F.ok scRefused (fun vs H Q E h => ?_) (fun cdv A outer s H vs Q E hr h => ?_)⟩, hm, fun n hn => ⟨fun s us ws h1 h2 => ?_⟩⟩
  · obtain ⟨a, xs, ds, rfl, hl, _⟩ := h
    rw [List.length_cons, hl]
    all_goals rfl
  · obtain ⟨a, xs, ds, rfl, hl, ha, ⟨hL, hD⟩, k⟩ := h
    obtain ⟨x1, x2, x3, rfl⟩ := three_of hl
    obtain ⟨d1, d2, d3, rfl⟩ := three_of (hL.symm.trans hl)
    obtain ⟨e1, q1, hd1, ht1, sh1⟩ := hD 0 x1 rfl
    cases q1
    obtain ⟨e2, q2, hd2, ht2, sh2⟩ := hD 1 x2 rfl
    cases q2
    obtain ⟨e3, q3, hd3, ht3, sh3⟩ := hD 2 x3 rfl
    cases q3
    refine ⟨_, (pss_cons (ps_expr (pe_einitB rfl B.gR (by decide +kernel) typ_RE (by decide +kernel) B.vR (by decide +kernel) (pa_cons (pv 0) (pa_cons (pe_joined (PJ.cons pe_str (PJ.cons (pe_fmtX hr (pv 1)) (PJ.cons pe_str (PJ.cons (pe_fmtX hr (pv 2)) (PJ.cons pe_str (PJ.cons (pe_fmtX hr (pv 3)) PJ.nil))))))) pa_nil)))) (pss_cons (ps_est "RuntimeError.__init__" (pv 0) (pe_cd Dkept hr pass0 (pa_cons (pv 1) pa_nil))) (pss_cons (ps_est "RuntimeError.__init__" (pv 0) (pe_cd Dkept hr pass0 (pa_cons (pv 2) pa_nil))) (pss_one (ps_est "RuntimeError.__init__" (pv 0) (pe_cd Dkept hr pass0 (pa_cons (pv 3) pa_nil))))))), ?_⟩
    refine ⟨_, rfl, parts_run (K := K) (n := 0) (fun t ht => ?_) (Nat.zero_le _) (by show 0 + 6 ≤ 12; decide) fun z => ⟨a, C, [.str z], rfl, by show 1 ≤ 1000; decide, T, ha, ?_⟩⟩
    · simp only [List.mem_cons, List.not_mem_nil, or_false] at ht
      rcases ht with rfl | rfl | rfl | rfl | rfl | rfl
      · exact part_c (by decide +kernel)
      · exact part_v rfl sh1
      · exact part_c (by decide +kernel)
      · exact part_v rfl sh2
      · exact part_c (by decide +kernel)
      · exact part_v rfl sh3
    refine est_turn T (hno "at" (by simp)) rfl rfl (part0 ha) hd1 ht1 (by show 0 ≤ 900; decide) fun H1 hp1 => ?_
    refine est_turn T (hno "line" (by simp)) rfl rfl hp1 hd2 ht2 (by show 1 ≤ 900; decide) fun H2 hp2 => ?_
    refine est_turn T (hno "awaited" (by simp)) rfl rfl hp2 hd3 ht3 (by show 2 ≤ 900; decide) fun H3 hp3 => ?_
    exact k _ hp3
  · obtain ⟨oc, od, kV, doc, pm, an, cdv, ct, osl, rfl, lk, hcd⟩ := F.ex
    match n, hn, us, ws, h1, h2 with
    | 0, _, [_], [_, _, _], _, _ => exact .of_eq rfl
    | 1, _, [_, _], [_, _], _, _ => exact .of_eq rfl
    | 2, _, [_, _, _], [_], _, _ => exact .of_eq rfl
    | 3, _, [_, _, _, _], [], _, _ => exact .of_eq rfl
abbrev sTooDeep : Stmt := inClass (topS 18) 0
theorem scTooDeep : FnScope ["self", "at"] ["self", "at"] (defScope sTooDeep) := ⟨rfl, rfl, rfl, by decide +kernel, rfl, by decide +kernel, by decide +kernel⟩
theorem ok_TooDeep {C S : Addr} (D : EAtop K mg "TooDeep" "TooDeep.__init__" C "RuntimeError.__init__" ["at"] sTooDeep) (B : RunB K mg) (Dkept : Dk P w K mg base CX0 2 "kept" ["value"] (spKept K 1)) : EDef P w K mg base 3 "TooDeep" C "RuntimeError.__init__" ["self", "at"] (spErr K C ["at"] 1) := by
  obtain ⟨T, hm, ⟨f, fd, iC, tI, F⟩, hno⟩ := D
  refine ⟨fd, ⟨T, f, iC, tI, F.ok scTooDeep (fun vs H Q E h => ?_) (fun cdv A outer s H vs Q E hr h => ?_)⟩, hm, fun n hn => ⟨fun s us ws h1 h2 => ?_⟩⟩
  · obtain ⟨a, xs, ds, rfl, hl, _⟩ := h
    rw [List.length_cons, hl]
    all_goals rfl
  · obtain ⟨a, xs, ds, rfl, hl, ha, ⟨hL, hD⟩, k⟩ := h
    obtain ⟨x1, rfl⟩ := one_of hl
    obtain ⟨d1, rfl⟩ := one_of (hL.symm.trans hl)
    obtain ⟨e1, q1, hd1, ht1, sh1⟩ := hD 0 x1 rfl
    cases q1
    refine ⟨_, (pss_cons (ps_expr (pe_einitB rfl B.gR (by decide +kernel) typ_RE (by decide +kernel) B.vR (by decide +kernel) (pa_cons (pv 0) (pa_cons (pe_joined (PJ.cons pe_str (PJ.cons (pe_fmtX hr (pv 1)) PJ.nil))) pa_nil)))) (pss_one (ps_est "RuntimeError.__init__" (pv 0) (pe_cd Dkept hr pass0 (pa_cons (pv 1) pa_nil))))), ?_⟩
    refine ⟨_, rfl, parts_run (K := K) (n := 0) (fun t ht => ?_) (Nat.zero_le _) (by show 0 + 2 ≤ 12; decide) fun z => ⟨a, C, [.str z], rfl, by show 1 ≤ 1000; decide, T, ha, ?_⟩⟩
    · simp only [List.mem_cons, List.not_mem_nil, or_false] at ht
      rcases ht with rfl | rfl
      · exact part_c (by decide +kernel)
      · exact part_v rfl sh1
    refine est_turn T (hno "at" (by simp)) rfl rfl (part0 ha) hd1 ht1 (by show 0 ≤ 900; decide) fun H1 hp1 => ?_
    exact k _ hp1
  · obtain ⟨oc, od, kV, doc, pm, an, cdv, ct, osl, rfl, lk, hcd⟩ := F.ex
    match n, hn, us, ws, h1, h2 with
    | 0, _, [_], [_], _, _ => exact .of_eq rfl
    | 1, _, [_, _], [], _, _ => exact .of_eq rfl

end
end Ss
namespace Ss
open PySem L2 PySem.Spec PyProof.Rows
def eNames : List Str := ["BadCount", "BadBook", "Ambiguous", "Unwritable", "Unused", "BadRule", "NoPlace", "NoCase", "Uneven", "Unwritten", "Clash", "Unknown", "TooFew", "NothingToUndo", "Refused", "TooDeep"]
/-- the sixteen error classes: which is which -/
structure ETab (K : PySem.W.Frag) (mg : Str → Option Value) (Cf : Nat → Addr) (S : Addr) : Prop where
  g : ∀ i x, eNames[i]? = some x → mg x = some (.ref (Cf i))
  gS : mg "SlipError" = some (.ref S)
  ec : ∀ i, i < 16 → ∃ ini, EC K (Cf i) ini
  own : ∀ i j, i < 16 → j < 16 → PySem.W.kitOne K (.ref (Cf i)) (.ref (Cf j)) = some (decide (i = j))
  slip : ∀ i, i < 16 → PySem.W.kitOne K (.ref (Cf i)) (.ref S) = some (decide (i < 11))
  val : ∀ i, i < 16 → PySem.W.kitOne K (.ref (Cf i)) (.type "ValueError") = some (decide (i < 11))
  look : ∀ i, i < 16 → PySem.W.kitOne K (.ref (Cf i)) (.type "LookupError") = some (decide (11 ≤ i ∧ i < 14))
  run : ∀ i, i < 16 → PySem.W.kitOne K (.ref (Cf i)) (.type "RuntimeError") = some (decide (14 ≤ i))
  bv : mg "ValueError" = none
  bl : mg "LookupError" = none
  br : mg "RuntimeError" = none
/-- at a: an error of the i-th class -/
def IsE (Cf : Nat → Addr) (H : Hp) (a : Addr) (i : Nat) : Prop := i < 16 ∧ ∃ dd, H a = some (exo a (Cf i) dd) ∧ ∀ d, dd = some d → ∃ fs, H d = some (exd d fs)
theorem IsE.mono {Cf : Nat → Addr} {H H' : Hp} {a : Addr} {i : Nat} (h : IsE Cf H a i) (s : Same H H') : IsE Cf H' a i := by
  obtain ⟨hi, dd, ha, hd⟩ := h
  exact ⟨hi, dd, s _ _ ha, fun d e => let ⟨fs, q⟩ := hd d e; ⟨fs, s _ _ q⟩⟩
section
variable {K : PySem.W.Frag} {mg : Str → Option Value} {Cf : Nat → Addr} {S : Addr} {H : Hp} {a : Addr} {i j : Nat}
theorem rc_isx (Z : ETab K mg Cf S) (h : IsE Cf H a i) {c : V} {cv : Value} {b : Bool} (k : ClsV c cv) (e : PySem.W.kitOne K (.ref (Cf i)) cv = some b) : Evl.RC (rIsX K) [.ref a, c] H (.bl b) := fun H1 s Q q => by
  obtain ⟨hi, dd, ha, hd⟩ := h.mono s
  obtain ⟨ini, T⟩ := Z.ec i hi
  exact ⟨a, Cf i, dd, ini, c, cv, b, rfl, ha, hd, T, k, e, q H1 (Evl.Ex.refl H1)⟩
theorem ev_isx (Z : ETab K mg Cf S) {σ : L2.St} (h0 : σ[0]? = some (some (.ref a))) (h : IsE Cf H a i) (j : Nat) (hj : j < 16) : Evl.Ev (tCB (rIsX K) (tCons (tVar 0) (tCons (tC (.ref (Cf j))) tNil))) σ H (.bl (decide (i = j))) :=
  Evl.ev_cb (Evl.ea_cons (Evl.ev_var h0) (Evl.ea_cons Evl.ev_c Evl.ea_nil)) (rc_isx Z h (.own _) (Z.own i j h.1 hj))
end
theorem el_cat {σ : L2.St} {H : Hp} {ta tb : TE} {l : Addr} {xs ys : List V} (ha : Evl.Ev ta σ H (.ref l)) (hl : H l = some (.lst xs)) (hb : Evl.EvL tb σ H ys) (hz : xs.length + ys.length ≤ 100000) : Evl.EvL (tOp rCat ta tb) σ H (xs ++ ys) := fun H1 e Q q =>
  ha H1 e _ fun H2 e2 => hb H2 (e.trans e2) _ fun p H3 hp e3 h3 => ⟨l, p, xs, ys, rfl, rfl, e3 _ _ (e2 _ _ (e _ _ hl)), h3, Evl.sz_of hz, fun r hr => q r _ (Evl.fresh_back (e2.trans e3) hr) ((e2.trans e3).trans (Evl.Ex.new hr)) upd_same⟩
/-- sixteen answers, the i-th one alone is yes -/
def bl16 (i : Nat) : List V := (List.range 16).map fun k => V.bl (decide (i = k))
/-- lists of truth values as data -/
theorem dp_bools {K : PySem.W.Frag} {H : Hp} : ∀ (bs : List Bool), DpAll K H (bs.map V.bl) (bs.map PyData.bool)
  | [] => .nil
  | b :: bs => .cons (.bl b) (dp_bools bs)
theorem lay_bools : ∀ bs : List Bool, PyData.canLayAll0 (bs.map PyData.bool) = true
  | [] => rfl
  | b :: bs => by
    rw [List.map_cons]
    show (PyData.canLay0 (.bool b) && PyData.canLayAll0 (bs.map PyData.bool)) = true
    rw [lay_bools bs]
    rfl
theorem deep_bools : ∀ bs : List Bool, PyData.depthAll (bs.map PyData.bool) = 0
  | [] => rfl
  | b :: bs => by
    rw [List.map_cons]
    show max (PyData.depth (.bool b)) (PyData.depthAll (bs.map PyData.bool)) = 0
    rw [deep_bools bs]
    rfl
theorem shaped_bools (bs : List Bool) : SeqAt.shaped (.list (bs.map PyData.bool)) = true := by
  show (PyData.canLayAll0 (bs.map PyData.bool) && decide (PyData.depthAll (bs.map PyData.bool) + 1 ≤ 64)) = true
  rw [lay_bools, deep_bools]
  rfl
theorem same_data {d : PyData} (h : SeqAt.shaped d = true) : PyData.eqv d d = true := SeqAt.eqv_refl d (SeqAt.canLay_of_shaped h)
/-- two lists of the same truth values are equal -/
theorem rv_eqb {K : PySem.W.Frag} {H : Hp} {p q : Addr} {bs : List Bool} (h1 : H p = some (.lst (bs.map V.bl))) (h2 : H q = some (.lst (bs.map V.bl))) : Evl.RV (rEqD K) (.ref p) (.ref q) H (.bl true) := fun H1 e Q k =>
  ⟨_, _, .lst (SqL.of (e _ _ h1)) (dp_bools bs), .lst (SqL.of (e _ _ h2)) (dp_bools bs), shaped_bools bs, shaped_bools bs, by rw [same_data (shaped_bools bs)]; exact k H1 (Evl.Ex.refl H1)⟩
theorem rv_neb {K : PySem.W.Frag} {H : Hp} {p q : Addr} {bs : List Bool} (h1 : H p = some (.lst (bs.map V.bl))) (h2 : H q = some (.lst (bs.map V.bl))) : Evl.RV (rNeD K) (.ref p) (.ref q) H (.bl false) := fun H1 e Q k =>
  ⟨_, _, .lst (SqL.of (e _ _ h1)) (dp_bools bs), .lst (SqL.of (e _ _ h2)) (dp_bools bs), shaped_bools bs, shaped_bools bs, by rw [same_data (shaped_bools bs)]; exact k H1 (Evl.Ex.refl H1)⟩
def b16 (i : Nat) : List Bool := (List.range 16).map fun k => decide (i = k)
theorem b16_bl (i : Nat) : (b16 i).map V.bl = bl16 i := by
  unfold b16 bl16
  rw [List.map_map]
  rfl
theorem given_b16 (i : Nat) : Evl.given 16 (fun _ => true) (fun k => V.bl (decide ((V.int (k : Int)) = V.int (i : Int)))) = (b16 i).map V.bl := by
  unfold Evl.given b16
  rw [List.filter_eq_self.mpr (fun _ _ => rfl), List.map_map]
  refine List.map_congr_left fun k _ => ?_
  show V.bl _ = V.bl _
  congr 1
  show decide ((V.int (k : Int)) = V.int (i : Int)) = decide (i = k)
  by_cases h : i = k
  · subst h; simp
  · rw [decide_eq_false h]
    refine decide_eq_false fun e => h ?_
    have q := V.int.inj e
    omega
def spClasses (Cf : Nat → Addr) : Sp := fun vs H Q _ => ∃ (a : Addr) (i : Nat), vs = [.ref a] ∧ IsE Cf H a i ∧ ∀ p H', H p = none → Same H H' → H' p = some (.lst ((b16 i).map V.bl)) → Q (.ref p) H'
def spIs (Cf : Nat → Addr) : Sp := fun vs H Q _ => ∃ (a : Addr) (i : Nat), vs = [.ref a, .int i] ∧ IsE Cf H a i ∧ ∀ H', Same H H' → Q (.bl true) H'
end Ss
namespace Ss
open PySem L2
section
variable {P : Program} {w : World} {K : PySem.W.Frag} {mg : Str → Option Value} {base : Heap}
abbrev sWorth : Stmt := topS 26
theorem scWorth : FnScope ["bag", "number", "some"] ["bag"] (defScope sWorth) := ⟨rfl, rfl, rfl, by decide +kernel, rfl, by decide +kernel, by decide +kernel⟩
abbrev sClasses : Stmt := topS 27
theorem scClasses : FnScope ["error", "first"] ["error"] (defScope sClasses) := ⟨rfl, rfl, rfl, by decide +kernel, rfl, by decide +kernel, by decide +kernel⟩
abbrev sIs : Stmt := topS 28
theorem scIs : FnScope ["error", "number", "k", "bases"] ["error", "number"] (defScope sIs) := ⟨rfl, rfl, rfl, by decide +kernel, rfl, by decide +kernel, by decide +kernel⟩

/-- a value: data that may stand in an error -/
def spWorth (K : PySem.W.Frag) : Sp := fun vs H Q _ => ∃ (b : Addr) (n : Nat), vs = [.ref b] ∧ Bag H b n ∧ n ≤ 800000000 ∧
  ∀ (v : V) (d : PyData) (H' : Hp), Off b H H' → Bag H' b (n + 40) → Dp K H' v d → tupD 1 d = true → SeqAt.shaped d = true → Shown K H' v → Q v H'
theorem ok_classes {Cf : Nat → Addr} {S : Addr} (F : DefAt K mg "_law_classes" sClasses) (T : G0 mg) (Z : ETab K mg Cf S) : Dk P w K mg base CX0 1 "_law_classes" ["error"] (spClasses Cf) := by
  obtain ⟨f, fd, F, mf⟩ := F.ex
  refine ⟨f, fd, F.ok scClasses (fun vs H Q E h => ?_) (fun cdv A outer s H vs Q E hr h => ?_), mf, F.kp, F.binds fun _ _ _ _ _ _ us hl => match us, hl with | [_], _ => rfl⟩
  · obtain ⟨a, i, rfl, _⟩ := h; rfl
  · obtain ⟨a, i, rfl, hE, k⟩ := h
    refine ⟨_, (pss_cons (ps_set (i := 1) scClasses.nd rfl (Or.inl rfl) (pe_lst (pa_cons (pe_callB call_isx (by rfl) T.isinstance (by decide +kernel) (pa_cons (pv 0) (pa_cons (pe_glob (v := .ref (Cf 0)) rfl (Z.g 0 _ rfl) rfl) pa_nil))) (pa_cons (pe_callB call_isx (by rfl) T.isinstance (by decide +kernel) (pa_cons (pv 0) (pa_cons (pe_glob (v := .ref (Cf 1)) rfl (Z.g 1 _ rfl) rfl) pa_nil))) (pa_cons (pe_callB call_isx (by rfl) T.isinstance (by decide +kernel) (pa_cons (pv 0) (pa_cons (pe_glob (v := .ref (Cf 2)) rfl (Z.g 2 _ rfl) rfl) pa_nil))) pa_nil))))) (pss_cons (ps_set (i := 1) scClasses.nd rfl (Or.inl rfl) (pe_op op_cat (pv 1) (pe_lst (pa_cons (pe_callB call_isx (by rfl) T.isinstance (by decide +kernel) (pa_cons (pv 0) (pa_cons (pe_glob (v := .ref (Cf 3)) rfl (Z.g 3 _ rfl) rfl) pa_nil))) (pa_cons (pe_callB call_isx (by rfl) T.isinstance (by decide +kernel) (pa_cons (pv 0) (pa_cons (pe_glob (v := .ref (Cf 4)) rfl (Z.g 4 _ rfl) rfl) pa_nil))) (pa_cons (pe_callB call_isx (by rfl) T.isinstance (by decide +kernel) (pa_cons (pv 0) (pa_cons (pe_glob (v := .ref (Cf 5)) rfl (Z.g 5 _ rfl) rfl) pa_nil))) pa_nil)))))) (pss_cons (ps_set (i := 1) scClasses.nd rfl (Or.inl rfl) (pe_op op_cat (pv 1) (pe_lst (pa_cons (pe_callB call_isx (by rfl) T.isinstance (by decide +kernel) (pa_cons (pv 0) (pa_cons (pe_glob (v := .ref (Cf 6)) rfl (Z.g 6 _ rfl) rfl) pa_nil))) (pa_cons (pe_callB call_isx (by rfl) T.isinstance (by decide +kernel) (pa_cons (pv 0) (pa_cons (pe_glob (v := .ref (Cf 7)) rfl (Z.g 7 _ rfl) rfl) pa_nil))) (pa_cons (pe_callB call_isx (by rfl) T.isinstance (by decide +kernel) (pa_cons (pv 0) (pa_cons (pe_glob (v := .ref (Cf 8)) rfl (Z.g 8 _ rfl) rfl) pa_nil))) pa_nil)))))) (pss_cons (ps_set (i := 1) scClasses.nd rfl (Or.inl rfl) (pe_op op_cat (pv 1) (pe_lst (pa_cons (pe_callB call_isx (by rfl) T.isinstance (by decide +kernel) (pa_cons (pv 0) (pa_cons (pe_glob (v := .ref (Cf 9)) rfl (Z.g 9 _ rfl) rfl) pa_nil))) (pa_cons (pe_callB call_isx (by rfl) T.isinstance (by decide +kernel) (pa_cons (pv 0) (pa_cons (pe_glob (v := .ref (Cf 10)) rfl (Z.g 10 _ rfl) rfl) pa_nil))) (pa_cons (pe_callB call_isx (by rfl) T.isinstance (by decide +kernel) (pa_cons (pv 0) (pa_cons (pe_glob (v := .ref (Cf 11)) rfl (Z.g 11 _ rfl) rfl) pa_nil))) pa_nil)))))) (pss_cons (ps_set (i := 1) scClasses.nd rfl (Or.inl rfl) (pe_op op_cat (pv 1) (pe_lst (pa_cons (pe_callB call_isx (by rfl) T.isinstance (by decide +kernel) (pa_cons (pv 0) (pa_cons (pe_glob (v := .ref (Cf 12)) rfl (Z.g 12 _ rfl) rfl) pa_nil))) (pa_cons (pe_callB call_isx (by rfl) T.isinstance (by decide +kernel) (pa_cons (pv 0) (pa_cons (pe_glob (v := .ref (Cf 13)) rfl (Z.g 13 _ rfl) rfl) pa_nil))) (pa_cons (pe_callB call_isx (by rfl) T.isinstance (by decide +kernel) (pa_cons (pv 0) (pa_cons (pe_glob (v := .ref (Cf 14)) rfl (Z.g 14 _ rfl) rfl) pa_nil))) pa_nil)))))) (pss_one (ps_ret (pe_op op_cat (pv 1) (pe_lst (pa_cons (pe_callB call_isx (by rfl) T.isinstance (by decide +kernel) (pa_cons (pv 0) (pa_cons (pe_glob (v := .ref (Cf 15)) rfl (Z.g 15 _ rfl) rfl) pa_nil))) pa_nil)))))))))), ?_⟩
    have three : ∀ {H1 : Hp} {σ : L2.St} (_ : Same H H1) (_ : σ[0]? = some (some (.ref a))) (j1 j2 j3 : Nat) (_ : j1 < 16) (_ : j2 < 16) (_ : j3 < 16),
      Evl.EvL (tLst (tCons (tCB (rIsX K) (tCons (tVar 0) (tCons (tC (.ref (Cf j1))) tNil))) (tCons (tCB (rIsX K) (tCons (tVar 0) (tCons (tC (.ref (Cf j2))) tNil))) (tCons (tCB (rIsX K) (tCons (tVar 0) (tCons (tC (.ref (Cf j3))) tNil))) tNil)))) σ H1
        [.bl (decide (i = j1)), .bl (decide (i = j2)), .bl (decide (i = j3))] := fun s h0 j1 j2 j3 l1 l2 l3 =>
      Evl.el_lst (Evl.ea_cons (ev_isx Z h0 (hE.mono s) j1 l1) (Evl.ea_cons (ev_isx Z h0 (hE.mono s) j2 l2) (Evl.ea_cons (ev_isx Z h0 (hE.mono s) j3 l3) Evl.ea_nil))) (Nat.le_of_ble_eq_true rfl)
    refine Evl.q_asgL (three (Same.refl H) rfl 0 1 2 (by decide) (by decide) (by decide)) fun p1 H1 n1 s1 h1 => ?_
    refine Evl.q_asgL (el_cat (Evl.ev_var rfl) h1 (three s1 rfl 3 4 5 (by decide) (by decide) (by decide)) (Nat.le_of_ble_eq_true rfl)) fun p2 H2 n2 s2 h2 => ?_
    refine Evl.q_asgL (el_cat (Evl.ev_var rfl) h2 (three (s1.trans s2) rfl 6 7 8 (by decide) (by decide) (by decide)) (Nat.le_of_ble_eq_true rfl)) fun p3 H3 n3 s3 h3 => ?_
    refine Evl.q_asgL (el_cat (Evl.ev_var rfl) h3 (three ((s1.trans s2).trans s3) rfl 9 10 11 (by decide) (by decide) (by decide)) (Nat.le_of_ble_eq_true rfl)) fun p4 H4 n4 s4 h4 => ?_
    refine Evl.q_asgL (el_cat (Evl.ev_var rfl) h4 (three (((s1.trans s2).trans s3).trans s4) rfl 12 13 14 (by decide) (by decide) (by decide)) (Nat.le_of_ble_eq_true rfl)) fun p5 H5 n5 s5 h5 => ?_
    have sA : Same H H5 := (((s1.trans s2).trans s3).trans s4).trans s5
    refine Evl.s_retL (el_cat (Evl.ev_var rfl) h5 (Evl.el_lst (Evl.ea_cons (ev_isx Z rfl (hE.mono sA) 15 (by decide)) Evl.ea_nil) (Nat.le_of_ble_eq_true rfl)) (Nat.le_of_ble_eq_true rfl)) fun p6 H6 n6 s6 h6 => ?_
    exact k p6 H6 (Evl.fresh_back sA n6) (sA.trans s6) h6
theorem ok_is {Cf : Nat → Addr} {S : Addr} (F : DefAt K mg "_law_is" sIs) (T : G0 mg) (Z : ETab K mg Cf S) (Dcl : Dk P w K mg base CX0 1 "_law_classes" ["error"] (spClasses Cf)) : Dk P w K mg base CX0 2 "_law_is" ["error", "number"] (spIs Cf) := by
  obtain ⟨f, fd, F, mf⟩ := F.ex
  refine ⟨f, fd, F.ok scIs (fun vs H Q E h => ?_) (fun cdv A outer s H vs Q E hr h => ?_), mf, F.kp, F.binds fun _ _ _ _ _ _ us hl => match us, hl with | [_, _], _ => rfl⟩
  · obtain ⟨a, i, rfl, _⟩ := h; rfl
  · obtain ⟨a, i, rfl, hE, k⟩ := h
    refine ⟨_, (pss_cons (ps_if (pt_cmpR (op_neD hr.units) (pe_cd Dcl hr pass0 (pa_cons (pv 0) pa_nil)) (pe_lc (own := [("k", 2)]) (g := gName 2) rfl scIs.nd (pi_range1 (by rfl) T.range (pa_cons pe_int pa_nil)) (blkOk_by (N := ["error", "number", "k", "bases"]) (sc := defScope sIs) (by decide +kernel)) (fun _ _ _ _ _ => (pg_name (i := 2) scIs.nd rfl (.inl rfl))) (fun _ _ _ _ _ => pts_nil) (fun _ _ _ _ _ => (pe_cmpR op_eq (pv 2) (pv 1) (nomark _)))) (nomark _)) (pss_one (ps_ret pe_bl)) pss_nil) (pss_cons (ps_set (i := 3) scIs.nd rfl (Or.inl rfl) (pe_lst (pa_cons (pe_callB call_isx (by rfl) T.isinstance (by decide +kernel) (pa_cons (pv 0) (pa_cons (pe_glob (v := .ref S) rfl Z.gS rfl) pa_nil))) (pa_cons (pe_callB call_isx (by rfl) T.isinstance (by decide +kernel) (pa_cons (pv 0) (pa_cons (pe_bltn (v := .ty "ValueError") (u := .type "ValueError") (by rfl) Z.bv (by decide +kernel) rfl) pa_nil))) (pa_cons (pe_callB call_isx (by rfl) T.isinstance (by decide +kernel) (pa_cons (pv 0) (pa_cons (pe_bltn (v := .ty "LookupError") (u := .type "LookupError") (by rfl) Z.bl (by decide +kernel) rfl) pa_nil))) pa_nil))))) (pss_cons (ps_expr (pe_bm PySem.F.plainAttrs_list PySem.F.slot_list_append PySem.F.type_list_append mt_append (pv 3) (pa_cons (pe_callB call_isx (by rfl) T.isinstance (by decide +kernel) (pa_cons (pv 0) (pa_cons (pe_bltn (v := .ty "RuntimeError") (u := .type "RuntimeError") (by rfl) Z.br (by decide +kernel) rfl) pa_nil))) pa_nil))) (pss_cons (ps_if (pt_cmpR op_lt (pv 1) pe_int (nomark _)) (pss_one (ps_ret (pe_cmpR (op_eqD hr.units) (pv 3) (pe_lst (pa_cons pe_bl (pa_cons pe_bl (pa_cons pe_bl (pa_cons pe_bl pa_nil))))) (nomark _)))) pss_nil) (pss_one (ps_ret (pe_cmpR (op_eqD hr.units) (pv 3) (pe_lst (pa_cons pe_bl (pa_cons pe_bl (pa_cons (pe_cmpR op_lt (pv 1) pe_int (nomark _)) (pa_cons (pe_cmpR op_ge (pv 1) pe_int (nomark _)) pa_nil))))) (nomark _)))))))), ?_⟩
    have hi := hE.1
    have c1 : Evl.EvL (tCall (spClasses Cf) [] E0 (tCons (tVar 0) tNil)) (start ["error", "number", "k", "bases"] [.ref a, .int i]) H ((b16 i).map V.bl) :=
      Evl.el_call (Evl.ea_cons (Evl.ev_var rfl) Evl.ea_nil) fun H1 e Q q _ => ⟨a, i, rfl, hE.mono e, fun p H' hp s' h' => q p H' hp s' h'⟩
    refine Evl.q_when (b := false) (Evl.et_test (Evl.ev_opLL c1 ?_ fun p q H1 h1 h2 _ => rv_neb h1 h2)) (fun e => Bool.noConfusion e) fun _ H1 s1 => ?_
    · rw [← given_b16]
      exact Evl.el_lcR1 (fun _ => true) _ (Evl.ea_cons Evl.ev_c Evl.ea_nil) (by decide) (fun x => rfl) (fun i H1 _ _ H2 _ Q q => q H2 (Evl.Ex.refl H2)) fun j H1 _ _ _ => Evl.ev_op (Evl.ev_var rfl) (Evl.ev_var rfl) (Evl.rv_eq rfl)
    have ix : ∀ {H2 : Hp} {σ : L2.St} (_ : Same H H2) (_ : σ[0]? = some (some (.ref a))) {c : V} {cv : Value} {b : Bool} (_ : ClsV c cv) (_ : PySem.W.kitOne K (.ref (Cf i)) cv = some b), Evl.Ev (tCB (rIsX K) (tCons (tVar 0) (tCons (tC c) tNil))) σ H2 (.bl b) := fun {H2 σ} s h0 {c cv b} kc e =>
      Evl.ev_cb (Evl.ea_cons (Evl.ev_var h0) (Evl.ea_cons Evl.ev_c Evl.ea_nil)) (rc_isx Z (hE.mono s) kc e)
    refine Evl.q_asgL (Evl.el_lst (Evl.ea_cons (ix s1 rfl (.own _) (Z.slip i hi)) (Evl.ea_cons (ix s1 rfl (.ty _) (Z.val i hi)) (Evl.ea_cons (ix s1 rfl (.ty _) (Z.look i hi)) Evl.ea_nil))) (Nat.le_of_ble_eq_true rfl)) fun p H2 n2 s2 h2 => ?_
    have sA : Same H H2 := s1.trans s2
    refine Evl.q_app h2 (Evl.ev_var rfl) (ix sA rfl (.ty _) (Z.run i hi)) (Nat.le_of_ble_eq_true rfl) fun H3 s3 => ?_
    have hp : H p = none := Evl.fresh_back s1 n2
    have sB : Same H (upd H3 p (.lst ([.bl (decide (i < 11)), .bl (decide (i < 11)), .bl (decide (11 ≤ i ∧ i < 14))] ++ [.bl (decide (14 ≤ i))]))) := Evl.Ex.mut (sA.trans s3) hp
    have hbs : upd H3 p (.lst ([.bl (decide (i < 11)), .bl (decide (i < 11)), .bl (decide (11 ≤ i ∧ i < 14))] ++ [.bl (decide (14 ≤ i))])) p = some (.lst (([decide (i < 11), decide (i < 11), decide (11 ≤ i ∧ i < 14), decide (14 ≤ i)] : List Bool).map V.bl)) := upd_same
    refine Evl.q_when (Evl.et_test (Evl.ev_op (Evl.ev_var rfl) Evl.ev_c Evl.rv_I0)) (fun c H4 s4 => ?_) (fun c H4 s4 => ?_)
    · have c : i < 11 := by have q := of_decide_eq_true c; omega
      have e : ([decide (i < 11), decide (i < 11), decide (11 ≤ i ∧ i < 14), decide (14 ≤ i)] : List Bool) = [true, true, false, false] := by
        rw [decide_eq_true c, decide_eq_false (by omega), decide_eq_false (by omega)]
      rw [e] at hbs
      exact Evl.s_ret (Evl.ev_opL (Evl.ev_var rfl) (Evl.el_lst (Evl.ea_cons Evl.ev_c (Evl.ea_cons Evl.ev_c (Evl.ea_cons Evl.ev_c (Evl.ea_cons Evl.ev_c Evl.ea_nil)))) (Nat.le_of_ble_eq_true rfl)) fun q H5 h5 s5 => rv_eqb (bs := [true, true, false, false]) (s5 _ _ (s4 _ _ hbs)) h5) fun H5 s5 => k H5 ((sB.trans s4).trans s5)
    · have c : ¬ i < 11 := fun z => by have q := of_decide_eq_false c; omega
      have e : ([decide (i < 11), decide (i < 11), decide (11 ≤ i ∧ i < 14), decide (14 ≤ i)] : List Bool) = [false, false, decide ((i : Int) < 14), decide ((14 : Int) ≤ i)] := by
        rw [decide_eq_false c]
        congr 2
        congr 1
        · exact decide_eq_decide.mpr (by omega)
        · congr 1
          exact decide_eq_decide.mpr (by omega)
      rw [e] at hbs
      exact Evl.s_ret (Evl.ev_opL (Evl.ev_var rfl) (Evl.el_lst (Evl.ea_cons Evl.ev_c (Evl.ea_cons Evl.ev_c (Evl.ea_cons (Evl.ev_op (Evl.ev_var rfl) Evl.ev_c Evl.rv_I0) (Evl.ea_cons (Evl.ev_op (Evl.ev_var rfl) Evl.ev_c Evl.rv_I0) Evl.ea_nil)))) (Nat.le_of_ble_eq_true rfl)) fun q H5 h5 s5 => rv_eqb (bs := [false, false, decide ((i : Int) < 14), decide ((14 : Int) ≤ i)]) (s5 _ _ (s4 _ _ hbs)) h5) fun H5 s5 => k H5 ((sB.trans s4).trans s5)
theorem e30 : (10 : Int) ^ (30 : Int).toNat = 1000000000000000000000000000000 := by decide +kernel
theorem log_small {i : Int} (h : i.natAbs < 10 ^ 40) : i.natAbs.log2 < 1920 := by
  by_cases h0 : i.natAbs = 0
  · rw [h0]; decide
  · refine (Nat.log2_lt h0).mpr (Nat.lt_of_lt_of_le h ?_)
    decide +kernel
theorem leaf_word {L t : List Nat} (hL : ∀ c ∈ L, c < 1000) (h : ∀ c ∈ t, c ∈ L) (hl : t.length ≤ 100) : leafOk (.str (mkS t)) := by
  refine ⟨by rw [mkS_len]; omega, fun c hc => ?_⟩
  rw [mkS_cps] at hc
  exact Nat.lt_of_lt_of_le (hL c (h c hc)) (by decide)
theorem let_small : ∀ c ∈ LET, c < 1000 := by decide +kernel
theorem sgn_small : ∀ c ∈ SGN, c < 1000 := by decide +kernel
theorem shaped_str {L t : List Nat} (hL : ∀ c ∈ L, c < 1000) (h : ∀ c ∈ t, c ∈ L) : PyData.canLay0 (.str (mkS t)) = true := by
  show (mkS t).cps.all (fun c => decide (c < 0x110000)) = true
  rw [← Array.all_toList, mkS_cps]
  exact List.all_eq_true.mpr fun c hc => decide_eq_true (Nat.lt_of_lt_of_le (hL c (h c hc)) (by decide))
theorem ok_worth (F : DefAt K mg "_law_worth" sWorth) (T : G0 mg) (D_law_take : Dk P w K mg base CX0 1 "_law_take" ["dice", "many"] spTake) (D_law_of : Dk P w K mg base CX0 2 "_law_of" ["dice", "some"] (spOf K))
    (D_law_name : Dk P w K mg base CX0 3 "_law_name" ["dice", "taken"] (spWord K LET 8)) (D_law_token : Dk P w K mg base CX0 3 "_law_token" ["dice", "taken"] (spWord K SGN 4)) : Dk P w K mg base CX0 4 "_law_worth" ["bag"] (spWorth K) := by
  obtain ⟨f, fd, F, mf⟩ := F.ex
  refine ⟨f, fd, F.ok scWorth (fun vs H Q E h => ?_) (fun cdv A outer s H vs Q E hr h => ?_), mf, F.kp, F.binds fun _ _ _ _ _ _ us hl => match us, hl with | [_], _ => rfl⟩
  · obtain ⟨b, n, rfl, _⟩ := h; rfl
  · obtain ⟨b, n, rfl, hB, hn, k⟩ := h
    refine ⟨_, (pss_cons (ps_set (i := 1) scWorth.nd rfl (Or.inl rfl) (pe_op op_add (pe_op op_sub (pe_cd D_law_take hr pass0 (pa_cons (pv 0) (pa_cons (pe_op op_sub (pe_op op_mul pe_int (pe_op op_pow pe_int pe_int)) pe_int) pa_nil))) (pe_op op_pow pe_int pe_int)) pe_int)) (pss_cons (ps_set (i := 2) scWorth.nd rfl (Or.inl rfl) (pe_lst (pa_cons (pv 1) (pa_cons (pe_cd D_law_name hr pass0 (pa_cons (pv 0) (pa_cons (pe_lst pa_nil) pa_nil))) (pa_cons (pe_cd D_law_token hr pass0 (pa_cons (pv 0) (pa_cons (pe_lst pa_nil) pa_nil))) (pa_cons pe_non (pa_cons (pe_tup (pa_cons (pv 1) (pa_cons (pe_cd D_law_name hr pass0 (pa_cons (pv 0) (pa_cons (pe_lst pa_nil) pa_nil))) pa_nil))) (pa_cons (pe_tup pa_nil) (pa_cons (pe_op op_mod (pv 1) pe_int) pa_nil))))))))) (pss_one (ps_ret (pe_cd D_law_of hr pass0 (pa_cons (pv 0) (pa_cons (pv 2) pa_nil))))))), ?_⟩
    have cp : CPow 10 30 := ⟨by decide, by decide, by decide⟩
    refine ⟨_, rfl, _, _, rfl, rfl, cp, _, _, rfl, rfl, .inl ⟨by decide, by decide⟩, _, _, rfl, rfl, b, _, n, rfl, hB, by omega, by rw [e30]; decide, by rw [e30]; decide, fun i H1 i0 i1 O1 B1 => ?_⟩
    refine ⟨_, _, rfl, rfl, cp, _, _, rfl, rfl, _, _, rfl, rfl, ?_⟩
    rw [e30] at i1 ⊢
    have hnum : (i - 1000000000000000000000000000000 + 1).natAbs < 10 ^ 40 := by
      have e40 : (10 : Nat) ^ 40 = 10000000000000000000000000000000000000000 := by decide +kernel
      rw [e40]
      omega
    refine ⟨_, rfl, _, rfl, Nat.zero_le _, fun q1 hq1 => ⟨b, q1, n + 1, [], rfl, B1.new hq1, by omega, (B1.ne hq1).symm, SqL.of upd_same, by decide, fun t1 H2 l1 l2 l3 _ O2 B2 => ?_⟩⟩
    refine ⟨_, rfl, Nat.zero_le _, fun q2 hq2 => ⟨b, q2, _, [], rfl, B2.new hq2, by omega, (B2.ne hq2).symm, SqL.of upd_same, by decide, fun t2 H3 m1 m2 m3 _ O3 B3 => ?_⟩⟩
    refine ⟨_, rfl, _, rfl, Nat.zero_le _, fun q3 hq3 => ⟨b, q3, _, [], rfl, B3.new hq3, by omega, (B3.ne hq3).symm, SqL.of upd_same, by decide, fun t3 H4 r1 r2 r3 _ O4 B4 => ?_⟩⟩
    refine ⟨by show 2 ≤ sizeLine; decide, fun p1 hp1 => ?_⟩
    refine ⟨Nat.zero_le _, fun p2 hp2 => ?_⟩
    refine ⟨_, rfl, _, _, rfl, rfl, (by show (0 : Int) < 3; decide), ?_⟩
    refine ⟨by show 7 ≤ sizeLine; decide, fun p3 hp3 => ?_⟩
    have B5 := ((B4.new (o := .tup [.int (i - 1000000000000000000000000000000 + 1), .str (mkS t3)]) hp1).new (o := .tup []) hp2)
    have OA : Off b H (upd (upd (upd H4 p1 (.tup [.int (i - 1000000000000000000000000000000 + 1), .str (mkS t3)])) p2 (.tup [])) p3 (.lst [.int (i - 1000000000000000000000000000000 + 1), .str (mkS t1), .str (mkS t2), .non, .ref p1, .ref p2, .int ((i - 1000000000000000000000000000000 + 1) % 3)])) :=
      (((((((((O1.new hq1).trans O2).new hq2).trans O3).new hq3).trans O4).new hp1).new hp2).new hp3)
    have g1 : upd (upd (upd H4 p1 (.tup [.int (i - 1000000000000000000000000000000 + 1), .str (mkS t3)])) p2 (.tup [])) p3 (.lst [.int (i - 1000000000000000000000000000000 + 1), .str (mkS t1), .str (mkS t2), .non, .ref p1, .ref p2, .int ((i - 1000000000000000000000000000000 + 1) % 3)]) p1 = some (.tup [.int (i - 1000000000000000000000000000000 + 1), .str (mkS t3)]) := by
      have e1 : upd H4 p1 (.tup [.int (i - 1000000000000000000000000000000 + 1), .str (mkS t3)]) p1 = some (.tup [.int (i - 1000000000000000000000000000000 + 1), .str (mkS t3)]) := upd_same
      have e2 : upd (upd H4 p1 (.tup [.int (i - 1000000000000000000000000000000 + 1), .str (mkS t3)])) p2 (.tup []) p1 = some (.tup [.int (i - 1000000000000000000000000000000 + 1), .str (mkS t3)]) := by rw [upd_ne (ne_of_none e1 hp2)]; exact e1
      rw [upd_ne (ne_of_none e2 hp3)]; exact e2
    have g2 : upd (upd (upd H4 p1 (.tup [.int (i - 1000000000000000000000000000000 + 1), .str (mkS t3)])) p2 (.tup [])) p3 (.lst [.int (i - 1000000000000000000000000000000 + 1), .str (mkS t1), .str (mkS t2), .non, .ref p1, .ref p2, .int ((i - 1000000000000000000000000000000 + 1) % 3)]) p2 = some (.tup []) := by
      have e2 : upd (upd H4 p1 (.tup [.int (i - 1000000000000000000000000000000 + 1), .str (mkS t3)])) p2 (.tup []) p2 = some (.tup []) := upd_same
      rw [upd_ne (ne_of_none e2 hp3)]; exact e2
    have B6 := B5.new (o := .lst [.int (i - 1000000000000000000000000000000 + 1), .str (mkS t1), .str (mkS t2), .non, .ref p1, .ref p2, .int ((i - 1000000000000000000000000000000 + 1) % 3)]) hp3
    have np3 : p3 ≠ b := (B5.ne hp3).symm
    have np1 : p1 ≠ b := (B4.ne hp1).symm
    have np2 : p2 ≠ b := ((B4.new (o := .tup [.int (i - 1000000000000000000000000000000 + 1), .str (mkS t3)]) hp1).ne hp2).symm
    refine ⟨_, rfl, _, rfl, b, _, B6, by omega, .inl ⟨p3, _, rfl, np3, SqL.of upd_same, by show 1 ≤ 7; decide, by show 7 ≤ 1000000; decide, fun x H5 hx O5 B7 => ?_⟩⟩
    have OB := OA.trans O5
    have B8 : Bag H5 b (n + 40) := B7.mono (by omega)
    have w3 : ((i - 1000000000000000000000000000000 + 1) % 3).natAbs < 10 ^ 40 := by
      have e40 : (10 : Nat) ^ 40 = 10000000000000000000000000000000000000000 := by decide +kernel
      rw [e40]
      omega
    simp only [List.mem_cons, List.not_mem_nil, or_false] at hx
    rcases hx with rfl | rfl | rfl | rfl | rfl | rfl | rfl
    · exact k _ (.int (i - 1000000000000000000000000000000 + 1)) _ OB B8 (.int _) rfl rfl (.inl (log_small hnum))
    · exact k _ (.str (mkS t1)) _ OB B8 (.str _) rfl (by show (PyData.canLay0 (.str (mkS t1)) && decide (0 ≤ 64)) = true; rw [shaped_str let_small l3]; rfl) (.inl (leaf_word let_small l3 (by omega)))
    · exact k _ (.str (mkS t2)) _ OB B8 (.str _) rfl (by show (PyData.canLay0 (.str (mkS t2)) && decide (0 ≤ 64)) = true; rw [shaped_str sgn_small m3]; rfl) (.inl (leaf_word sgn_small m3 (by omega)))
    · exact k _ .none _ OB B8 .non rfl rfl (.inl trivial)
    · have hs : SqT K H5 p1 [.int (i - 1000000000000000000000000000000 + 1), .str (mkS t3)] := .inl (.inl (O5 _ _ np1 g1))
      refine k _ (.tuple [.int (i - 1000000000000000000000000000000 + 1), .str (mkS t3)]) _ OB B8 (.tup hs (.cons (.int _) (.cons (.str _) .nil))) rfl ?_ (.inr ⟨p1, _, rfl, hs, fun y hy => ?_, by show 2 ≤ 100; decide⟩)
      · show ((PyData.canLay0 (.int (i - 1000000000000000000000000000000 + 1)) && (PyData.canLay0 (.str (mkS t3)) && true)) && decide (1 ≤ 64)) = true
        rw [shaped_str let_small r3]
        rfl
      · simp only [List.mem_cons, List.not_mem_nil, or_false] at hy
        rcases hy with rfl | rfl
        · exact log_small hnum
        · exact leaf_word let_small r3 (by omega)
    · have hs : SqT K H5 p2 [] := .inl (.inl (O5 _ _ np2 g2))
      exact k _ (.tuple []) _ OB B8 (.tup hs .nil) rfl rfl (.inr ⟨p2, _, rfl, hs, (fun y hy => by cases hy), by show 0 ≤ 100; decide⟩)
    · exact k _ (.int ((i - 1000000000000000000000000000000 + 1) % 3)) _ OB B8 (.int _) rfl rfl (.inl (log_small w3))
end
end Ss
namespace Ss
open PySem L2 PySem.Spec PyProof.Rows
theorem EDat.mono {K : PySem.W.Frag} {H H' : Hp} {n : Nat} {xs : List V} {ds : List PyData} (h : EDat K H n xs ds) (s : Same H H') : EDat K H' n xs ds :=
  ⟨h.1, fun i x e => let ⟨d, h1, h2, h3, h4⟩ := h.2 i x e; ⟨d, h1, Dp.mono s h2, h3, Shown.mono s h4⟩⟩
/-- at a: an error of the class at C with the fields fs -/
def Has (K : PySem.W.Frag) (H : Hp) (a C : Addr) (fs : List (Str × PyData)) : Prop := ∃ (dx : Addr) (vs : List (Str × V)), H a = some (exo a C (some dx)) ∧ H dx = some (exd dx vs) ∧ ∀ f d, fs.lookup f = some d → ∃ v, vs.lookup f = some v ∧ Dp K H v d
theorem Has.mono {K : PySem.W.Frag} {H H' : Hp} {a C : Addr} {fs : List (Str × PyData)} (h : Has K H a C fs) (s : Same H H') : Has K H' a C fs := by
  obtain ⟨dx, vs, h1, h2, h3⟩ := h
  exact ⟨dx, vs, s _ _ h1, s _ _ h2, fun f d e => let ⟨v, q1, q2⟩ := h3 f d e; ⟨v, q1, Dp.mono s q2⟩⟩
theorem Has.isE {K : PySem.W.Frag} {H : Hp} {a : Addr} {Cf : Nat → Addr} {i : Nat} {fs : List (Str × PyData)} (h : Has K H a (Cf i) fs) (hi : i < 16) : IsE Cf H a i := by
  obtain ⟨dx, vs, h1, h2, h3⟩ := h
  exact ⟨hi, some dx, h1, fun d e => by cases e; exact ⟨vs, h2⟩⟩
/-! ### what evaluates to data, to an error -/
def EvD (K : PySem.W.Frag) (te : TE) (σ : L2.St) (H : Hp) (d : PyData) : Prop := ∀ H1, Evl.Ex H H1 → ∀ Q : VK, (∀ v H2, Evl.Ex H1 H2 → Dp K H2 v d → Q v H2) → te σ H1 Q
def EvX (K : PySem.W.Frag) (te : TE) (σ : L2.St) (H : Hp) (C : Addr) (fs : List (Str × PyData)) : Prop := ∀ H1, Evl.Ex H H1 → ∀ Q : VK, (∀ a H2, Evl.Ex H1 H2 → Has K H2 a C fs → Q (.ref a) H2) → te σ H1 Q
section
variable {K : PySem.W.Frag} {σ : L2.St} {H : Hp} {te ta tb : TE} {C : Addr} {fs : List (Str × PyData)} {d : PyData}
theorem evd_var {i : Nat} {x : V} (h : σ[i]? = some (some x)) (hd : Dp K H x d) : EvD K (tVar i) σ H d := fun H1 e Q q => ⟨x, h, q x H1 (Evl.Ex.refl H1) (Dp.mono e hd)⟩
theorem evx_var {i : Nat} {a : Addr} (h : σ[i]? = some (some (.ref a))) (hd : Has K H a C fs) : EvX K (tVar i) σ H C fs := fun H1 e Q q => ⟨.ref a, h, q a H1 (Evl.Ex.refl H1) (hd.mono e)⟩
theorem evx_make {ta tk : TA} {n m : Nat} {names : List Str} {vs zs : List V} {ds : List PyData} (hv : Evl.EvA ta σ H vs) (hz : Evl.EvA tk σ H zs) (l1 : vs.length = n) (l2 : zs.length = m) (hl : (vs ++ zs).length = names.length) (hp : names ≠ []) (hd : EDat K H 1 (vs ++ zs) ds) :
    EvX K (tEMk C n m (spErr K C names 1) E0 ta tk) σ H C ((names.zip ds).reverse) := fun H1 e1 Q q => hv H1 e1 _ fun H2 e2 => hz H2 (e1.trans e2) _ fun H3 e3 => ⟨l1, l2, fun a ha => by
      have s3 : Same H H3 := (e1.trans e2).trans e3
      have s4 : Same H (upd H3 a (exo a C none)) := Same.new s3 ha
      refine ⟨a, _, ds, rfl, hl, upd_same, hd.mono s4, fun H4 hP => ⟨rfl, ?_⟩⟩
      obtain ⟨hO, hN, hc⟩ := hP
      have s5 : Same H3 H4 := fun b o hb => hO b o (ne_of_none hb ha) (by rw [upd_ne (ne_of_none hb ha)]; exact hb)
      refine q a H4 ((e2.trans e3).trans s5) ?_
      rcases hc with ⟨hnil, _⟩ | ⟨dx, vs', h1, h2, _, _, _, h3⟩
      · have hz0 : (names.zip ds).length = 0 := by
          have := congrArg List.length hnil
          rwa [List.length_reverse] at this
        rw [List.length_zip] at hz0
        have e1 := hd.1
        have : names.length ≠ 0 := fun z => hp (List.eq_nil_of_length_eq_zero z)
        omega
      · exact ⟨dx, vs', h1, h2, fun f d e => (h3 f d e).2⟩⟩
theorem evd_ef {f : Str} {ini : String} (h : EvX K te σ H C fs) (T : EC K C ini) (hno : PySem.W.findIn K (.ref C) f = some none) (hl : fs.lookup f = some d) : EvD K (tEF K f te) σ H d := fun H1 e Q q =>
  h H1 e _ fun a H2 e2 hh => by
    obtain ⟨dx, vs, h1, h2, h3⟩ := hh
    obtain ⟨v, q1, q2⟩ := h3 f d hl
    exact ⟨a, C, dx, ini, vs, v, rfl, h1, h2, T, hno, q1, q v H2 e2 q2⟩
theorem et_ned (h1 : EvD K ta σ H d) (h2 : EvD K tb σ H d) (hs : SeqAt.shaped d = true) : Evl.EvT (tTest (tOp (rNeD K) ta tb)) σ H false := fun H1 e Q q =>
  h1 H1 e _ fun v H2 e2 hv => h2 H2 (e.trans e2) _ fun w H3 e3 hw => ⟨d, d, Dp.mono e3 hv, hw, hs, hs, by rw [same_data hs]; exact ⟨false, rfl, q H3 (e2.trans e3)⟩⟩
theorem ev_eqd (h1 : EvD K ta σ H d) (h2 : EvD K tb σ H d) (hs : SeqAt.shaped d = true) : Evl.Ev (tOp (rEqD K) ta tb) σ H (.bl true) := fun H1 e Q q =>
  h1 H1 e _ fun v H2 e2 hv => h2 H2 (e.trans e2) _ fun w H3 e3 hw => ⟨d, d, Dp.mono e3 hv, hw, hs, hs, by rw [same_data hs]; exact q H3 (e2.trans e3)⟩
theorem q_asgX {D : Ends} {tz : TS} {i : Nat} (h : EvX K te σ H C fs) (k : ∀ a H1, Evl.Ex H H1 → Has K H1 a C fs → tz D (σ.set i (some (.ref a))) H1) : tSeq (tAsg te (gName i)) tz D σ H := h H (Evl.Ex.refl H) _ fun a H1 e hh => k a H1 e hh
theorem ev_is {Cf : Nat → Addr} {a : Addr} {i : Nat} {E : XK} (h0 : σ[j]? = some (some (.ref a))) (h : IsE Cf H a i) : Evl.Ev (tCall (spIs Cf) [] E (tCons (tVar j) (tCons (tC (.int (i : Int))) tNil))) σ H (.bl true) :=
  Evl.ev_call (Evl.ea_cons (Evl.ev_var h0) (Evl.ea_cons Evl.ev_c Evl.ea_nil)) fun H1 e Q q _ => ⟨a, i, rfl, h.mono e, fun H2 s => q H2 s⟩
end
/-- a value that may be put into an error, as data d -/
structure Wth (K : PySem.W.Frag) (H : Hp) (v : V) (d : PyData) : Prop where
  dp : Dp K H v d
  tu : tupD 1 d = true
  sd : SeqAt.shaped d = true
  sn : Shown K H v
theorem Wth.mono {K : PySem.W.Frag} {H H' : Hp} {v : V} {d : PyData} (h : Wth K H v d) (s : Same H H') : Wth K H' v d := ⟨Dp.mono s h.dp, h.tu, h.sd, Shown.mono s h.sn⟩
theorem edat1 {K : PySem.W.Frag} {H : Hp} {v : V} {d : PyData} (h : Wth K H v d) : EDat K H 1 [v] [d] := ⟨rfl, fun i x e => by
  match i with
  | 0 => cases e; exact ⟨d, rfl, h.dp, h.tu, h.sn⟩
  | i + 1 => simp at e⟩
theorem edat2 {K : PySem.W.Frag} {H : Hp} {v v' : V} {d d' : PyData} (h : Wth K H v d) (h' : Wth K H v' d') : EDat K H 1 [v, v'] [d, d'] := ⟨rfl, fun i x e => by
  match i with
  | 0 => cases e; exact ⟨d, rfl, h.dp, h.tu, h.sn⟩
  | 1 => cases e; exact ⟨d', rfl, h'.dp, h'.tu, h'.sn⟩
  | i + 2 => simp at e⟩
theorem edat3 {K : PySem.W.Frag} {H : Hp} {v v' v2 : V} {d d' d2 : PyData} (h : Wth K H v d) (h' : Wth K H v' d') (h2 : Wth K H v2 d2) : EDat K H 1 [v, v', v2] [d, d', d2] := ⟨rfl, fun i x e => by
  match i with
  | 0 => cases e; exact ⟨d, rfl, h.dp, h.tu, h.sn⟩
  | 1 => cases e; exact ⟨d', rfl, h'.dp, h'.tu, h'.sn⟩
  | 2 => cases e; exact ⟨d2, rfl, h2.dp, h2.tu, h2.sn⟩
  | i + 3 => simp at e⟩
/-- the i-th error class, ready: its class, its __init__, its fields -/
structure Er (P : Program) (w : World) (K : PySem.W.Frag) (mg : Str → Option Value) (base : Heap) (Cf : Nat → Addr) (i : Nat) (x : Str) (ini : String) (names : List Str) : Prop where
  d : EDef P w K mg base 3 x (Cf i) ini ("self" :: names) (spErr K (Cf i) names 1)
  ec : EC K (Cf i) ini
  no : ∀ f ∈ names, PySem.W.findIn K (.ref (Cf i)) f = some none
end Ss
namespace Ss
open PySem L2 PySem.Spec PyProof.Rows
theorem lk1 {α : Type} {f : Str} {d : α} : [(f, d)].lookup f = some d := by rw [lookup_hd, if_pos rfl]
theorem lk2a {α : Type} {f g : Str} {d e : α} : [(g, e), (f, d)].lookup g = some e := by rw [lookup_hd, if_pos rfl]
theorem lk2b {α : Type} {f g : Str} {d e : α} (h : ¬ f = g) : [(g, e), (f, d)].lookup f = some d := by rw [lookup_hd, if_neg h]; exact lk1
theorem lk3a {α : Type} {f g k : Str} {d e c : α} : [(k, c), (g, e), (f, d)].lookup k = some c := by rw [lookup_hd, if_pos rfl]
theorem lk3b {α : Type} {f g k : Str} {d e c : α} (h : ¬ g = k) : [(k, c), (g, e), (f, d)].lookup g = some e := by rw [lookup_hd, if_neg h]; exact lk2a
theorem lk3c {α : Type} {f g k : Str} {d e c : α} (h : ¬ f = k) (h2 : ¬ f = g) : [(k, c), (g, e), (f, d)].lookup f = some d := by rw [lookup_hd, if_neg h]; exact lk2b h2
theorem ev_isN {K : PySem.W.Frag} {Cf : Nat → Addr} {σ : L2.St} {H : Hp} {E : XK} {i : Nat} (hi : i < 16) : Evl.Ev (tCall (spIs Cf) [] E (tCons (tEMk (Cf i) 0 0 (spErr K (Cf i) [] 1) E0 tNil tNil) (tCons (tC (.int (i : Int))) tNil))) σ H (.bl true) := fun H1 e Q q =>
  ⟨rfl, rfl, fun a ha => ⟨a, [], [], rfl, rfl, upd_same, ⟨rfl, fun i x e => by simp at e⟩, fun H2 hP => ⟨rfl, a, i, rfl, by
    obtain ⟨hO, hN, hc⟩ := hP
    have s5 : Same H1 H2 := fun b o hb => hO b o (ne_of_none hb ha) (by rw [upd_ne (ne_of_none hb ha)]; exact hb)
    refine ⟨?_, fun H3 s3 => q H3 (s5.trans s3)⟩
    rcases hc with ⟨_, h1⟩ | ⟨dx, vs', h1, h2, _, _, _, h3⟩
    · exact ⟨hi, none, h1, fun d e => by cases e⟩
    · exact ⟨hi, some dx, h1, fun d e => by cases e; exact ⟨vs', h2⟩⟩⟩⟩⟩
end Ss
namespace Ss
open PySem L2
section
variable {P : Program} {w : World} {K : PySem.W.Frag} {mg : Str → Option Value} {base : Heap}
abbrev sFirst : Stmt := topS 29
theorem scFirst : FnScope ["some", "more", "error"] ["some", "more"] (defScope sFirst) := ⟨rfl, rfl, rfl, by decide +kernel, rfl, by decide +kernel, by decide +kernel⟩
def spFirst (K : PySem.W.Frag) : Sp := fun vs H Q _ => ∃ (v0 : V) (d0 : PyData) (v1 : V) (d1 : PyData), vs = [v0, v1] ∧ Wth K H v0 d0 ∧ Wth K H v1 d1 ∧ ∀ H', Same H H' → Q (.bl true) H'
theorem ok_first {Cf : Nat → Addr} (F : DefAt K mg "_law_first" sFirst) (T : G0 mg) (Dis : Dk P w K mg base CX0 2 "_law_is" ["error", "number"] (spIs Cf)) (XBadCount : Er P w K mg base Cf 0 "BadCount" "ValueError.__init__" ["count"]) (XBadBook : Er P w K mg base Cf 1 "BadBook" "ValueError.__init__" ["what", "worth"]) (XAmbiguous : Er P w K mg base Cf 2 "Ambiguous" "ValueError.__init__" ["form", "row"]) (XUnwritable : Er P w K mg base Cf 3 "Unwritable" "ValueError.__init__" ["kind"]) (XUnused : Er P w K mg base Cf 4 "Unused" "ValueError.__init__" ["kind"]) (XBadRule : Er P w K mg base Cf 5 "BadRule" "ValueError.__init__" ["worth"]) : Dk P w K mg base CX0 5 "_law_first" ["some", "more"] (spFirst K) := by
  obtain ⟨f, fd, F, mf⟩ := F.ex
  refine ⟨f, fd, F.ok scFirst (fun vs H Q E h => ?_) (fun cdv A outer s H vs Q E hr h => ?_), mf, F.kp, F.binds fun _ _ _ _ _ _ us hl => match us, hl with | [_, _], _ => rfl⟩
  · obtain ⟨v0, d0, v1, d1, rfl, _⟩ := h; rfl
  · obtain ⟨v0, d0, v1, d1, rfl, w0, w1, k⟩ := h
    refine ⟨_, (pss_cons (ps_set (i := 2) scFirst.nd rfl (Or.inl rfl) (pe_en 1 XBadCount.d hr (pa_cons (pv 0) pa_nil))) (pss_cons (ps_if (PW.pt (pw_or (pt_not (pt_val (pe_cd Dis hr pass0 (pa_cons (pv 2) (pa_cons pe_int pa_nil))))) (pw_or (pt_cmpR (op_neD hr.units) (pe_ef (pv 2)) (pv 0) (nomark _)) (pw_or1 (pt_cmpR (op_neD hr.units) (pe_ef (pe_enK0 XBadCount.d hr (pk_cons (pv 1) pk_nil))) (pv 1) (nomark _)))))) (pss_one (ps_ret pe_bl)) pss_nil) (pss_cons (ps_set (i := 2) scFirst.nd rfl (Or.inl rfl) (pe_enK 1 XBadBook.d hr (pa_cons (pv 0) pa_nil) (pk_cons (pv 1) pk_nil))) (pss_cons (ps_if (PW.pt (pw_or (pt_not (pt_val (pe_cd Dis hr pass0 (pa_cons (pv 2) (pa_cons pe_int pa_nil))))) (pw_or (pt_cmpR (op_neD hr.units) (pe_ef (pv 2)) (pv 0) (nomark _)) (pw_or1 (pt_cmpR (op_neD hr.units) (pe_ef (pv 2)) (pv 1) (nomark _)))))) (pss_one (ps_ret pe_bl)) pss_nil) (pss_cons (ps_set (i := 2) scFirst.nd rfl (Or.inl rfl) (pe_enK 1 XAmbiguous.d hr (pa_cons (pv 0) pa_nil) (pk_cons (pv 1) pk_nil))) (pss_cons (ps_if (PW.pt (pw_or (pt_not (pt_val (pe_cd Dis hr pass0 (pa_cons (pv 2) (pa_cons pe_int pa_nil))))) (pw_or (pt_cmpR (op_neD hr.units) (pe_ef (pv 2)) (pv 0) (nomark _)) (pw_or1 (pt_cmpR (op_neD hr.units) (pe_ef (pv 2)) (pv 1) (nomark _)))))) (pss_one (ps_ret pe_bl)) pss_nil) (pss_cons (ps_set (i := 2) scFirst.nd rfl (Or.inl rfl) (pe_en 1 XUnwritable.d hr (pa_cons (pv 0) pa_nil))) (pss_cons (ps_if (PW.pt (pw_or (pt_not (pt_val (pe_cd Dis hr pass0 (pa_cons (pv 2) (pa_cons pe_int pa_nil))))) (pw_or (pt_cmpR (op_neD hr.units) (pe_ef (pv 2)) (pv 0) (nomark _)) (pw_or1 (pt_cmpR (op_neD hr.units) (pe_ef (pe_enK0 XUnwritable.d hr (pk_cons (pv 1) pk_nil))) (pv 1) (nomark _)))))) (pss_one (ps_ret pe_bl)) pss_nil) (pss_cons (ps_set (i := 2) scFirst.nd rfl (Or.inl rfl) (pe_en 1 XUnused.d hr (pa_cons (pv 0) pa_nil))) (pss_cons (ps_if (PW.pt (pw_or (pt_not (pt_val (pe_cd Dis hr pass0 (pa_cons (pv 2) (pa_cons pe_int pa_nil))))) (pw_or (pt_cmpR (op_neD hr.units) (pe_ef (pv 2)) (pv 0) (nomark _)) (pw_or1 (pt_cmpR (op_neD hr.units) (pe_ef (pe_enK0 XUnused.d hr (pk_cons (pv 1) pk_nil))) (pv 1) (nomark _)))))) (pss_one (ps_ret pe_bl)) pss_nil) (pss_cons (ps_set (i := 2) scFirst.nd rfl (Or.inl rfl) (pe_en 1 XBadRule.d hr (pa_cons (pv 0) pa_nil))) (pss_one (ps_ret (pe_and (pe_cd Dis hr pass0 (pa_cons (pv 2) (pa_cons pe_int pa_nil))) (pe_and (pe_cmpR (op_eqD hr.units) (pe_ef (pv 2)) (pv 0) (nomark _)) (pe_one (pe_cmpR (op_eqD hr.units) (pe_ef (pe_enK0 XBadRule.d hr (pk_cons (pv 1) pk_nil))) (pv 1) (nomark _)))))))))))))))))), ?_⟩
    refine q_asgX (evx_make (Evl.ea_cons (Evl.ev_var rfl) Evl.ea_nil) Evl.ea_nil rfl rfl rfl (fun z => by cases z) (edat1 (w0.mono (Same.refl H)))) fun a H1 s1 hx => ?_
    refine Evl.q_when (b := false) (Evl.et_is (Evl.et_or (Evl.et_not (Evl.et_B (ev_is rfl (hx.isE (by decide))))) fun _ => (Evl.et_or (et_ned (evd_ef (evx_var rfl hx) XBadCount.ec (XBadCount.no "count" (by simp)) lk1) (evd_var rfl (w0.mono s1).dp) w0.sd) fun _ => (et_ned (evd_ef (evx_make Evl.ea_nil (Evl.ea_cons (Evl.ev_var rfl) Evl.ea_nil) rfl rfl rfl (fun z => by cases z) (edat1 (w1.mono s1))) XBadCount.ec (XBadCount.no "count" (by simp)) lk1) (evd_var rfl (w1.mono s1).dp) w1.sd))) rfl) (fun e => Bool.noConfusion e) fun _ H2 s2 => ?_
    refine q_asgX (evx_make (Evl.ea_cons (Evl.ev_var rfl) Evl.ea_nil) (Evl.ea_cons (Evl.ev_var rfl) Evl.ea_nil) rfl rfl rfl (fun z => by cases z) (edat2 (w0.mono (s1.trans s2)) (w1.mono (s1.trans s2)))) fun a H3 s3 hx => ?_
    refine Evl.q_when (b := false) (Evl.et_is (Evl.et_or (Evl.et_not (Evl.et_B (ev_is rfl (hx.isE (by decide))))) fun _ => (Evl.et_or (et_ned (evd_ef (evx_var rfl hx) XBadBook.ec (XBadBook.no "what" (by simp)) (lk2b (by decide +kernel))) (evd_var rfl (w0.mono ((s1.trans s2).trans s3)).dp) w0.sd) fun _ => (et_ned (evd_ef (evx_var rfl hx) XBadBook.ec (XBadBook.no "worth" (by simp)) lk2a) (evd_var rfl (w1.mono ((s1.trans s2).trans s3)).dp) w1.sd))) rfl) (fun e => Bool.noConfusion e) fun _ H4 s4 => ?_
    refine q_asgX (evx_make (Evl.ea_cons (Evl.ev_var rfl) Evl.ea_nil) (Evl.ea_cons (Evl.ev_var rfl) Evl.ea_nil) rfl rfl rfl (fun z => by cases z) (edat2 (w0.mono (((s1.trans s2).trans s3).trans s4)) (w1.mono (((s1.trans s2).trans s3).trans s4)))) fun a H5 s5 hx => ?_
    refine Evl.q_when (b := false) (Evl.et_is (Evl.et_or (Evl.et_not (Evl.et_B (ev_is rfl (hx.isE (by decide))))) fun _ => (Evl.et_or (et_ned (evd_ef (evx_var rfl hx) XAmbiguous.ec (XAmbiguous.no "form" (by simp)) (lk2b (by decide +kernel))) (evd_var rfl (w0.mono ((((s1.trans s2).trans s3).trans s4).trans s5)).dp) w0.sd) fun _ => (et_ned (evd_ef (evx_var rfl hx) XAmbiguous.ec (XAmbiguous.no "row" (by simp)) lk2a) (evd_var rfl (w1.mono ((((s1.trans s2).trans s3).trans s4).trans s5)).dp) w1.sd))) rfl) (fun e => Bool.noConfusion e) fun _ H6 s6 => ?_
    refine q_asgX (evx_make (Evl.ea_cons (Evl.ev_var rfl) Evl.ea_nil) Evl.ea_nil rfl rfl rfl (fun z => by cases z) (edat1 (w0.mono (((((s1.trans s2).trans s3).trans s4).trans s5).trans s6)))) fun a H7 s7 hx => ?_
    refine Evl.q_when (b := false) (Evl.et_is (Evl.et_or (Evl.et_not (Evl.et_B (ev_is rfl (hx.isE (by decide))))) fun _ => (Evl.et_or (et_ned (evd_ef (evx_var rfl hx) XUnwritable.ec (XUnwritable.no "kind" (by simp)) lk1) (evd_var rfl (w0.mono ((((((s1.trans s2).trans s3).trans s4).trans s5).trans s6).trans s7)).dp) w0.sd) fun _ => (et_ned (evd_ef (evx_make Evl.ea_nil (Evl.ea_cons (Evl.ev_var rfl) Evl.ea_nil) rfl rfl rfl (fun z => by cases z) (edat1 (w1.mono ((((((s1.trans s2).trans s3).trans s4).trans s5).trans s6).trans s7)))) XUnwritable.ec (XUnwritable.no "kind" (by simp)) lk1) (evd_var rfl (w1.mono ((((((s1.trans s2).trans s3).trans s4).trans s5).trans s6).trans s7)).dp) w1.sd))) rfl) (fun e => Bool.noConfusion e) fun _ H8 s8 => ?_
    refine q_asgX (evx_make (Evl.ea_cons (Evl.ev_var rfl) Evl.ea_nil) Evl.ea_nil rfl rfl rfl (fun z => by cases z) (edat1 (w0.mono (((((((s1.trans s2).trans s3).trans s4).trans s5).trans s6).trans s7).trans s8)))) fun a H9 s9 hx => ?_
    refine Evl.q_when (b := false) (Evl.et_is (Evl.et_or (Evl.et_not (Evl.et_B (ev_is rfl (hx.isE (by decide))))) fun _ => (Evl.et_or (et_ned (evd_ef (evx_var rfl hx) XUnused.ec (XUnused.no "kind" (by simp)) lk1) (evd_var rfl (w0.mono ((((((((s1.trans s2).trans s3).trans s4).trans s5).trans s6).trans s7).trans s8).trans s9)).dp) w0.sd) fun _ => (et_ned (evd_ef (evx_make Evl.ea_nil (Evl.ea_cons (Evl.ev_var rfl) Evl.ea_nil) rfl rfl rfl (fun z => by cases z) (edat1 (w1.mono ((((((((s1.trans s2).trans s3).trans s4).trans s5).trans s6).trans s7).trans s8).trans s9)))) XUnused.ec (XUnused.no "kind" (by simp)) lk1) (evd_var rfl (w1.mono ((((((((s1.trans s2).trans s3).trans s4).trans s5).trans s6).trans s7).trans s8).trans s9)).dp) w1.sd))) rfl) (fun e => Bool.noConfusion e) fun _ H10 s10 => ?_
    refine q_asgX (evx_make (Evl.ea_cons (Evl.ev_var rfl) Evl.ea_nil) Evl.ea_nil rfl rfl rfl (fun z => by cases z) (edat1 (w0.mono (((((((((s1.trans s2).trans s3).trans s4).trans s5).trans s6).trans s7).trans s8).trans s9).trans s10)))) fun a H11 s11 hx => ?_
    exact Evl.s_ret (Evl.ev_is (Evl.ev_andV (ev_is rfl (hx.isE (by decide))) fun _ => (Evl.ev_andV (ev_eqd (evd_ef (evx_var rfl hx) XBadRule.ec (XBadRule.no "worth" (by simp)) lk1) (evd_var rfl (w0.mono ((((((((((s1.trans s2).trans s3).trans s4).trans s5).trans s6).trans s7).trans s8).trans s9).trans s10).trans s11)).dp) w0.sd) fun _ => (ev_eqd (evd_ef (evx_make Evl.ea_nil (Evl.ea_cons (Evl.ev_var rfl) Evl.ea_nil) rfl rfl rfl (fun z => by cases z) (edat1 (w1.mono ((((((((((s1.trans s2).trans s3).trans s4).trans s5).trans s6).trans s7).trans s8).trans s9).trans s10).trans s11)))) XBadRule.ec (XBadRule.no "worth" (by simp)) lk1) (evd_var rfl (w1.mono ((((((((((s1.trans s2).trans s3).trans s4).trans s5).trans s6).trans s7).trans s8).trans s9).trans s10).trans s11)).dp) w1.sd))) rfl) fun H' s' => k H' (((((((((((s1.trans s2).trans s3).trans s4).trans s5).trans s6).trans s7).trans s8).trans s9).trans s10).trans s11).trans s')

end
end Ss
namespace Ss
open PySem L2
section
variable {P : Program} {w : World} {K : PySem.W.Frag} {mg : Str → Option Value} {base : Heap}
abbrev sSecond : Stmt := topS 30
theorem scSecond : FnScope ["some", "more", "error"] ["some", "more"] (defScope sSecond) := ⟨rfl, rfl, rfl, by decide +kernel, rfl, by decide +kernel, by decide +kernel⟩
def spSecond (K : PySem.W.Frag) : Sp := fun vs H Q _ => ∃ (v0 : V) (d0 : PyData) (v1 : V) (d1 : PyData), vs = [v0, v1] ∧ Wth K H v0 d0 ∧ Wth K H v1 d1 ∧ ∀ H', Same H H' → Q (.bl true) H'
theorem ok_second {Cf : Nat → Addr} (F : DefAt K mg "_law_second" sSecond) (T : G0 mg) (Dis : Dk P w K mg base CX0 2 "_law_is" ["error", "number"] (spIs Cf)) (XNoPlace : Er P w K mg base Cf 6 "NoPlace" "ValueError.__init__" ["place"]) (XNoCase : Er P w K mg base Cf 7 "NoCase" "ValueError.__init__" ["rule", "spots"]) (XUneven : Er P w K mg base Cf 8 "Uneven" "ValueError.__init__" ["token"]) (XUnwritten : Er P w K mg base Cf 9 "Unwritten" "ValueError.__init__" ["path"]) (XClash : Er P w K mg base Cf 10 "Clash" "ValueError.__init__" ["kind"]) : Dk P w K mg base CX0 5 "_law_second" ["some", "more"] (spSecond K) := by
  obtain ⟨f, fd, F, mf⟩ := F.ex
  refine ⟨f, fd, F.ok scSecond (fun vs H Q E h => ?_) (fun cdv A outer s H vs Q E hr h => ?_), mf, F.kp, F.binds fun _ _ _ _ _ _ us hl => match us, hl with | [_, _], _ => rfl⟩
  · obtain ⟨v0, d0, v1, d1, rfl, _⟩ := h; rfl
  · obtain ⟨v0, d0, v1, d1, rfl, w0, w1, k⟩ := h
    refine ⟨_, (pss_cons (ps_set (i := 2) scSecond.nd rfl (Or.inl rfl) (pe_en 1 XNoPlace.d hr (pa_cons (pv 0) pa_nil))) (pss_cons (ps_if (PW.pt (pw_or (pt_not (pt_val (pe_cd Dis hr pass0 (pa_cons (pv 2) (pa_cons pe_int pa_nil))))) (pw_or (pt_cmpR (op_neD hr.units) (pe_ef (pv 2)) (pv 0) (nomark _)) (pw_or1 (pt_cmpR (op_neD hr.units) (pe_ef (pe_enK0 XNoPlace.d hr (pk_cons (pv 1) pk_nil))) (pv 1) (nomark _)))))) (pss_one (ps_ret pe_bl)) pss_nil) (pss_cons (ps_set (i := 2) scSecond.nd rfl (Or.inl rfl) (pe_enK 1 XNoCase.d hr (pa_cons (pv 0) pa_nil) (pk_cons (pv 1) pk_nil))) (pss_cons (ps_if (PW.pt (pw_or (pt_not (pt_val (pe_cd Dis hr pass0 (pa_cons (pv 2) (pa_cons pe_int pa_nil))))) (pw_or (pt_cmpR (op_neD hr.units) (pe_ef (pv 2)) (pv 0) (nomark _)) (pw_or1 (pt_cmpR (op_neD hr.units) (pe_ef (pv 2)) (pv 1) (nomark _)))))) (pss_one (ps_ret pe_bl)) pss_nil) (pss_cons (ps_set (i := 2) scSecond.nd rfl (Or.inl rfl) (pe_en 1 XUneven.d hr (pa_cons (pv 0) pa_nil))) (pss_cons (ps_if (PW.pt (pw_or (pt_not (pt_val (pe_cd Dis hr pass0 (pa_cons (pv 2) (pa_cons pe_int pa_nil))))) (pw_or (pt_cmpR (op_neD hr.units) (pe_ef (pv 2)) (pv 0) (nomark _)) (pw_or1 (pt_cmpR (op_neD hr.units) (pe_ef (pe_enK0 XUneven.d hr (pk_cons (pv 1) pk_nil))) (pv 1) (nomark _)))))) (pss_one (ps_ret pe_bl)) pss_nil) (pss_cons (ps_set (i := 2) scSecond.nd rfl (Or.inl rfl) (pe_en 1 XUnwritten.d hr (pa_cons (pv 0) pa_nil))) (pss_cons (ps_if (PW.pt (pw_or (pt_not (pt_val (pe_cd Dis hr pass0 (pa_cons (pv 2) (pa_cons pe_int pa_nil))))) (pw_or (pt_cmpR (op_neD hr.units) (pe_ef (pv 2)) (pv 0) (nomark _)) (pw_or1 (pt_cmpR (op_neD hr.units) (pe_ef (pe_enK0 XUnwritten.d hr (pk_cons (pv 1) pk_nil))) (pv 1) (nomark _)))))) (pss_one (ps_ret pe_bl)) pss_nil) (pss_cons (ps_set (i := 2) scSecond.nd rfl (Or.inl rfl) (pe_en 1 XClash.d hr (pa_cons (pv 0) pa_nil))) (pss_one (ps_ret (pe_and (pe_cd Dis hr pass0 (pa_cons (pv 2) (pa_cons pe_int pa_nil))) (pe_and (pe_cmpR (op_eqD hr.units) (pe_ef (pv 2)) (pv 0) (nomark _)) (pe_one (pe_cmpR (op_eqD hr.units) (pe_ef (pe_enK0 XClash.d hr (pk_cons (pv 1) pk_nil))) (pv 1) (nomark _)))))))))))))))), ?_⟩
    refine q_asgX (evx_make (Evl.ea_cons (Evl.ev_var rfl) Evl.ea_nil) Evl.ea_nil rfl rfl rfl (fun z => by cases z) (edat1 (w0.mono (Same.refl H)))) fun a H1 s1 hx => ?_
    refine Evl.q_when (b := false) (Evl.et_is (Evl.et_or (Evl.et_not (Evl.et_B (ev_is rfl (hx.isE (by decide))))) fun _ => (Evl.et_or (et_ned (evd_ef (evx_var rfl hx) XNoPlace.ec (XNoPlace.no "place" (by simp)) lk1) (evd_var rfl (w0.mono s1).dp) w0.sd) fun _ => (et_ned (evd_ef (evx_make Evl.ea_nil (Evl.ea_cons (Evl.ev_var rfl) Evl.ea_nil) rfl rfl rfl (fun z => by cases z) (edat1 (w1.mono s1))) XNoPlace.ec (XNoPlace.no "place" (by simp)) lk1) (evd_var rfl (w1.mono s1).dp) w1.sd))) rfl) (fun e => Bool.noConfusion e) fun _ H2 s2 => ?_
    refine q_asgX (evx_make (Evl.ea_cons (Evl.ev_var rfl) Evl.ea_nil) (Evl.ea_cons (Evl.ev_var rfl) Evl.ea_nil) rfl rfl rfl (fun z => by cases z) (edat2 (w0.mono (s1.trans s2)) (w1.mono (s1.trans s2)))) fun a H3 s3 hx => ?_
    refine Evl.q_when (b := false) (Evl.et_is (Evl.et_or (Evl.et_not (Evl.et_B (ev_is rfl (hx.isE (by decide))))) fun _ => (Evl.et_or (et_ned (evd_ef (evx_var rfl hx) XNoCase.ec (XNoCase.no "rule" (by simp)) (lk2b (by decide +kernel))) (evd_var rfl (w0.mono ((s1.trans s2).trans s3)).dp) w0.sd) fun _ => (et_ned (evd_ef (evx_var rfl hx) XNoCase.ec (XNoCase.no "spots" (by simp)) lk2a) (evd_var rfl (w1.mono ((s1.trans s2).trans s3)).dp) w1.sd))) rfl) (fun e => Bool.noConfusion e) fun _ H4 s4 => ?_
    refine q_asgX (evx_make (Evl.ea_cons (Evl.ev_var rfl) Evl.ea_nil) Evl.ea_nil rfl rfl rfl (fun z => by cases z) (edat1 (w0.mono (((s1.trans s2).trans s3).trans s4)))) fun a H5 s5 hx => ?_
    refine Evl.q_when (b := false) (Evl.et_is (Evl.et_or (Evl.et_not (Evl.et_B (ev_is rfl (hx.isE (by decide))))) fun _ => (Evl.et_or (et_ned (evd_ef (evx_var rfl hx) XUneven.ec (XUneven.no "token" (by simp)) lk1) (evd_var rfl (w0.mono ((((s1.trans s2).trans s3).trans s4).trans s5)).dp) w0.sd) fun _ => (et_ned (evd_ef (evx_make Evl.ea_nil (Evl.ea_cons (Evl.ev_var rfl) Evl.ea_nil) rfl rfl rfl (fun z => by cases z) (edat1 (w1.mono ((((s1.trans s2).trans s3).trans s4).trans s5)))) XUneven.ec (XUneven.no "token" (by simp)) lk1) (evd_var rfl (w1.mono ((((s1.trans s2).trans s3).trans s4).trans s5)).dp) w1.sd))) rfl) (fun e => Bool.noConfusion e) fun _ H6 s6 => ?_
    refine q_asgX (evx_make (Evl.ea_cons (Evl.ev_var rfl) Evl.ea_nil) Evl.ea_nil rfl rfl rfl (fun z => by cases z) (edat1 (w0.mono (((((s1.trans s2).trans s3).trans s4).trans s5).trans s6)))) fun a H7 s7 hx => ?_
    refine Evl.q_when (b := false) (Evl.et_is (Evl.et_or (Evl.et_not (Evl.et_B (ev_is rfl (hx.isE (by decide))))) fun _ => (Evl.et_or (et_ned (evd_ef (evx_var rfl hx) XUnwritten.ec (XUnwritten.no "path" (by simp)) lk1) (evd_var rfl (w0.mono ((((((s1.trans s2).trans s3).trans s4).trans s5).trans s6).trans s7)).dp) w0.sd) fun _ => (et_ned (evd_ef (evx_make Evl.ea_nil (Evl.ea_cons (Evl.ev_var rfl) Evl.ea_nil) rfl rfl rfl (fun z => by cases z) (edat1 (w1.mono ((((((s1.trans s2).trans s3).trans s4).trans s5).trans s6).trans s7)))) XUnwritten.ec (XUnwritten.no "path" (by simp)) lk1) (evd_var rfl (w1.mono ((((((s1.trans s2).trans s3).trans s4).trans s5).trans s6).trans s7)).dp) w1.sd))) rfl) (fun e => Bool.noConfusion e) fun _ H8 s8 => ?_
    refine q_asgX (evx_make (Evl.ea_cons (Evl.ev_var rfl) Evl.ea_nil) Evl.ea_nil rfl rfl rfl (fun z => by cases z) (edat1 (w0.mono (((((((s1.trans s2).trans s3).trans s4).trans s5).trans s6).trans s7).trans s8)))) fun a H9 s9 hx => ?_
    exact Evl.s_ret (Evl.ev_is (Evl.ev_andV (ev_is rfl (hx.isE (by decide))) fun _ => (Evl.ev_andV (ev_eqd (evd_ef (evx_var rfl hx) XClash.ec (XClash.no "kind" (by simp)) lk1) (evd_var rfl (w0.mono ((((((((s1.trans s2).trans s3).trans s4).trans s5).trans s6).trans s7).trans s8).trans s9)).dp) w0.sd) fun _ => (ev_eqd (evd_ef (evx_make Evl.ea_nil (Evl.ea_cons (Evl.ev_var rfl) Evl.ea_nil) rfl rfl rfl (fun z => by cases z) (edat1 (w1.mono ((((((((s1.trans s2).trans s3).trans s4).trans s5).trans s6).trans s7).trans s8).trans s9)))) XClash.ec (XClash.no "kind" (by simp)) lk1) (evd_var rfl (w1.mono ((((((((s1.trans s2).trans s3).trans s4).trans s5).trans s6).trans s7).trans s8).trans s9)).dp) w1.sd))) rfl) fun H' s' => k H' (((((((((s1.trans s2).trans s3).trans s4).trans s5).trans s6).trans s7).trans s8).trans s9).trans s')

abbrev sThird : Stmt := topS 31
theorem scThird : FnScope ["some", "more", "other", "error"] ["some", "more", "other"] (defScope sThird) := ⟨rfl, rfl, rfl, by decide +kernel, rfl, by decide +kernel, by decide +kernel⟩
def spThird (K : PySem.W.Frag) : Sp := fun vs H Q _ => ∃ (v0 : V) (d0 : PyData) (v1 : V) (d1 : PyData) (v2 : V) (d2 : PyData), vs = [v0, v1, v2] ∧ Wth K H v0 d0 ∧ Wth K H v1 d1 ∧ Wth K H v2 d2 ∧ ∀ H', Same H H' → Q (.bl true) H'
theorem ok_third {Cf : Nat → Addr} (F : DefAt K mg "_law_third" sThird) (T : G0 mg) (Dis : Dk P w K mg base CX0 2 "_law_is" ["error", "number"] (spIs Cf)) (XUnknown : Er P w K mg base Cf 11 "Unknown" "LookupError.__init__" ["name"]) (XTooFew : Er P w K mg base Cf 12 "TooFew" "LookupError.__init__" ["count"]) (XNothingToUndo : Er P w K mg base Cf 13 "NothingToUndo" "LookupError.__init__" []) (XRefused : Er P w K mg base Cf 14 "Refused" "RuntimeError.__init__" ["at", "line", "awaited"]) (XTooDeep : Er P w K mg base Cf 15 "TooDeep" "RuntimeError.__init__" ["at"]) : Dk P w K mg base CX0 5 "_law_third" ["some", "more", "other"] (spThird K) := by
  obtain ⟨f, fd, F, mf⟩ := F.ex
  refine ⟨f, fd, F.ok scThird (fun vs H Q E h => ?_) (fun cdv A outer s H vs Q E hr h => ?_), mf, F.kp, F.binds fun _ _ _ _ _ _ us hl => match us, hl with | [_, _, _], _ => rfl⟩
  · obtain ⟨v0, d0, v1, d1, v2, d2, rfl, _⟩ := h; rfl
  · obtain ⟨v0, d0, v1, d1, v2, d2, rfl, w0, w1, w2, k⟩ := h
    refine ⟨_, (pss_cons (ps_set (i := 3) scThird.nd rfl (Or.inl rfl) (pe_en 1 XUnknown.d hr (pa_cons (pv 0) pa_nil))) (pss_cons (ps_if (PW.pt (pw_or (pt_not (pt_val (pe_cd Dis hr pass0 (pa_cons (pv 3) (pa_cons pe_int pa_nil))))) (pw_or (pt_cmpR (op_neD hr.units) (pe_ef (pv 3)) (pv 0) (nomark _)) (pw_or1 (pt_cmpR (op_neD hr.units) (pe_ef (pe_enK0 XUnknown.d hr (pk_cons (pv 1) pk_nil))) (pv 1) (nomark _)))))) (pss_one (ps_ret pe_bl)) pss_nil) (pss_cons (ps_set (i := 3) scThird.nd rfl (Or.inl rfl) (pe_en 1 XTooFew.d hr (pa_cons (pv 0) pa_nil))) (pss_cons (ps_if (PW.pt (pw_or (pt_not (pt_val (pe_cd Dis hr pass0 (pa_cons (pv 3) (pa_cons pe_int pa_nil))))) (pw_or (pt_cmpR (op_neD hr.units) (pe_ef (pv 3)) (pv 0) (nomark _)) (pw_or1 (pt_cmpR (op_neD hr.units) (pe_ef (pe_enK0 XTooFew.d hr (pk_cons (pv 1) pk_nil))) (pv 1) (nomark _)))))) (pss_one (ps_ret pe_bl)) pss_nil) (pss_cons (ps_if (pt_not (pt_val (pe_cd Dis hr pass0 (pa_cons (pe_en0 XNothingToUndo.d hr) (pa_cons pe_int pa_nil))))) (pss_one (ps_ret pe_bl)) pss_nil) (pss_cons (ps_set (i := 3) scThird.nd rfl (Or.inl rfl) (pe_enK 2 XRefused.d hr (pa_cons (pv 0) (pa_cons (pv 1) pa_nil)) (pk_cons (pv 2) pk_nil))) (pss_cons (ps_if (PW.pt (pw_or (pt_not (pt_val (pe_cd Dis hr pass0 (pa_cons (pv 3) (pa_cons pe_int pa_nil))))) (pw_or (pt_cmpR (op_neD hr.units) (pe_ef (pv 3)) (pv 0) (nomark _)) (pw_or (pt_cmpR (op_neD hr.units) (pe_ef (pv 3)) (pv 1) (nomark _)) (pw_or1 (pt_cmpR (op_neD hr.units) (pe_ef (pv 3)) (pv 2) (nomark _))))))) (pss_one (ps_ret pe_bl)) pss_nil) (pss_cons (ps_set (i := 3) scThird.nd rfl (Or.inl rfl) (pe_en 1 XTooDeep.d hr (pa_cons (pv 0) pa_nil))) (pss_one (ps_ret (pe_and (pe_cd Dis hr pass0 (pa_cons (pv 3) (pa_cons pe_int pa_nil))) (pe_and (pe_cmpR (op_eqD hr.units) (pe_ef (pv 3)) (pv 0) (nomark _)) (pe_one (pe_cmpR (op_eqD hr.units) (pe_ef (pe_en 1 XTooDeep.d hr (pa_cons (pv 1) pa_nil))) (pv 1) (nomark _))))))))))))))), ?_⟩
    refine q_asgX (evx_make (Evl.ea_cons (Evl.ev_var rfl) Evl.ea_nil) Evl.ea_nil rfl rfl rfl (fun z => by cases z) (edat1 (w0.mono (Same.refl H)))) fun a H1 s1 hx => ?_
    refine Evl.q_when (b := false) (Evl.et_is (Evl.et_or (Evl.et_not (Evl.et_B (ev_is rfl (hx.isE (by decide))))) fun _ => (Evl.et_or (et_ned (evd_ef (evx_var rfl hx) XUnknown.ec (XUnknown.no "name" (by simp)) lk1) (evd_var rfl (w0.mono s1).dp) w0.sd) fun _ => (et_ned (evd_ef (evx_make Evl.ea_nil (Evl.ea_cons (Evl.ev_var rfl) Evl.ea_nil) rfl rfl rfl (fun z => by cases z) (edat1 (w1.mono s1))) XUnknown.ec (XUnknown.no "name" (by simp)) lk1) (evd_var rfl (w1.mono s1).dp) w1.sd))) rfl) (fun e => Bool.noConfusion e) fun _ H2 s2 => ?_
    refine q_asgX (evx_make (Evl.ea_cons (Evl.ev_var rfl) Evl.ea_nil) Evl.ea_nil rfl rfl rfl (fun z => by cases z) (edat1 (w0.mono (s1.trans s2)))) fun a H3 s3 hx => ?_
    refine Evl.q_when (b := false) (Evl.et_is (Evl.et_or (Evl.et_not (Evl.et_B (ev_is rfl (hx.isE (by decide))))) fun _ => (Evl.et_or (et_ned (evd_ef (evx_var rfl hx) XTooFew.ec (XTooFew.no "count" (by simp)) lk1) (evd_var rfl (w0.mono ((s1.trans s2).trans s3)).dp) w0.sd) fun _ => (et_ned (evd_ef (evx_make Evl.ea_nil (Evl.ea_cons (Evl.ev_var rfl) Evl.ea_nil) rfl rfl rfl (fun z => by cases z) (edat1 (w1.mono ((s1.trans s2).trans s3)))) XTooFew.ec (XTooFew.no "count" (by simp)) lk1) (evd_var rfl (w1.mono ((s1.trans s2).trans s3)).dp) w1.sd))) rfl) (fun e => Bool.noConfusion e) fun _ H4 s4 => ?_
    refine Evl.q_when (b := false) (Evl.et_is (Evl.et_not (Evl.et_B (ev_isN (by decide)))) rfl) (fun e => Bool.noConfusion e) fun _ H5 s5 => ?_
    refine q_asgX (evx_make (Evl.ea_cons (Evl.ev_var rfl) (Evl.ea_cons (Evl.ev_var rfl) Evl.ea_nil)) (Evl.ea_cons (Evl.ev_var rfl) Evl.ea_nil) rfl rfl rfl (fun z => by cases z) (edat3 (w0.mono ((((s1.trans s2).trans s3).trans s4).trans s5)) (w1.mono ((((s1.trans s2).trans s3).trans s4).trans s5)) (w2.mono ((((s1.trans s2).trans s3).trans s4).trans s5)))) fun a H6 s6 hx => ?_
    refine Evl.q_when (b := false) (Evl.et_is (Evl.et_or (Evl.et_not (Evl.et_B (ev_is rfl (hx.isE (by decide))))) fun _ => (Evl.et_or (et_ned (evd_ef (evx_var rfl hx) XRefused.ec (XRefused.no "at" (by simp)) (lk3c (by decide +kernel) (by decide +kernel))) (evd_var rfl (w0.mono (((((s1.trans s2).trans s3).trans s4).trans s5).trans s6)).dp) w0.sd) fun _ => (Evl.et_or (et_ned (evd_ef (evx_var rfl hx) XRefused.ec (XRefused.no "line" (by simp)) (lk3b (by decide +kernel))) (evd_var rfl (w1.mono (((((s1.trans s2).trans s3).trans s4).trans s5).trans s6)).dp) w1.sd) fun _ => (et_ned (evd_ef (evx_var rfl hx) XRefused.ec (XRefused.no "awaited" (by simp)) lk3a) (evd_var rfl (w2.mono (((((s1.trans s2).trans s3).trans s4).trans s5).trans s6)).dp) w2.sd)))) rfl) (fun e => Bool.noConfusion e) fun _ H7 s7 => ?_
    refine q_asgX (evx_make (Evl.ea_cons (Evl.ev_var rfl) Evl.ea_nil) Evl.ea_nil rfl rfl rfl (fun z => by cases z) (edat1 (w0.mono ((((((s1.trans s2).trans s3).trans s4).trans s5).trans s6).trans s7)))) fun a H8 s8 hx => ?_
    exact Evl.s_ret (Evl.ev_is (Evl.ev_andV (ev_is rfl (hx.isE (by decide))) fun _ => (Evl.ev_andV (ev_eqd (evd_ef (evx_var rfl hx) XTooDeep.ec (XTooDeep.no "at" (by simp)) lk1) (evd_var rfl (w0.mono (((((((s1.trans s2).trans s3).trans s4).trans s5).trans s6).trans s7).trans s8)).dp) w0.sd) fun _ => (ev_eqd (evd_ef (evx_make (Evl.ea_cons (Evl.ev_var rfl) Evl.ea_nil) Evl.ea_nil rfl rfl rfl (fun z => by cases z) (edat1 (w1.mono (((((((s1.trans s2).trans s3).trans s4).trans s5).trans s6).trans s7).trans s8)))) XTooDeep.ec (XTooDeep.no "at" (by simp)) lk1) (evd_var rfl (w1.mono (((((((s1.trans s2).trans s3).trans s4).trans s5).trans s6).trans s7).trans s8)).dp) w1.sd))) rfl) fun H' s' => k H' ((((((((s1.trans s2).trans s3).trans s4).trans s5).trans s6).trans s7).trans s8).trans s')

end
end Ss
namespace Ss
open PySem L2 PySem.Spec PyProof.Rows
/-- data lean on tuples alone -/
theorem Dp.tups {K : PySem.W.Frag} {H H' : Hp} (h1 : ∀ b xs, H b = some (.tup xs) → H' b = some (.tup xs)) (h2 : ∀ b o xs, H b = some (.frz o (.tup xs)) → H' b = some (.frz o (.tup xs))) : ∀ (n : Nat) (d : PyData) (v : V), tupD n d = true → Dp K H v d → Dp K H' v d := by
  intro n
  induction n with
  | zero =>
    intro d v ht h
    cases h with
    | non => exact .non
    | bl b => exact .bl b
    | int i => exact .int i
    | str x => exact .str x
    | lst _ _ => exact Bool.noConfusion ht
    | tup _ _ => exact Bool.noConfusion ht
  | succ n ih =>
    intro d v ht h
    cases h with
    | non => exact .non
    | bl b => exact .bl b
    | int i => exact .int i
    | str x => exact .str x
    | lst _ _ => exact Bool.noConfusion ht
    | @tup a xs ds hs ha =>
      have hall := (tupD_all ht).2
      refine .tup (xs := xs) ?_ (DpAll.imp (p := fun d => tupD n d = true) (fun d v hd h => ih d v hd h) ha hall)
      rcases hs with (hs | ⟨q, hs⟩) | hs
      · exact .inl (.inl (h1 _ _ hs))
      · exact .inl (.inr ⟨q, h2 _ _ _ hs⟩)
      · exact .inr hs
/-- raise C(e, ..), C's own __init__ keeping sp: n values -/
def tEMkR (C : Addr) (n : Nat) (sp : Sp) (ta : TA) : L2.St → Hp → XK → Prop := fun σ H Q => ta σ H fun vs H1 => vs.length = n ∧ ∀ a, H1 a = none → sp (.ref a :: vs) (upd H1 a (exo a C none))
  (fun v H2 => v = .non ∧ ∃ (d : Addr) (fs : List (Str × V)), H2 a = some (exo a C (some d)) ∧ H2 d = some (exd d fs) ∧ H1 d = none ∧ Q (.ref C) (some d) (upd (del H2 a) d (.xd fs))) (fun _ _ _ => False)
theorem pmk_ec {X : Cx} {x : Str} {C : Addr} {ini : String} {k j n : Nat} {ps : List Str} {sp : Sp} {e : Expr} {es : List Expr} {ta : TA} {p pos : Pos} (D : EDef X.prog X.w X.K X.mg X.base k x C ini ps sp) (hr : Room j X.A) (ha : PA X (e :: es) ta) (hd : ps.drop (n + 1) = []) (hl : n + 1 ≤ ps.length)
    (hk : k + 1 ≤ j := by decide) (hn : n ≤ 1000 := by decide) (hg : Gl X x := by rfl) (hdb : (x == ("__debug__" : Str)) = false := by decide) (he : starEach (e :: es) X.env = (false, eval e X.env) :: starEach es X.env := by rfl) (hpl : (backTo pos (starEach es X.env)).any (·.1) = false := by rfl) :
    PMk X (.Call (.Name x p) (e :: es) [] pos) (tEMkR C n sp ta) := by
  obtain ⟨fd, M, hm, nb⟩ := D.ex
  have hb : NB fd ps (n + 1) [] := by have q := nb n hl; rw [hd] at q; exact q
  obtain ⟨fI, iC, tI, F1⟩ := M.ex
  intro pins s σ H Q I h
  obtain ⟨B, newId, bmB, nm, q, N, bs, bm, sn, sub, ab, col, dd, k0, k1, k2, k3, k5, F, hC, hT, hbm⟩ := M.ec.cls
  refine wpAny_Call_Name_kw (ld_glob I hg hm ?_ hdb)
  refine PySem.W.callWith_K (h₀ := X.base) I.ok.mod.kin M.ec.kC (thn (ha.run pos pins s σ H _ I h) fun us s1 ⟨vs, H1, I1, r1, hz, q1⟩ => ⟨I1.kIn, ?_⟩) he hpl
  show wpAny _ _ (call (.ref C) us) _ _ _
  obtain ⟨hp, g, dr, tk, os⟩ := s1
  have hsz : hp.objs.size ≤ hp.objs.size + 1 := Nat.le_succ _
  have hq := q1 (hp.objs.size + 1) (I1.hok.fresh hsz)
  have kk : ∀ b o, hp.get? b = some o → ((hp.push (PySem.W.kdv_tup us)).push (PySem.HandSPX.excO C hp.objs.size)).get? b = some o := fun b o e => Heap.get?_push_of_some _ (Heap.get?_push_of_some _ e)
  have hget : ((hp.push (PySem.W.kdv_tup us)).push (PySem.HandSPX.excO C hp.objs.size)).get? (hp.objs.size + 1) = some (PySem.HandSPX.excO C hp.objs.size) := by heap_get
  have I2 : Inv X pins σ (upd H1 (hp.objs.size + 1) (exo (hp.objs.size + 1) C none)) ⟨(hp.push (PySem.W.kdv_tup us)).push (PySem.HandSPX.excO C hp.objs.size), g, dr, tk, os⟩ :=
    I1.laid (t' := tk) (a := hp.objs.size + 1) (o := exo (hp.objs.size + 1) C none) (h' := (hp.push (PySem.W.kdv_tup us)).push (PySem.HandSPX.excO C hp.objs.size)) kk hsz (exo_ok hget)
  have r2 : Vals (V.ref (hp.objs.size + 1) :: vs) (Value.ref (hp.objs.size + 1) :: (us ++ [])) := by rw [List.append_nil]; exact .cons rfl r1
  have e1 : (Value.ref (hp.objs.size + 1) :: us).length = n + 1 := congrArg Nat.succ (r1.length.symm.trans hz)
  have hus : us.length ≤ sizeLine := by
    rw [← r1.length, hz, sizeLine_eq]
    omega
  refine wpAny_call (SsE.call_kw F hT (I1.kIn _ _ hC) (PySem.W.looks_findIn I1.kIn iC) (fun self => PySem.W.bind_fn I1.kIn self tI) hus
    (codeAny_mono (F1.run _ X.stack _ _ ⟨Value.ref (hp.objs.size + 1) :: us, []⟩ (Value.ref (hp.objs.size + 1) :: us ++ []) _ _ (fun _ _ _ => False) ((hr.mono hk).make C us []) (I2.env0.make C us []) (hb.to _ _ [] e1 rfl) r2 hq) fun r s' hq' => ?_))
  cases r with
  | error er => exact False.elim hq'
  | ok fl =>
    cases fl with
    | ret u =>
      obtain ⟨v, H2, os2, bare2, un2, hok2, rv, ev, d, fs, ea, ed, hd1, q2⟩ := hq'
      subst ev
      obtain ⟨h2, g2, d2, t2, os'⟩ := s'
      exact ⟨rv, mk_end (raises_own M.ec.exC M.ec.tyC) I1 hsz kk un2 hok2 os2 bare2 ea ed hd1 q2⟩
    | next => exact False.elim hq'
    | brk => exact False.elim hq'
    | cont => exact False.elim hq'
/-- isinstance(e, c), e the error that the suite holds at a: its class cls, its dict d -/
def rIsS (K : PySem.W.Frag) (a : Addr) (cls : Value) (d : Option Addr) : List V → Hp → VK → Prop := fun xs H Q => ∃ (C : Addr) (ini : String) (dd : Addr) (fs : List (Str × V)) (c : V) (cv : Value) (b : Bool), xs = [.ref a, c] ∧ cls = .ref C ∧ d = some dd ∧ H dd = some (.xd fs) ∧ EC K C ini ∧
  ClsV c cv ∧ PySem.W.kitOne K (.ref C) cv = some b ∧ Q (.bl b) H
theorem call_isS {X : Cx} {a : Addr} {oe : Obj} {cls : Value} {d : Option Addr} {pn : List (Addr × Obj)} (hz : Zc cls d oe) (hf : ∃ vs, oe.data = .fields vs) : CallR (X.suite a ((a, oe) :: pn)) (.builtin "isinstance") (rIsS X.K a cls d) := by
  intro pins s σ H xs us Q I r h
  obtain ⟨C, ini, dd, fs, c, cv, b, rfl, rfl, rfl, ed, T, k, e, q⟩ := h
  obtain ⟨u1, u2, rfl, r1, r2⟩ := vals2 r
  have e2 := k.eq r2
  subst e2
  cases (show u1 = Value.ref a from r1)
  obtain ⟨hget, _⟩ := I.pin (a, oe) (List.mem_append.mpr (.inl List.mem_cons_self))
  obtain ⟨vs, hv⟩ := hf
  obtain ⟨mA, hns, hr⟩ := (show ObjOk X.prog X.w H s.heap dd (.xd fs) from I.hok dd _ ed)
  obtain ⟨od, ho, hl⟩ := lookIn_ns hns
  have J : ∃ od, PySem.W.InstAt s.heap a oe C od := ⟨some od, hget, hz.1, by unfold PySem.W.notCls; rw [hv] <;> rfl, by rw [hz.2]; exact ho⟩
  exact PySem.W.kia_one (PySem.W.ssKit T.ga T.gg T.exC T.hdC T.ha T.hn T.ht T.hm) I.kIn J e (fun z => nomatch z) fun tk => ⟨.bl b, H, I.kept (t' := tk) fun _ _ z => z, rfl, q⟩
theorem EC.xf {K : PySem.W.Frag} {C : Addr} {ini : String} (T : EC K C ini) : XfC K C := ⟨T.ga, T.gg, T.exC, T.hdC⟩
/-- behind the making of a raised error with one field: what was tracked stands, the field holds the data -/
theorem emkr_one {K : PySem.W.Frag} {σ : L2.St} {H : Hp} {C : Addr} {f : Str} {i : Nat} {v : V} {d : PyData} {Q : XK} (hi : σ[i]? = some (some v)) (hw : Wth K H v d)
    (k : ∀ (dd : Addr) (fs : List (Str × V)) (v' : V) (H' : Hp), Same H H' → H' dd = some (.xd fs) → fs.lookup f = some v' → Dp K H' v' d → Q (.ref C) (some dd) H') : tEMkR C 1 (spErr K C [f] 1) (tCons (tVar i) tNil) σ H Q := by
  refine ⟨v, hi, rfl, fun a ha => ?_⟩
  have s4 : Same H (upd H a (exo a C none)) := Same.new (Same.refl H) ha
  refine ⟨a, [v], [d], rfl, rfl, upd_same, edat1 (hw.mono s4), fun H2 hP => ⟨rfl, ?_⟩⟩
  obtain ⟨hO, hN, hc⟩ := hP
  rcases hc with ⟨hnil, _⟩ | ⟨dx, vs', h1, h2, h0, hne, _, h3⟩
  · cases hnil
  have h0x : H dx = none := by rw [upd_ne hne] at h0; exact h0
  obtain ⟨_, v', q1, q2⟩ := h3 f d lk1
  refine ⟨dx, vs', h1, h2, h0x, k dx vs' v' _ (fun b o hb => ?_) upd_same q1 ?_⟩
  · have nba := ne_of_none hb ha
    have nbd := ne_of_none hb h0x
    rw [upd_ne nbd, del_ne nba]
    exact hO b o nba (by rw [upd_ne nba]; exact hb)
  · refine Dp.tups (H := H2) (fun b xs hb => ?_) (fun b o xs hb => ?_) 1 d v' hw.tu q2
    · rw [upd_ne (fun z => by rw [z, h2] at hb; cases hb), del_ne (fun z => by rw [z, h1] at hb; cases hb)]
      exact hb
    · rw [upd_ne (fun z => by rw [z, h2] at hb; cases hb), del_ne (fun z => by rw [z, h1] at hb; cases hb)]
      exact hb
end Ss
namespace Ss
open PySem L2
section
variable {P : Program} {w : World} {K : PySem.W.Frag} {mg : Str → Option Value} {base : Heap}
abbrev sCaught : Stmt := topS 32
theorem scCaught : FnScope ["some", "told", "e"] ["some"] (defScope sCaught) := ⟨rfl, rfl, rfl, by decide +kernel, rfl, by decide +kernel, by decide +kernel⟩

def spCaught (K : PySem.W.Frag) : Sp := fun vs H Q _ => ∃ (v : V) (d : PyData), vs = [v] ∧ Wth K H v d ∧ ∀ H', Same H H' → Q (.bl true) H'
/-- one try of the law: the error C with the field f is caught under the name c -/
def tbC (K : PySem.W.Frag) (C : Addr) (f : Str) (W : WX) : TS := fun _ σ H => tEMkR C 1 (spErr K C [f] 1) (tCons (tVar 0) tNil) σ H fun cls d H' => W cls d σ H'
def teK (K : PySem.W.Frag) (C : Addr) (f : Str) (a : Addr) (cls : Value) (d : Option Addr) : TE := tOp (rEqD K) (tXf a cls d C f (tVar 2)) (tVar 0)
def teU (K : PySem.W.Frag) (C : Addr) (f : Str) (a : Addr) (cls : Value) (d : Option Addr) : TE := tAndV (tCB (rIsS K a cls d) (tCons (tVar 2) (tCons (tC (.ref C)) tNil))) (teK K C f a cls d)
def rIntB : List V → Hp → VK → Prop := fun xs H Q => (∃ i, xs = [.int i] ∧ Q (.int i) H) ∨ ∃ k, xs = [.bl k] ∧ Q (.int (if k then 1 else 0)) H
def tsC (te : Addr → Value → Option Addr → TE) (a : Addr) (cls : Value) (d : Option Addr) : TS := tAug 1 (tCB rIntB (tCons (te a cls d) tNil)) (ipI fun i j => i + j)
theorem te_k {C : Addr} {f : Str} {ini : String} {v v' : V} {dt : PyData} {a dd : Addr} {fs : List (Str × V)} {σ : L2.St} {H : Hp} {Q : VK} (hs : SeqAt.shaped dt = true) (h0 : σ[0]? = some (some v)) (h2 : σ[2]? = some (some (.ref a)))
    (e1 : H dd = some (.xd fs)) (e2 : fs.lookup f = some v') (e3 : Dp K H v' dt) (e4 : Dp K H v dt) (q : Q (.bl true) H) : teK K C f a (.ref C) (some dd) σ H Q :=
  ⟨.ref a, h2, rfl, rfl, dd, fs, v', rfl, e1, e2, v, h0, dt, dt, e3, e4, hs, hs, by rw [same_data hs]; exact q⟩
theorem try_one {C : Addr} {c : Value} {f : Str} {te : Addr → Value → Option Addr → TE} {n : Int} {v : V} {dt : PyData} {D : Ends} {H : Hp} {x2 : Option V} (hw : Wth K H v dt) (hc : PySem.W.exmOne K (.ref C) c = some true)
    (ht : ∀ (a dd : Addr) (fs : List (Str × V)) (v' : V) (H' : Hp) (σ : L2.St) (Q : VK), σ[0]? = some (some v) → σ[2]? = some (some (.ref a)) → H' dd = some (.xd fs) → fs.lookup f = some v' → Dp K H' v' dt → Dp K H' v dt → Q (.bl true) H' → te a (.ref C) (some dd) σ H' Q)
    (k : ∀ H', Same H H' → D.nx [some v, some (.int (n + 1)), none] H') :
    tbC K C f (wAs K c 2 (tsC te) (fun _ _ _ _ => False) D) D [some v, some (.int n), x2] H := by
  refine emkr_one (i := 0) rfl hw fun dd fs v' H' s h1 h2 h3 => ?_
  refine ⟨true, hc, fun _ a ha => ?_, fun z => Bool.noConfusion z⟩
  refine ⟨.int n, rfl, ?_⟩
  exact ht a dd fs v' H' _ _ rfl rfl h1 h2 h3 (Dp.mono s hw.dp) (.inr ⟨true, rfl, n, 1, rfl, rfl, k H' s⟩)
theorem ok_caught {Cf : Nat → Addr} {S : Addr} (F : DefAt K mg "_law_caught" sCaught) (T : G0 mg) (Z : ETab K mg Cf S) (XU : Er P w K mg base Cf 9 "Unwritten" "ValueError.__init__" ["path"]) (XC : Er P w K mg base Cf 10 "Clash" "ValueError.__init__" ["kind"]) (XN : Er P w K mg base Cf 11 "Unknown" "LookupError.__init__" ["name"])
    (c1 : PySem.W.exmOne K (.ref (Cf 9)) (.ref S) = some true) (c2 : PySem.W.exmOne K (.ref (Cf 10)) (.ref (Cf 10)) = some true) (c3 : PySem.W.exmOne K (.ref (Cf 11)) (.ref (Cf 11)) = some true) : Dk P w K mg base CX0 5 "_law_caught" ["some"] (spCaught K) := by
  obtain ⟨f, fd, F, mf⟩ := F.ex
  refine ⟨f, fd, F.ok scCaught (fun vs H Q E h => ?_) (fun cdv A outer s H vs Q E hr h => ?_), mf, F.kp, F.binds fun _ _ _ _ _ _ us hl => match us, hl with | [_], _ => rfl⟩
  · obtain ⟨v, d, rfl, _⟩ := h; rfl
  · obtain ⟨v, d, rfl, hw, k⟩ := h
    have hP := XU.no "path" (by simp)
    have hK := XC.no "kind" (by simp)
    have hN := XN.no "name" (by simp)
    refine ⟨_, pss_cons (ps_set (i := 1) scCaught.nd rfl (Or.inl rfl) pe_int)
      (pss_cons (ps_try_as (i := 2) (tb := tbC K (Cf 9) "path") (ts := tsC (teU K (Cf 9) "path")) (Wout := fun _ _ _ _ => False) rfl rfl scCaught.nd rfl rfl ⟨rfl, by decide, .inl Z.gS⟩ takes0
        (fun W pn xe tk _ => pss_one (ps_raise rfl tk (pmk_ec XU.d hr (pa_cons (pv 0) pa_nil) rfl (by decide))))
        (fun a oe cls d pn hz hf => pss_one (ps_aug (i := 1) scCaught.nd rfl (Or.inl rfl) (pe_callTy call_int1 (by rfl) T.int (by decide +kernel) (pa_cons (pe_and (pe_callB (call_isS hz hf) (by rfl) T.isinstance (by decide +kernel) (pa_cons (pv 2) (pa_cons (pe_glob (v := .ref (Cf 9)) rfl (Z.g 9 _ rfl) rfl) pa_nil))) (pe_one (pe_cmpR (op_eqD hr.units) (pe_xf XU.ec.xf hP hz hf (pv 2)) (pv 0) (nomark _)))) pa_nil)) ip_add)))
      (pss_cons (ps_try_as (i := 2) (tb := tbC K (Cf 10) "kind") (ts := tsC (teK K (Cf 10) "kind")) (Wout := fun _ _ _ _ => False) rfl rfl scCaught.nd rfl rfl ⟨rfl, by decide, .inl (Z.g 10 _ rfl)⟩ takes0
        (fun W pn xe tk _ => pss_one (ps_raise rfl tk (pmk_ec XC.d hr (pa_cons (pv 0) pa_nil) rfl (by decide))))
        (fun a oe cls d pn hz hf => pss_one (ps_aug (i := 1) scCaught.nd rfl (Or.inl rfl) (pe_callTy call_int1 (by rfl) T.int (by decide +kernel) (pa_cons (pe_cmpR (op_eqD hr.units) (pe_xf XC.ec.xf hK hz hf (pv 2)) (pv 0) (nomark _)) pa_nil)) ip_add)))
      (pss_cons (ps_try_as (i := 2) (tb := tbC K (Cf 11) "name") (ts := tsC (teK K (Cf 11) "name")) (Wout := fun _ _ _ _ => False) rfl rfl scCaught.nd rfl rfl ⟨rfl, by decide, .inl (Z.g 11 _ rfl)⟩ takes0
        (fun W pn xe tk _ => pss_one (ps_raise rfl tk (pmk_ec XN.d hr (pa_cons (pv 0) pa_nil) rfl (by decide))))
        (fun a oe cls d pn hz hf => pss_one (ps_aug (i := 1) scCaught.nd rfl (Or.inl rfl) (pe_callTy call_int1 (by rfl) T.int (by decide +kernel) (pa_cons (pe_cmpR (op_eqD hr.units) (pe_xf XN.ec.xf hN hz hf (pv 2)) (pv 0) (nomark _)) pa_nil)) ip_add)))
      (pss_one (ps_ret (pe_cmpR (op_eq) (pv 1) pe_int (nomark _))))))), ?_⟩
    refine try_one (n := 0) hw c1 (fun a dd fs v' H' σ Q h0 h2 e1 e2 e3 e4 q => ?_) fun H1 s1 => ?_
    · refine ⟨_, h2, Cf 9, _, dd, fs, _, _, true, rfl, rfl, rfl, e1, XU.ec, .own _, ?_, ?_⟩
      · exact Z.own 9 9 (by decide) (by decide)
      · exact ⟨true, rfl, te_k (ini := "") hw.sd h0 h2 e1 e2 e3 e4 q⟩
    refine try_one (n := 1) (hw.mono s1) c2 (fun a dd fs v' H' σ Q h0 h2 e1 e2 e3 e4 q => te_k (ini := "") hw.sd h0 h2 e1 e2 e3 e4 q) fun H2 s2 => ?_
    refine try_one (n := 2) (hw.mono (s1.trans s2)) c3 (fun a dd fs v' H' σ Q h0 h2 e1 e2 e3 e4 q => te_k (ini := "") hw.sd h0 h2 e1 e2 e3 e4 q) fun H3 s3 => ?_
    exact Evl.s_ret (show Evl.Ev _ _ _ (.bl true) from Evl.ev_is (Evl.ev_op (Evl.ev_var rfl) Evl.ev_c (Evl.rv_eq rfl)) (by first | rfl | decide)) fun H' s' => k H' (((s1.trans s2).trans s3).trans s')
end
end Ss
namespace Ss
open PySem L2
theorem nt_bag {H : Hp} {b : Addr} {n : Nat} (h : Bag H b n) : NotTup (H b) := by
  obtain ⟨d, m, c, e, _⟩ := h
  rw [e]
  trivial
theorem Wth.off {K : PySem.W.Frag} {H H' : Hp} {b : Addr} {v : V} {d : PyData} (h : Wth K H v d) (s : Off b H H') (hb : NotTup (H b)) : Wth K H' v d := ⟨Dp.off s hb 1 d v h.tu h.dp, h.tu, h.sd, Shown.off s hb h.sn⟩
/-- what changes at b alone, b new at first, leaves a list as it is -/
theorem sq_keep {K : PySem.W.Frag} {H : Hp} {a b : Addr} {xs : List V} (h : SqL K H a xs) (hb : H b = none) {H1 H2 : Hp} (s : Off b H1 H2) (h1 : SqL K H1 a xs) : SqL K H2 a xs := by
  rcases h with (h | ⟨q, h⟩) | h
  · exact s.seq (fun z => by rw [z, hb] at h; cases h) h1
  · exact s.seq (fun z => by rw [z, hb] at h; cases h) h1
  · exact .inr h
section
variable {P : Program} {w : World} {K : PySem.W.Frag} {mg : Str → Option Value} {base : Heap}
abbrev sLaw1 : Stmt := topS 33
theorem scLaw1 : FnScope ["script", "at", "bag", "some", "more", "other"] ["script"] (defScope sLaw1) := ⟨rfl, rfl, rfl, by decide +kernel, rfl, by decide +kernel, by decide +kernel⟩

def spLaw (K : PySem.W.Frag) : Sp := fun vs H Q _ => ∃ (a : Addr) (ns : List Int), vs = [.ref a] ∧ SqL K H a (ns.map V.int) ∧ ns.length ≤ 63 ∧ ∀ H', Q (.bl true) H'
theorem ok_law {f : Addr} {fd : FuncData} (F : Fun K "law" "law" sLaw1 f fd) (T : G0 mg) (Dbag : Dk P w K mg base CX0 1 "_law_bag" ["script", "at"] (spBag K)) (Dworth : Dk P w K mg base CX0 4 "_law_worth" ["bag"] (spWorth K))
    (D1 : Dk P w K mg base CX0 5 "_law_first" ["some", "more"] (spFirst K)) (D2 : Dk P w K mg base CX0 5 "_law_second" ["some", "more"] (spSecond K)) (D3 : Dk P w K mg base CX0 5 "_law_third" ["some", "more", "other"] (spThird K)) (D4 : Dk P w K mg base CX0 5 "_law_caught" ["some"] (spCaught K)) :
    FnOk P w K mg base CX0 7 f fd ["script"] (spLaw K) := by
  refine F.ok scLaw1 (fun vs H Q E h => ?_) (fun cdv A outer s H vs Q E hr h => ?_)
  · obtain ⟨a, ns, rfl, _⟩ := h; rfl
  · obtain ⟨a, ns, rfl, hS, hl, k⟩ := h
    refine ⟨_, (pss_cons (ps_for PassesOwn.never rfl (pi_range1 (by rfl) T.range (pa_cons (pe_callB (call_max2 rfl) (by rfl) T.max (by decide +kernel) (pa_cons pe_int (pa_cons (pe_callB (call_min2 rfl) (by rfl) T.min (by decide +kernel) (pa_cons pe_int (pa_cons (pe_callB call_len_seq (by rfl) T.len (by decide +kernel) (pa_cons (pv 0) pa_nil)) pa_nil))) pa_nil))) pa_nil)) (pg_name (i := 1) scLaw1.nd rfl (.inl rfl)) (pss_cons (ps_set (i := 2) scLaw1.nd rfl (Or.inl rfl) (pe_cd Dbag hr pass0 (pa_cons (pv 0) (pa_cons (pv 1) pa_nil)))) (pss_cons (ps_par (by rfl) scLaw1.nd rfl rfl (by decide) rfl rfl (pa_cons (pe_cd Dworth hr pass0 (pa_cons (pv 2) pa_nil)) (pa_cons (pe_cd Dworth hr pass0 (pa_cons (pv 2) pa_nil)) pa_nil)) (by rfl) (i := 3) (j := 4)) (pss_cons (ps_set (i := 5) scLaw1.nd rfl (Or.inl rfl) (pe_cd Dworth hr pass0 (pa_cons (pv 2) pa_nil))) (pss_cons (ps_if (PW.pt (pw_or (pt_not (pt_val (pe_cd D1 hr pass0 (pa_cons (pv 3) (pa_cons (pv 4) pa_nil))))) (pw_or (pt_not (pt_val (pe_cd D2 hr pass0 (pa_cons (pv 3) (pa_cons (pv 4) pa_nil))))) (pw_or1 (pt_not (pt_val (pe_cd D3 hr pass0 (pa_cons (pv 3) (pa_cons (pv 4) (pa_cons (pv 5) pa_nil)))))))))) (pss_one (ps_ret pe_bl)) pss_nil) (pss_one (ps_if (pt_not (pt_val (pe_cd D4 hr pass0 (pa_cons (pv 3) pa_nil)))) (pss_one (ps_ret pe_bl)) pss_nil))))))) (pss_one (ps_ret pe_bl))), ?_⟩
    have hN : ∀ (c : Int), c = ((ns.map V.int).length : Int) → 0 ≤ (if (if c < 12 then c else 12) > 1 then (if c < 12 then c else 12) else 1 : Int) ∧ (if (if c < 12 then c else 12) > 1 then (if c < 12 then c else 12) else 1 : Int) ≤ 12 := fun c _ => by
      split <;> split <;> omega
    have hn := hN _ rfl
    refine Evl.q_forR1 (n := if (if ((ns.map V.int).length : Int) < 12 then ((ns.map V.int).length : Int) else 12) > 1 then (if ((ns.map V.int).length : Int) < 12 then ((ns.map V.int).length : Int) else 12) else 1)
      (Evl.ea_cons (Evl.ev_max2 Evl.ev_c (Evl.ev_cb (Evl.ea_cons Evl.ev_c (Evl.ea_cons (Evl.ev_cb (Evl.ea_cons (Evl.ev_var rfl) Evl.ea_nil) (fun H1 s Q q => ⟨a, _, rfl, .inl (Evl.ex_l s hS), q H1 (Evl.Ex.refl H1)⟩)) Evl.ea_nil)) (fun H1 s Q q => ⟨12, _, rfl, q H1 (Evl.Ex.refl H1)⟩))) Evl.ea_nil) ⟨hn.1, by omega⟩
      (fun _ σ' H' => (∃ y1 y2 y3 y4 y5, σ' = [some (.ref a), y1, y2, y3, y4, y5]) ∧ SqL K H' a (ns.map V.int)) (fun H1 s => ⟨⟨_, _, _, _, _, rfl⟩, Evl.ex_l s hS⟩) ?_ ?_
    · rintro i _ H' hi ⟨⟨y1, y2, y3, y4, y5, rfl⟩, hS'⟩
      refine ⟨_, rfl, _, rfl, a, ns, i, rfl, hS', hl, by omega, fun b H1 hb s1 B1 => ?_⟩
      have S1 := Evl.ex_l s1 hS'
      refine ⟨_, rfl, b, 0, rfl, B1, by decide, fun v1 d1 H2 O2 B2 p1 p2 p3 p4 => ?_⟩
      have w1 : Wth K H2 v1 d1 := ⟨p1, p2, p3, p4⟩
      have S2 := sq_keep hS' hb O2 S1
      refine ⟨_, rfl, b, _, rfl, B2, by decide, fun v2 d2 H3 O3 B3 p1 p2 p3 p4 => ?_⟩
      have w2 : Wth K H3 v2 d2 := ⟨p1, p2, p3, p4⟩
      have w1 := w1.off O3 (nt_bag B2)
      have S3 := sq_keep hS' hb O3 S2
      refine ⟨_, _, rfl, _, rfl, b, _, rfl, B3, by decide, fun v3 d3 H4 O4 B4 p1 p2 p3 p4 => ?_⟩
      have w3 : Wth K H4 v3 d3 := ⟨p1, p2, p3, p4⟩
      have w1 := w1.off O4 (nt_bag B3)
      have w2 := w2.off O4 (nt_bag B3)
      have S4 := sq_keep hS' hb O4 S3
      refine Evl.q_when (b := false) (Evl.et_is (Evl.et_or (Evl.et_not (Evl.et_B (Evl.ev_call (Evl.ea_cons (Evl.ev_var rfl) (Evl.ea_cons (Evl.ev_var rfl) Evl.ea_nil)) fun H5 s5 Q q _ => ⟨v1, d1, v2, d2, rfl, w1.mono s5, w2.mono s5, fun H6 s6 => q H6 s6⟩))) fun _ =>
        (Evl.et_or (Evl.et_not (Evl.et_B (Evl.ev_call (Evl.ea_cons (Evl.ev_var rfl) (Evl.ea_cons (Evl.ev_var rfl) Evl.ea_nil)) fun H5 s5 Q q _ => ⟨v1, d1, v2, d2, rfl, w1.mono s5, w2.mono s5, fun H6 s6 => q H6 s6⟩))) fun _ =>
          (Evl.et_not (Evl.et_B (Evl.ev_call (Evl.ea_cons (Evl.ev_var rfl) (Evl.ea_cons (Evl.ev_var rfl) (Evl.ea_cons (Evl.ev_var rfl) Evl.ea_nil))) fun H5 s5 Q q _ => ⟨v1, d1, v2, d2, v3, d3, rfl, w1.mono s5, w2.mono s5, w3.mono s5, fun H6 s6 => q H6 s6⟩))))) rfl) (fun e => Bool.noConfusion e) fun _ H5 s5 => ?_
      refine Evl.s_when (b := false) (Evl.et_is (Evl.et_not (Evl.et_B (Evl.ev_call (Evl.ea_cons (Evl.ev_var rfl) Evl.ea_nil) fun H6 s6 Q q _ => ⟨v1, d1, rfl, (w1.mono s5).mono s6, fun H7 s7 => q H7 s7⟩))) rfl) (fun e => Bool.noConfusion e) fun _ H6 s6 => ?_
      exact ⟨⟨_, _, _, _, _, rfl⟩, Evl.ex_l (s5.trans s6) S4⟩
    · rintro _ H' ⟨⟨y1, y2, y3, y4, y5, rfl⟩, hS'⟩
      exact Evl.s_ret Evl.ev_c fun H1 s1 => k H1
end
end Ss
namespace Ss
open PySem L2 PyProof.Rows
/-- what an error class is asked for, in one word -/
def topB (K : PySem.W.Frag) (C : Addr) (fs : List Str) : Bool :=
  PySem.W.findIn K (.ref C) "__setattr__" == some (some (.builtin "object.__setattr__")) && (PySem.W.findIn K (.ref C) "__getattribute__" == some (some (.builtin "BaseException.__getattribute__")) && (PySem.W.findIn K (.ref C) "__getattr__" == some none &&
  (PySem.W.subIn K (.ref C) (.type "BaseException") == some true && (PySem.W.typeIn K (.ref C) == some (.type "type") && (PySem.W.hasDictIn K C && (PySem.W.keepIn K (.ref C) && (PySem.W.findIn K (.ref C) "__class__" == some (some (.builtin "object.__class__")) &&
  (PySem.W.specialIn K (.builtin "object.__class__") "__get__" == some (some (.builtin "getset_descriptor.__get__")) && (PySem.W.takesIn K (.builtin "object.__class__") == some true && (PySem.W.mroIn K C (.type "object") == some true && fs.all fun f => PySem.W.findIn K (.ref C) f == some none))))))))))
theorem topB_ok {K : PySem.W.Frag} {C : Addr} {fs : List Str} (h : topB K C fs = true) : PySem.W.findIn K (.ref C) "__setattr__" = some (some (.builtin "object.__setattr__")) ∧ PySem.W.findIn K (.ref C) "__getattribute__" = some (some (.builtin "BaseException.__getattribute__")) ∧ PySem.W.findIn K (.ref C) "__getattr__" = some none ∧
  PySem.W.subIn K (.ref C) (.type "BaseException") = some true ∧ PySem.W.typeIn K (.ref C) = some (.type "type") ∧ PySem.W.hasDictIn K C = true ∧ PySem.W.keepIn K (.ref C) = true ∧ PySem.W.findIn K (.ref C) "__class__" = some (some (.builtin "object.__class__")) ∧
  PySem.W.specialIn K (.builtin "object.__class__") "__get__" = some (some (.builtin "getset_descriptor.__get__")) ∧ PySem.W.takesIn K (.builtin "object.__class__") = some true ∧ PySem.W.mroIn K C (.type "object") = some true ∧ ∀ f ∈ fs, PySem.W.findIn K (.ref C) f = some none := by
  simp only [topB, Bool.and_eq_true, beq_iff_eq, List.all_eq_true] at h
  obtain ⟨h1, h2, h3, h4, h5, h6, h7, h8, h9, h10, h11, h12⟩ := h
  exact ⟨h1, h2, h3, h4, h5, h6, h7, h8, h9, h10, h11, h12⟩
theorem etop_S {K : PySem.W.Frag} {h : Heap} {mg : Str → Option Value} {x qual : Str} {C S fI : Addr} {st : Stmt} {fs : List Str} {nm q N bs bm sn sub ab col dd k0 k1 k2 k3 k5} {oc : Value} {od an : Option Addr} {osl : Array (Option Value)} {kV doc pm cdv ct : Value} (X : K.In h) (G : h.Ns mainGlobals mg)
    (a : PySem.W.nsIn K mainGlobals x = some (some (.ref C))) (l : K.lookup C = some (excClassObj nm q C N bs bm true sn sub ab col dd k0 k1 k2 k3 k5 "ValueError.__new__")) (hb : bm = [.ref S, .type "ValueError", .type "Exception", .type "BaseException", .type "object"])
    (e : topB K C fs = true) (i : PySem.W.findIn K (.ref C) "__init__" = some (some (.ref fI))) (lf : K.lookup fI = some ⟨oc, od, .func (PySem.W.fnOf "__init__" qual (defArgs st) (defBody st) (defScope st) .none kV doc pm an cdv ct), osl⟩) (c : PySem.W.codeIn K cdv qual = true) (kf : PySem.W.keepIn K (.ref fI) = true) (tf : PySem.W.isFn K (.ref fI) = true) :
    EAtop K mg x qual C "ValueError.__init__" fs st := by
  subst hb
  have T := topB_ok e
  exact ⟨⟨⟨_, _, _, _, _, _, _, _, _, _, _, _, _, _, _, _, _, _, PySem.F.excBase_ValueError, l, fun Y => by rw [List.contains_cons]; rfl, (SsE.Order.cons SsE.order_VE S)⟩, T.1, T.2.1, T.2.2.1, T.2.2.2.1, T.2.2.2.2.1, T.2.2.2.2.2.1, T.2.2.2.2.2.2.1, T.2.2.2.2.2.2.2.1, T.2.2.2.2.2.2.2.2.1, T.2.2.2.2.2.2.2.2.2.1, T.2.2.2.2.2.2.2.2.2.2.1⟩, PySem.W.mg_of X G a, ⟨fI, _, i, of_decide_eq_true (by simpa [PySem.W.isFn] using tf), fun_mk lf c kf⟩, T.2.2.2.2.2.2.2.2.2.2.2⟩
theorem etop_L {K : PySem.W.Frag} {h : Heap} {mg : Str → Option Value} {x qual : Str} {C fI : Addr} {st : Stmt} {fs : List Str} {nm q N bs bm sn sub ab col dd k0 k1 k2 k3 k5} {oc : Value} {od an : Option Addr} {osl : Array (Option Value)} {kV doc pm cdv ct : Value} (X : K.In h) (G : h.Ns mainGlobals mg)
    (a : PySem.W.nsIn K mainGlobals x = some (some (.ref C))) (l : K.lookup C = some (excClassObj nm q C N bs bm true sn sub ab col dd k0 k1 k2 k3 k5 "LookupError.__new__")) (hb : bm = [.type "LookupError", .type "Exception", .type "BaseException", .type "object"])
    (e : topB K C fs = true) (i : PySem.W.findIn K (.ref C) "__init__" = some (some (.ref fI))) (lf : K.lookup fI = some ⟨oc, od, .func (PySem.W.fnOf "__init__" qual (defArgs st) (defBody st) (defScope st) .none kV doc pm an cdv ct), osl⟩) (c : PySem.W.codeIn K cdv qual = true) (kf : PySem.W.keepIn K (.ref fI) = true) (tf : PySem.W.isFn K (.ref fI) = true) :
    EAtop K mg x qual C "LookupError.__init__" fs st := by
  subst hb
  have T := topB_ok e
  exact ⟨⟨⟨_, _, _, _, _, _, _, _, _, _, _, _, _, _, _, _, _, _, PySem.F.excBase_LookupError, l, fun Y => rfl, SsE.order_LE⟩, T.1, T.2.1, T.2.2.1, T.2.2.2.1, T.2.2.2.2.1, T.2.2.2.2.2.1, T.2.2.2.2.2.2.1, T.2.2.2.2.2.2.2.1, T.2.2.2.2.2.2.2.2.1, T.2.2.2.2.2.2.2.2.2.1, T.2.2.2.2.2.2.2.2.2.2.1⟩, PySem.W.mg_of X G a, ⟨fI, _, i, of_decide_eq_true (by simpa [PySem.W.isFn] using tf), fun_mk lf c kf⟩, T.2.2.2.2.2.2.2.2.2.2.2⟩
theorem etop_R {K : PySem.W.Frag} {h : Heap} {mg : Str → Option Value} {x qual : Str} {C fI : Addr} {st : Stmt} {fs : List Str} {nm q N bs bm sn sub ab col dd k0 k1 k2 k3 k5} {oc : Value} {od an : Option Addr} {osl : Array (Option Value)} {kV doc pm cdv ct : Value} (X : K.In h) (G : h.Ns mainGlobals mg)
    (a : PySem.W.nsIn K mainGlobals x = some (some (.ref C))) (l : K.lookup C = some (excClassObj nm q C N bs bm true sn sub ab col dd k0 k1 k2 k3 k5 "RuntimeError.__new__")) (hb : bm = [.type "RuntimeError", .type "Exception", .type "BaseException", .type "object"])
    (e : topB K C fs = true) (i : PySem.W.findIn K (.ref C) "__init__" = some (some (.ref fI))) (lf : K.lookup fI = some ⟨oc, od, .func (PySem.W.fnOf "__init__" qual (defArgs st) (defBody st) (defScope st) .none kV doc pm an cdv ct), osl⟩) (c : PySem.W.codeIn K cdv qual = true) (kf : PySem.W.keepIn K (.ref fI) = true) (tf : PySem.W.isFn K (.ref fI) = true) :
    EAtop K mg x qual C "RuntimeError.__init__" fs st := by
  subst hb
  have T := topB_ok e
  exact ⟨⟨⟨_, _, _, _, _, _, _, _, _, _, _, _, _, _, _, _, _, _, PySem.F.excBase_RuntimeError, l, fun Y => rfl, SsE.order_RE⟩, T.1, T.2.1, T.2.2.1, T.2.2.2.1, T.2.2.2.2.1, T.2.2.2.2.2.1, T.2.2.2.2.2.2.1, T.2.2.2.2.2.2.2.1, T.2.2.2.2.2.2.2.2.1, T.2.2.2.2.2.2.2.2.2.1, T.2.2.2.2.2.2.2.2.2.2.1⟩, PySem.W.mg_of X G a, ⟨fI, _, i, of_decide_eq_true (by simpa [PySem.W.isFn] using tf), fun_mk lf c kf⟩, T.2.2.2.2.2.2.2.2.2.2.2⟩

end Ss
namespace Ss
open PySem L2 PyProof.Rows
/-- the classes of the errors, one against the other -/
def tabB (K : PySem.W.Frag) (cs : List Addr) (S : Addr) : Bool :=
  ((List.range 16).all fun i => ((List.range 16).all fun j => PySem.W.kitOne K (.ref (cs.getD i 0)) (.ref (cs.getD j 0)) == some (decide (i = j))) && PySem.W.kitOne K (.ref (cs.getD i 0)) (.ref S) == some (decide (i < 11)) &&
    PySem.W.kitOne K (.ref (cs.getD i 0)) (.type "ValueError") == some (decide (i < 11)) && PySem.W.kitOne K (.ref (cs.getD i 0)) (.type "LookupError") == some (decide (11 ≤ i ∧ i < 14)) && PySem.W.kitOne K (.ref (cs.getD i 0)) (.type "RuntimeError") == some (decide (14 ≤ i))) &&
  (PySem.W.exmOne K (.ref (cs.getD 9 0)) (.ref S) == some true && PySem.W.exmOne K (.ref (cs.getD 10 0)) (.ref (cs.getD 10 0)) == some true && PySem.W.exmOne K (.ref (cs.getD 11 0)) (.ref (cs.getD 11 0)) == some true)
theorem etab_of {K : PySem.W.Frag} {mg : Str → Option Value} {cs : List Addr} {S : Addr} (h : tabB K cs S = true) (g : ∀ i x, eNames[i]? = some x → mg x = some (.ref (cs.getD i 0))) (gS : mg "SlipError" = some (.ref S)) (ec : ∀ i, i < 16 → ∃ ini, EC K (cs.getD i 0) ini) (bv : mg "ValueError" = none) (bl : mg "LookupError" = none) (br : mg "RuntimeError" = none) :
    ETab K mg (fun i => cs.getD i 0) S ∧ PySem.W.exmOne K (.ref (cs.getD 9 0)) (.ref S) = some true ∧ PySem.W.exmOne K (.ref (cs.getD 10 0)) (.ref (cs.getD 10 0)) = some true ∧ PySem.W.exmOne K (.ref (cs.getD 11 0)) (.ref (cs.getD 11 0)) = some true := by
  simp only [tabB, Bool.and_eq_true, List.all_eq_true, List.mem_range, beq_iff_eq] at h
  obtain ⟨h, ⟨c1, c2⟩, c3⟩ := h
  exact ⟨⟨g, gS, ec, fun i j hi hj => (h i hi).1.1.1.1 j hj, fun i hi => (h i hi).1.1.1.2, fun i hi => (h i hi).1.1.2, fun i hi => (h i hi).1.2, fun i hi => (h i hi).2, bv, bl, br⟩, c1, c2, c3⟩
/-- the built-in names that the text leaves as they are -/
def noB (K : PySem.W.Frag) : Bool := (["len", "abs", "int", "range", "tuple", "list", "str", "isinstance", "sorted", "set", "enumerate", "max", "min", "sum", "ValueError", "LookupError", "RuntimeError"] : List Str).all fun x => PySem.W.nsIn K mainGlobals x == some none
theorem noB_ok {K : PySem.W.Frag} {h : Heap} {mg : Str → Option Value} (X : K.In h) (G : h.Ns mainGlobals mg) (e : noB K = true) : G0 mg ∧ mg "ValueError" = none ∧ mg "LookupError" = none ∧ mg "RuntimeError" = none := by
  simp only [noB, List.all_cons, List.all_nil, Bool.and_eq_true, beq_iff_eq, and_true] at e
  obtain ⟨e1, e2, e3, e4, e5, e6, e7, e8, e9, e10, e11, e12, e13, e14, e15, e16, e17⟩ := e
  exact ⟨⟨PySem.W.mg_none_of X G e1, PySem.W.mg_none_of X G e2, PySem.W.mg_none_of X G e3, PySem.W.mg_none_of X G e4, PySem.W.mg_none_of X G e5, PySem.W.mg_none_of X G e6, PySem.W.mg_none_of X G e7, PySem.W.mg_none_of X G e8, PySem.W.mg_none_of X G e9, PySem.W.mg_none_of X G e10, PySem.W.mg_none_of X G e11, PySem.W.mg_none_of X G e12, PySem.W.mg_none_of X G e13, PySem.W.mg_none_of X G e14⟩, PySem.W.mg_none_of X G e15, PySem.W.mg_none_of X G e16, PySem.W.mg_none_of X G e17⟩
theorem all_mk {l : PySem.W.OpenLaw} {w : World} {K : PySem.W.Frag} {h : Heap} {mg : Str → Option Value} {fa S : Addr}
    {fd0 : Addr} {od0 an0 : Option Addr} {sl0 : Array (Option Value)} {oc0 kV0 dc0 pm0 cd0 ct0 : Value}
    {fd1 : Addr} {od1 an1 : Option Addr} {sl1 : Array (Option Value)} {oc1 kV1 dc1 pm1 cd1 ct1 : Value}
    {fd2 : Addr} {od2 an2 : Option Addr} {sl2 : Array (Option Value)} {oc2 kV2 dc2 pm2 cd2 ct2 : Value}
    {fd3 : Addr} {od3 an3 : Option Addr} {sl3 : Array (Option Value)} {oc3 kV3 dc3 pm3 cd3 ct3 : Value}
    {fd4 : Addr} {od4 an4 : Option Addr} {sl4 : Array (Option Value)} {oc4 kV4 dc4 pm4 cd4 ct4 : Value}
    {fd5 : Addr} {od5 an5 : Option Addr} {sl5 : Array (Option Value)} {oc5 kV5 dc5 pm5 cd5 ct5 : Value}
    {fd6 : Addr} {od6 an6 : Option Addr} {sl6 : Array (Option Value)} {oc6 kV6 dc6 pm6 cd6 ct6 : Value}
    {fd7 : Addr} {od7 an7 : Option Addr} {sl7 : Array (Option Value)} {oc7 kV7 dc7 pm7 cd7 ct7 : Value}
    {fd8 : Addr} {od8 an8 : Option Addr} {sl8 : Array (Option Value)} {oc8 kV8 dc8 pm8 cd8 ct8 : Value}
    {fd9 : Addr} {od9 an9 : Option Addr} {sl9 : Array (Option Value)} {oc9 kV9 dc9 pm9 cd9 ct9 : Value}
    {fd10 : Addr} {od10 an10 : Option Addr} {sl10 : Array (Option Value)} {oc10 kV10 dc10 pm10 cd10 ct10 : Value}
    {fd11 : Addr} {od11 an11 : Option Addr} {sl11 : Array (Option Value)} {oc11 kV11 dc11 pm11 cd11 ct11 : Value}
    {fd12 : Addr} {od12 an12 : Option Addr} {sl12 : Array (Option Value)} {oc12 kV12 dc12 pm12 cd12 ct12 : Value}
    {fd13 : Addr} {od13 an13 : Option Addr} {sl13 : Array (Option Value)} {oc13 kV13 dc13 pm13 cd13 ct13 : Value}
    {fd14 : Addr} {od14 an14 : Option Addr} {sl14 : Array (Option Value)} {oc14 kV14 dc14 pm14 cd14 ct14 : Value}
    {C0 fe0 : Addr} {nm0 q0 N0 bs0 bm0 sn0 sub0 ab0 col0 dd0 ka0 kb0 kc0 kd0 ke0} {oe0 : Value} {ode0 ane0 : Option Addr} {sle0 : Array (Option Value)} {kVe0 dce0 pme0 cde0 cte0 : Value}
    {C1 fe1 : Addr} {nm1 q1 N1 bs1 bm1 sn1 sub1 ab1 col1 dd1 ka1 kb1 kc1 kd1 ke1} {oe1 : Value} {ode1 ane1 : Option Addr} {sle1 : Array (Option Value)} {kVe1 dce1 pme1 cde1 cte1 : Value}
    {C2 fe2 : Addr} {nm2 q2 N2 bs2 bm2 sn2 sub2 ab2 col2 dd2 ka2 kb2 kc2 kd2 ke2} {oe2 : Value} {ode2 ane2 : Option Addr} {sle2 : Array (Option Value)} {kVe2 dce2 pme2 cde2 cte2 : Value}
    {C3 fe3 : Addr} {nm3 q3 N3 bs3 bm3 sn3 sub3 ab3 col3 dd3 ka3 kb3 kc3 kd3 ke3} {oe3 : Value} {ode3 ane3 : Option Addr} {sle3 : Array (Option Value)} {kVe3 dce3 pme3 cde3 cte3 : Value}
    {C4 fe4 : Addr} {nm4 q4 N4 bs4 bm4 sn4 sub4 ab4 col4 dd4 ka4 kb4 kc4 kd4 ke4} {oe4 : Value} {ode4 ane4 : Option Addr} {sle4 : Array (Option Value)} {kVe4 dce4 pme4 cde4 cte4 : Value}
    {C5 fe5 : Addr} {nm5 q5 N5 bs5 bm5 sn5 sub5 ab5 col5 dd5 ka5 kb5 kc5 kd5 ke5} {oe5 : Value} {ode5 ane5 : Option Addr} {sle5 : Array (Option Value)} {kVe5 dce5 pme5 cde5 cte5 : Value}
    {C6 fe6 : Addr} {nm6 q6 N6 bs6 bm6 sn6 sub6 ab6 col6 dd6 ka6 kb6 kc6 kd6 ke6} {oe6 : Value} {ode6 ane6 : Option Addr} {sle6 : Array (Option Value)} {kVe6 dce6 pme6 cde6 cte6 : Value}
    {C7 fe7 : Addr} {nm7 q7 N7 bs7 bm7 sn7 sub7 ab7 col7 dd7 ka7 kb7 kc7 kd7 ke7} {oe7 : Value} {ode7 ane7 : Option Addr} {sle7 : Array (Option Value)} {kVe7 dce7 pme7 cde7 cte7 : Value}
    {C8 fe8 : Addr} {nm8 q8 N8 bs8 bm8 sn8 sub8 ab8 col8 dd8 ka8 kb8 kc8 kd8 ke8} {oe8 : Value} {ode8 ane8 : Option Addr} {sle8 : Array (Option Value)} {kVe8 dce8 pme8 cde8 cte8 : Value}
    {C9 fe9 : Addr} {nm9 q9 N9 bs9 bm9 sn9 sub9 ab9 col9 dd9 ka9 kb9 kc9 kd9 ke9} {oe9 : Value} {ode9 ane9 : Option Addr} {sle9 : Array (Option Value)} {kVe9 dce9 pme9 cde9 cte9 : Value}
    {C10 fe10 : Addr} {nm10 q10 N10 bs10 bm10 sn10 sub10 ab10 col10 dd10 ka10 kb10 kc10 kd10 ke10} {oe10 : Value} {ode10 ane10 : Option Addr} {sle10 : Array (Option Value)} {kVe10 dce10 pme10 cde10 cte10 : Value}
    {C11 fe11 : Addr} {nm11 q11 N11 bs11 bm11 sn11 sub11 ab11 col11 dd11 ka11 kb11 kc11 kd11 ke11} {oe11 : Value} {ode11 ane11 : Option Addr} {sle11 : Array (Option Value)} {kVe11 dce11 pme11 cde11 cte11 : Value}
    {C12 fe12 : Addr} {nm12 q12 N12 bs12 bm12 sn12 sub12 ab12 col12 dd12 ka12 kb12 kc12 kd12 ke12} {oe12 : Value} {ode12 ane12 : Option Addr} {sle12 : Array (Option Value)} {kVe12 dce12 pme12 cde12 cte12 : Value}
    {C13 fe13 : Addr} {nm13 q13 N13 bs13 bm13 sn13 sub13 ab13 col13 dd13 ka13 kb13 kc13 kd13 ke13} {oe13 : Value} {ode13 ane13 : Option Addr} {sle13 : Array (Option Value)} {kVe13 dce13 pme13 cde13 cte13 : Value}
    {C14 fe14 : Addr} {nm14 q14 N14 bs14 bm14 sn14 sub14 ab14 col14 dd14 ka14 kb14 kc14 kd14 ke14} {oe14 : Value} {ode14 ane14 : Option Addr} {sle14 : Array (Option Value)} {kVe14 dce14 pme14 cde14 cte14 : Value}
    {C15 fe15 : Addr} {nm15 q15 N15 bs15 bm15 sn15 sub15 ab15 col15 dd15 ka15 kb15 kc15 kd15 ke15} {oe15 : Value} {ode15 ane15 : Option Addr} {sle15 : Array (Option Value)} {kVe15 dce15 pme15 cde15 cte15 : Value}
    (X : K.In h) (G : h.Ns mainGlobals mg) (hfa : mg "law" = some (.ref fa))
    (da0 : PySem.W.nsIn K mainGlobals "_law_bag" = some (some (.ref fd0))) (dl0 : K.lookup fd0 = some ⟨oc0, od0, .func (PySem.W.fnOf "_law_bag" "_law_bag" (defArgs sBag) (defBody sBag) (defScope sBag) .none kV0 dc0 pm0 an0 cd0 ct0), sl0⟩) (dc_0 : PySem.W.codeIn K cd0 "_law_bag" = true) (dk0 : PySem.W.keepIn K (.ref fd0) = true)
    (da1 : PySem.W.nsIn K mainGlobals "_law_take" = some (some (.ref fd1))) (dl1 : K.lookup fd1 = some ⟨oc1, od1, .func (PySem.W.fnOf "_law_take" "_law_take" (defArgs sTake) (defBody sTake) (defScope sTake) .none kV1 dc1 pm1 an1 cd1 ct1), sl1⟩) (dc_1 : PySem.W.codeIn K cd1 "_law_take" = true) (dk1 : PySem.W.keepIn K (.ref fd1) = true)
    (da2 : PySem.W.nsIn K mainGlobals "_law_of" = some (some (.ref fd2))) (dl2 : K.lookup fd2 = some ⟨oc2, od2, .func (PySem.W.fnOf "_law_of" "_law_of" (defArgs sOf) (defBody sOf) (defScope sOf) .none kV2 dc2 pm2 an2 cd2 ct2), sl2⟩) (dc_2 : PySem.W.codeIn K cd2 "_law_of" = true) (dk2 : PySem.W.keepIn K (.ref fd2) = true)
    (da3 : PySem.W.nsIn K mainGlobals "_law_signs" = some (some (.ref fd3))) (dl3 : K.lookup fd3 = some ⟨oc3, od3, .func (PySem.W.fnOf "_law_signs" "_law_signs" (defArgs sSigns) (defBody sSigns) (defScope sSigns) .none kV3 dc3 pm3 an3 cd3 ct3), sl3⟩) (dc_3 : PySem.W.codeIn K cd3 "_law_signs" = true) (dk3 : PySem.W.keepIn K (.ref fd3) = true)
    (da4 : PySem.W.nsIn K mainGlobals "_law_token" = some (some (.ref fd4))) (dl4 : K.lookup fd4 = some ⟨oc4, od4, .func (PySem.W.fnOf "_law_token" "_law_token" (defArgs sToken) (defBody sToken) (defScope sToken) .none kV4 dc4 pm4 an4 cd4 ct4), sl4⟩) (dc_4 : PySem.W.codeIn K cd4 "_law_token" = true) (dk4 : PySem.W.keepIn K (.ref fd4) = true)
    (da5 : PySem.W.nsIn K mainGlobals "_law_name" = some (some (.ref fd5))) (dl5 : K.lookup fd5 = some ⟨oc5, od5, .func (PySem.W.fnOf "_law_name" "_law_name" (defArgs sName) (defBody sName) (defScope sName) .none kV5 dc5 pm5 an5 cd5 ct5), sl5⟩) (dc_5 : PySem.W.codeIn K cd5 "_law_name" = true) (dk5 : PySem.W.keepIn K (.ref fd5) = true)
    (da6 : PySem.W.nsIn K mainGlobals "_law_worth" = some (some (.ref fd6))) (dl6 : K.lookup fd6 = some ⟨oc6, od6, .func (PySem.W.fnOf "_law_worth" "_law_worth" (defArgs sWorth) (defBody sWorth) (defScope sWorth) .none kV6 dc6 pm6 an6 cd6 ct6), sl6⟩) (dc_6 : PySem.W.codeIn K cd6 "_law_worth" = true) (dk6 : PySem.W.keepIn K (.ref fd6) = true)
    (da7 : PySem.W.nsIn K mainGlobals "_law_classes" = some (some (.ref fd7))) (dl7 : K.lookup fd7 = some ⟨oc7, od7, .func (PySem.W.fnOf "_law_classes" "_law_classes" (defArgs sClasses) (defBody sClasses) (defScope sClasses) .none kV7 dc7 pm7 an7 cd7 ct7), sl7⟩) (dc_7 : PySem.W.codeIn K cd7 "_law_classes" = true) (dk7 : PySem.W.keepIn K (.ref fd7) = true)
    (da8 : PySem.W.nsIn K mainGlobals "_law_is" = some (some (.ref fd8))) (dl8 : K.lookup fd8 = some ⟨oc8, od8, .func (PySem.W.fnOf "_law_is" "_law_is" (defArgs sIs) (defBody sIs) (defScope sIs) .none kV8 dc8 pm8 an8 cd8 ct8), sl8⟩) (dc_8 : PySem.W.codeIn K cd8 "_law_is" = true) (dk8 : PySem.W.keepIn K (.ref fd8) = true)
    (da9 : PySem.W.nsIn K mainGlobals "_law_first" = some (some (.ref fd9))) (dl9 : K.lookup fd9 = some ⟨oc9, od9, .func (PySem.W.fnOf "_law_first" "_law_first" (defArgs sFirst) (defBody sFirst) (defScope sFirst) .none kV9 dc9 pm9 an9 cd9 ct9), sl9⟩) (dc_9 : PySem.W.codeIn K cd9 "_law_first" = true) (dk9 : PySem.W.keepIn K (.ref fd9) = true)
    (da10 : PySem.W.nsIn K mainGlobals "_law_second" = some (some (.ref fd10))) (dl10 : K.lookup fd10 = some ⟨oc10, od10, .func (PySem.W.fnOf "_law_second" "_law_second" (defArgs sSecond) (defBody sSecond) (defScope sSecond) .none kV10 dc10 pm10 an10 cd10 ct10), sl10⟩) (dc_10 : PySem.W.codeIn K cd10 "_law_second" = true) (dk10 : PySem.W.keepIn K (.ref fd10) = true)
    (da11 : PySem.W.nsIn K mainGlobals "_law_third" = some (some (.ref fd11))) (dl11 : K.lookup fd11 = some ⟨oc11, od11, .func (PySem.W.fnOf "_law_third" "_law_third" (defArgs sThird) (defBody sThird) (defScope sThird) .none kV11 dc11 pm11 an11 cd11 ct11), sl11⟩) (dc_11 : PySem.W.codeIn K cd11 "_law_third" = true) (dk11 : PySem.W.keepIn K (.ref fd11) = true)
    (da12 : PySem.W.nsIn K mainGlobals "_law_caught" = some (some (.ref fd12))) (dl12 : K.lookup fd12 = some ⟨oc12, od12, .func (PySem.W.fnOf "_law_caught" "_law_caught" (defArgs sCaught) (defBody sCaught) (defScope sCaught) .none kV12 dc12 pm12 an12 cd12 ct12), sl12⟩) (dc_12 : PySem.W.codeIn K cd12 "_law_caught" = true) (dk12 : PySem.W.keepIn K (.ref fd12) = true)
    (da13 : PySem.W.nsIn K mainGlobals "kept" = some (some (.ref fd13))) (dl13 : K.lookup fd13 = some ⟨oc13, od13, .func (PySem.W.fnOf "kept" "kept" (defArgs sKept) (defBody sKept) (defScope sKept) .none kV13 dc13 pm13 an13 cd13 ct13), sl13⟩) (dc_13 : PySem.W.codeIn K cd13 "kept" = true) (dk13 : PySem.W.keepIn K (.ref fd13) = true)
    (da14 : PySem.W.nsIn K mainGlobals "law" = some (some (.ref fd14))) (dl14 : K.lookup fd14 = some ⟨oc14, od14, .func (PySem.W.fnOf "law" "law" (defArgs sLaw1) (defBody sLaw1) (defScope sLaw1) .none kV14 dc14 pm14 an14 cd14 ct14), sl14⟩) (dc_14 : PySem.W.codeIn K cd14 "law" = true) (dk14 : PySem.W.keepIn K (.ref fd14) = true)
    (ea0 : PySem.W.nsIn K mainGlobals "BadCount" = some (some (.ref C0))) (el0 : K.lookup C0 = some (excClassObj nm0 q0 C0 N0 bs0 bm0 true sn0 sub0 ab0 col0 dd0 ka0 kb0 kc0 kd0 ke0 "ValueError.__new__")) (eb0 : bm0 = [.ref S, .type "ValueError", .type "Exception", .type "BaseException", .type "object"]) (et0 : topB K C0 ["count"] = true) (ei0 : PySem.W.findIn K (.ref C0) "__init__" = some (some (.ref fe0))) (ef0 : K.lookup fe0 = some ⟨oe0, ode0, .func (PySem.W.fnOf "__init__" "BadCount.__init__" (defArgs sBadCount) (defBody sBadCount) (defScope sBadCount) .none kVe0 dce0 pme0 ane0 cde0 cte0), sle0⟩) (eco0 : PySem.W.codeIn K cde0 "BadCount.__init__" = true) (ek0 : PySem.W.keepIn K (.ref fe0) = true) (eu0 : PySem.W.isFn K (.ref fe0) = true)
    (ea1 : PySem.W.nsIn K mainGlobals "BadBook" = some (some (.ref C1))) (el1 : K.lookup C1 = some (excClassObj nm1 q1 C1 N1 bs1 bm1 true sn1 sub1 ab1 col1 dd1 ka1 kb1 kc1 kd1 ke1 "ValueError.__new__")) (eb1 : bm1 = [.ref S, .type "ValueError", .type "Exception", .type "BaseException", .type "object"]) (et1 : topB K C1 ["what", "worth"] = true) (ei1 : PySem.W.findIn K (.ref C1) "__init__" = some (some (.ref fe1))) (ef1 : K.lookup fe1 = some ⟨oe1, ode1, .func (PySem.W.fnOf "__init__" "BadBook.__init__" (defArgs sBadBook) (defBody sBadBook) (defScope sBadBook) .none kVe1 dce1 pme1 ane1 cde1 cte1), sle1⟩) (eco1 : PySem.W.codeIn K cde1 "BadBook.__init__" = true) (ek1 : PySem.W.keepIn K (.ref fe1) = true) (eu1 : PySem.W.isFn K (.ref fe1) = true)
    (ea2 : PySem.W.nsIn K mainGlobals "Ambiguous" = some (some (.ref C2))) (el2 : K.lookup C2 = some (excClassObj nm2 q2 C2 N2 bs2 bm2 true sn2 sub2 ab2 col2 dd2 ka2 kb2 kc2 kd2 ke2 "ValueError.__new__")) (eb2 : bm2 = [.ref S, .type "ValueError", .type "Exception", .type "BaseException", .type "object"]) (et2 : topB K C2 ["form", "row"] = true) (ei2 : PySem.W.findIn K (.ref C2) "__init__" = some (some (.ref fe2))) (ef2 : K.lookup fe2 = some ⟨oe2, ode2, .func (PySem.W.fnOf "__init__" "Ambiguous.__init__" (defArgs sAmbiguous) (defBody sAmbiguous) (defScope sAmbiguous) .none kVe2 dce2 pme2 ane2 cde2 cte2), sle2⟩) (eco2 : PySem.W.codeIn K cde2 "Ambiguous.__init__" = true) (ek2 : PySem.W.keepIn K (.ref fe2) = true) (eu2 : PySem.W.isFn K (.ref fe2) = true)
    (ea3 : PySem.W.nsIn K mainGlobals "Unwritable" = some (some (.ref C3))) (el3 : K.lookup C3 = some (excClassObj nm3 q3 C3 N3 bs3 bm3 true sn3 sub3 ab3 col3 dd3 ka3 kb3 kc3 kd3 ke3 "ValueError.__new__")) (eb3 : bm3 = [.ref S, .type "ValueError", .type "Exception", .type "BaseException", .type "object"]) (et3 : topB K C3 ["kind"] = true) (ei3 : PySem.W.findIn K (.ref C3) "__init__" = some (some (.ref fe3))) (ef3 : K.lookup fe3 = some ⟨oe3, ode3, .func (PySem.W.fnOf "__init__" "Unwritable.__init__" (defArgs sUnwritable) (defBody sUnwritable) (defScope sUnwritable) .none kVe3 dce3 pme3 ane3 cde3 cte3), sle3⟩) (eco3 : PySem.W.codeIn K cde3 "Unwritable.__init__" = true) (ek3 : PySem.W.keepIn K (.ref fe3) = true) (eu3 : PySem.W.isFn K (.ref fe3) = true)
    (ea4 : PySem.W.nsIn K mainGlobals "Unused" = some (some (.ref C4))) (el4 : K.lookup C4 = some (excClassObj nm4 q4 C4 N4 bs4 bm4 true sn4 sub4 ab4 col4 dd4 ka4 kb4 kc4 kd4 ke4 "ValueError.__new__")) (eb4 : bm4 = [.ref S, .type "ValueError", .type "Exception", .type "BaseException", .type "object"]) (et4 : topB K C4 ["kind"] = true) (ei4 : PySem.W.findIn K (.ref C4) "__init__" = some (some (.ref fe4))) (ef4 : K.lookup fe4 = some ⟨oe4, ode4, .func (PySem.W.fnOf "__init__" "Unused.__init__" (defArgs sUnused) (defBody sUnused) (defScope sUnused) .none kVe4 dce4 pme4 ane4 cde4 cte4), sle4⟩) (eco4 : PySem.W.codeIn K cde4 "Unused.__init__" = true) (ek4 : PySem.W.keepIn K (.ref fe4) = true) (eu4 : PySem.W.isFn K (.ref fe4) = true)
    (ea5 : PySem.W.nsIn K mainGlobals "BadRule" = some (some (.ref C5))) (el5 : K.lookup C5 = some (excClassObj nm5 q5 C5 N5 bs5 bm5 true sn5 sub5 ab5 col5 dd5 ka5 kb5 kc5 kd5 ke5 "ValueError.__new__")) (eb5 : bm5 = [.ref S, .type "ValueError", .type "Exception", .type "BaseException", .type "object"]) (et5 : topB K C5 ["worth"] = true) (ei5 : PySem.W.findIn K (.ref C5) "__init__" = some (some (.ref fe5))) (ef5 : K.lookup fe5 = some ⟨oe5, ode5, .func (PySem.W.fnOf "__init__" "BadRule.__init__" (defArgs sBadRule) (defBody sBadRule) (defScope sBadRule) .none kVe5 dce5 pme5 ane5 cde5 cte5), sle5⟩) (eco5 : PySem.W.codeIn K cde5 "BadRule.__init__" = true) (ek5 : PySem.W.keepIn K (.ref fe5) = true) (eu5 : PySem.W.isFn K (.ref fe5) = true)
    (ea6 : PySem.W.nsIn K mainGlobals "NoPlace" = some (some (.ref C6))) (el6 : K.lookup C6 = some (excClassObj nm6 q6 C6 N6 bs6 bm6 true sn6 sub6 ab6 col6 dd6 ka6 kb6 kc6 kd6 ke6 "ValueError.__new__")) (eb6 : bm6 = [.ref S, .type "ValueError", .type "Exception", .type "BaseException", .type "object"]) (et6 : topB K C6 ["place"] = true) (ei6 : PySem.W.findIn K (.ref C6) "__init__" = some (some (.ref fe6))) (ef6 : K.lookup fe6 = some ⟨oe6, ode6, .func (PySem.W.fnOf "__init__" "NoPlace.__init__" (defArgs sNoPlace) (defBody sNoPlace) (defScope sNoPlace) .none kVe6 dce6 pme6 ane6 cde6 cte6), sle6⟩) (eco6 : PySem.W.codeIn K cde6 "NoPlace.__init__" = true) (ek6 : PySem.W.keepIn K (.ref fe6) = true) (eu6 : PySem.W.isFn K (.ref fe6) = true)
    (ea7 : PySem.W.nsIn K mainGlobals "NoCase" = some (some (.ref C7))) (el7 : K.lookup C7 = some (excClassObj nm7 q7 C7 N7 bs7 bm7 true sn7 sub7 ab7 col7 dd7 ka7 kb7 kc7 kd7 ke7 "ValueError.__new__")) (eb7 : bm7 = [.ref S, .type "ValueError", .type "Exception", .type "BaseException", .type "object"]) (et7 : topB K C7 ["rule", "spots"] = true) (ei7 : PySem.W.findIn K (.ref C7) "__init__" = some (some (.ref fe7))) (ef7 : K.lookup fe7 = some ⟨oe7, ode7, .func (PySem.W.fnOf "__init__" "NoCase.__init__" (defArgs sNoCase) (defBody sNoCase) (defScope sNoCase) .none kVe7 dce7 pme7 ane7 cde7 cte7), sle7⟩) (eco7 : PySem.W.codeIn K cde7 "NoCase.__init__" = true) (ek7 : PySem.W.keepIn K (.ref fe7) = true) (eu7 : PySem.W.isFn K (.ref fe7) = true)
    (ea8 : PySem.W.nsIn K mainGlobals "Uneven" = some (some (.ref C8))) (el8 : K.lookup C8 = some (excClassObj nm8 q8 C8 N8 bs8 bm8 true sn8 sub8 ab8 col8 dd8 ka8 kb8 kc8 kd8 ke8 "ValueError.__new__")) (eb8 : bm8 = [.ref S, .type "ValueError", .type "Exception", .type "BaseException", .type "object"]) (et8 : topB K C8 ["token"] = true) (ei8 : PySem.W.findIn K (.ref C8) "__init__" = some (some (.ref fe8))) (ef8 : K.lookup fe8 = some ⟨oe8, ode8, .func (PySem.W.fnOf "__init__" "Uneven.__init__" (defArgs sUneven) (defBody sUneven) (defScope sUneven) .none kVe8 dce8 pme8 ane8 cde8 cte8), sle8⟩) (eco8 : PySem.W.codeIn K cde8 "Uneven.__init__" = true) (ek8 : PySem.W.keepIn K (.ref fe8) = true) (eu8 : PySem.W.isFn K (.ref fe8) = true)
    (ea9 : PySem.W.nsIn K mainGlobals "Unwritten" = some (some (.ref C9))) (el9 : K.lookup C9 = some (excClassObj nm9 q9 C9 N9 bs9 bm9 true sn9 sub9 ab9 col9 dd9 ka9 kb9 kc9 kd9 ke9 "ValueError.__new__")) (eb9 : bm9 = [.ref S, .type "ValueError", .type "Exception", .type "BaseException", .type "object"]) (et9 : topB K C9 ["path"] = true) (ei9 : PySem.W.findIn K (.ref C9) "__init__" = some (some (.ref fe9))) (ef9 : K.lookup fe9 = some ⟨oe9, ode9, .func (PySem.W.fnOf "__init__" "Unwritten.__init__" (defArgs sUnwritten) (defBody sUnwritten) (defScope sUnwritten) .none kVe9 dce9 pme9 ane9 cde9 cte9), sle9⟩) (eco9 : PySem.W.codeIn K cde9 "Unwritten.__init__" = true) (ek9 : PySem.W.keepIn K (.ref fe9) = true) (eu9 : PySem.W.isFn K (.ref fe9) = true)
    (ea10 : PySem.W.nsIn K mainGlobals "Clash" = some (some (.ref C10))) (el10 : K.lookup C10 = some (excClassObj nm10 q10 C10 N10 bs10 bm10 true sn10 sub10 ab10 col10 dd10 ka10 kb10 kc10 kd10 ke10 "ValueError.__new__")) (eb10 : bm10 = [.ref S, .type "ValueError", .type "Exception", .type "BaseException", .type "object"]) (et10 : topB K C10 ["kind"] = true) (ei10 : PySem.W.findIn K (.ref C10) "__init__" = some (some (.ref fe10))) (ef10 : K.lookup fe10 = some ⟨oe10, ode10, .func (PySem.W.fnOf "__init__" "Clash.__init__" (defArgs sClash) (defBody sClash) (defScope sClash) .none kVe10 dce10 pme10 ane10 cde10 cte10), sle10⟩) (eco10 : PySem.W.codeIn K cde10 "Clash.__init__" = true) (ek10 : PySem.W.keepIn K (.ref fe10) = true) (eu10 : PySem.W.isFn K (.ref fe10) = true)
    (ea11 : PySem.W.nsIn K mainGlobals "Unknown" = some (some (.ref C11))) (el11 : K.lookup C11 = some (excClassObj nm11 q11 C11 N11 bs11 bm11 true sn11 sub11 ab11 col11 dd11 ka11 kb11 kc11 kd11 ke11 "LookupError.__new__")) (eb11 : bm11 = [.type "LookupError", .type "Exception", .type "BaseException", .type "object"]) (et11 : topB K C11 ["name"] = true) (ei11 : PySem.W.findIn K (.ref C11) "__init__" = some (some (.ref fe11))) (ef11 : K.lookup fe11 = some ⟨oe11, ode11, .func (PySem.W.fnOf "__init__" "Unknown.__init__" (defArgs sUnknown) (defBody sUnknown) (defScope sUnknown) .none kVe11 dce11 pme11 ane11 cde11 cte11), sle11⟩) (eco11 : PySem.W.codeIn K cde11 "Unknown.__init__" = true) (ek11 : PySem.W.keepIn K (.ref fe11) = true) (eu11 : PySem.W.isFn K (.ref fe11) = true)
    (ea12 : PySem.W.nsIn K mainGlobals "TooFew" = some (some (.ref C12))) (el12 : K.lookup C12 = some (excClassObj nm12 q12 C12 N12 bs12 bm12 true sn12 sub12 ab12 col12 dd12 ka12 kb12 kc12 kd12 ke12 "LookupError.__new__")) (eb12 : bm12 = [.type "LookupError", .type "Exception", .type "BaseException", .type "object"]) (et12 : topB K C12 ["count"] = true) (ei12 : PySem.W.findIn K (.ref C12) "__init__" = some (some (.ref fe12))) (ef12 : K.lookup fe12 = some ⟨oe12, ode12, .func (PySem.W.fnOf "__init__" "TooFew.__init__" (defArgs sTooFew) (defBody sTooFew) (defScope sTooFew) .none kVe12 dce12 pme12 ane12 cde12 cte12), sle12⟩) (eco12 : PySem.W.codeIn K cde12 "TooFew.__init__" = true) (ek12 : PySem.W.keepIn K (.ref fe12) = true) (eu12 : PySem.W.isFn K (.ref fe12) = true)
    (ea13 : PySem.W.nsIn K mainGlobals "NothingToUndo" = some (some (.ref C13))) (el13 : K.lookup C13 = some (excClassObj nm13 q13 C13 N13 bs13 bm13 true sn13 sub13 ab13 col13 dd13 ka13 kb13 kc13 kd13 ke13 "LookupError.__new__")) (eb13 : bm13 = [.type "LookupError", .type "Exception", .type "BaseException", .type "object"]) (et13 : topB K C13 [] = true) (ei13 : PySem.W.findIn K (.ref C13) "__init__" = some (some (.ref fe13))) (ef13 : K.lookup fe13 = some ⟨oe13, ode13, .func (PySem.W.fnOf "__init__" "NothingToUndo.__init__" (defArgs sNothingToUndo) (defBody sNothingToUndo) (defScope sNothingToUndo) .none kVe13 dce13 pme13 ane13 cde13 cte13), sle13⟩) (eco13 : PySem.W.codeIn K cde13 "NothingToUndo.__init__" = true) (ek13 : PySem.W.keepIn K (.ref fe13) = true) (eu13 : PySem.W.isFn K (.ref fe13) = true)
    (ea14 : PySem.W.nsIn K mainGlobals "Refused" = some (some (.ref C14))) (el14 : K.lookup C14 = some (excClassObj nm14 q14 C14 N14 bs14 bm14 true sn14 sub14 ab14 col14 dd14 ka14 kb14 kc14 kd14 ke14 "RuntimeError.__new__")) (eb14 : bm14 = [.type "RuntimeError", .type "Exception", .type "BaseException", .type "object"]) (et14 : topB K C14 ["at", "line", "awaited"] = true) (ei14 : PySem.W.findIn K (.ref C14) "__init__" = some (some (.ref fe14))) (ef14 : K.lookup fe14 = some ⟨oe14, ode14, .func (PySem.W.fnOf "__init__" "Refused.__init__" (defArgs sRefused) (defBody sRefused) (defScope sRefused) .none kVe14 dce14 pme14 ane14 cde14 cte14), sle14⟩) (eco14 : PySem.W.codeIn K cde14 "Refused.__init__" = true) (ek14 : PySem.W.keepIn K (.ref fe14) = true) (eu14 : PySem.W.isFn K (.ref fe14) = true)
    (ea15 : PySem.W.nsIn K mainGlobals "TooDeep" = some (some (.ref C15))) (el15 : K.lookup C15 = some (excClassObj nm15 q15 C15 N15 bs15 bm15 true sn15 sub15 ab15 col15 dd15 ka15 kb15 kc15 kd15 ke15 "RuntimeError.__new__")) (eb15 : bm15 = [.type "RuntimeError", .type "Exception", .type "BaseException", .type "object"]) (et15 : topB K C15 ["at"] = true) (ei15 : PySem.W.findIn K (.ref C15) "__init__" = some (some (.ref fe15))) (ef15 : K.lookup fe15 = some ⟨oe15, ode15, .func (PySem.W.fnOf "__init__" "TooDeep.__init__" (defArgs sTooDeep) (defBody sTooDeep) (defScope sTooDeep) .none kVe15 dce15 pme15 ane15 cde15 cte15), sle15⟩) (eco15 : PySem.W.codeIn K cde15 "TooDeep.__init__" = true) (ek15 : PySem.W.keepIn K (.ref fe15) = true) (eu15 : PySem.W.isFn K (.ref fe15) = true)
    (sS : PySem.W.nsIn K mainGlobals "SlipError" = some (some (.ref S))) (sr : PySem.W.readsIn K S (.type "type") = true) (sg : PySem.W.specialIn K (.ref S) "__getattribute__" = some (some (.builtin "type.__getattribute__"))) (sv : PySem.W.findCls K (.ref S) (.type "type") "__init__" = some (.val (.builtin "ValueError.__init__")))
    (lv : PySem.W.findCls K (.type "LookupError") (.type "type") "__init__" = some (.val (.builtin "LookupError.__init__"))) (rv : PySem.W.findCls K (.type "RuntimeError") (.type "type") "__init__" = some (.val (.builtin "RuntimeError.__init__"))) (no : noB K = true) (tb : tabB K [C0, C1, C2, C3, C4, C5, C6, C7, C8, C9, C10, C11, C12, C13, C14, C15] S = true) :
    ∃ fd : FuncData, (∀ (s : Shared) (v : Value), BindsTo s fd ⟨[v], []⟩ [("script", v)]) ∧ ∀ base : Heap, K.In base → base.Ns mainGlobals mg → FnOk l.prog w K mg base CX0 7 fa fd ["script"] (spLaw K) := by
  have e := hfa.symm.trans (PySem.W.mg_of X G da14)
  cases e
  obtain ⟨T, nv, nl, nr⟩ := noB_ok X G no
  have gS := PySem.W.mg_of X G sS
  have BS : SlipB K mg S := ⟨gS, sr, sg, sv⟩
  have BL : LookB K mg := ⟨nl, lv⟩
  have BR : RunB K mg := ⟨nr, rv⟩
  have F0 : DefAt K mg "_law_bag" sBag := def_at X G da0 dl0 dc_0 dk0
  have F1 : DefAt K mg "_law_take" sTake := def_at X G da1 dl1 dc_1 dk1
  have F2 : DefAt K mg "_law_of" sOf := def_at X G da2 dl2 dc_2 dk2
  have F3 : DefAt K mg "_law_signs" sSigns := def_at X G da3 dl3 dc_3 dk3
  have F4 : DefAt K mg "_law_token" sToken := def_at X G da4 dl4 dc_4 dk4
  have F5 : DefAt K mg "_law_name" sName := def_at X G da5 dl5 dc_5 dk5
  have F6 : DefAt K mg "_law_worth" sWorth := def_at X G da6 dl6 dc_6 dk6
  have F7 : DefAt K mg "_law_classes" sClasses := def_at X G da7 dl7 dc_7 dk7
  have F8 : DefAt K mg "_law_is" sIs := def_at X G da8 dl8 dc_8 dk8
  have F9 : DefAt K mg "_law_first" sFirst := def_at X G da9 dl9 dc_9 dk9
  have F10 : DefAt K mg "_law_second" sSecond := def_at X G da10 dl10 dc_10 dk10
  have F11 : DefAt K mg "_law_third" sThird := def_at X G da11 dl11 dc_11 dk11
  have F12 : DefAt K mg "_law_caught" sCaught := def_at X G da12 dl12 dc_12 dk12
  have F13 : DefAt K mg "kept" sKept := def_at X G da13 dl13 dc_13 dk13
  have E0 : EAtop K mg "BadCount" "BadCount.__init__" C0 "ValueError.__init__" ["count"] sBadCount := etop_S X G ea0 el0 eb0 et0 ei0 ef0 eco0 ek0 eu0
  have E1 : EAtop K mg "BadBook" "BadBook.__init__" C1 "ValueError.__init__" ["what", "worth"] sBadBook := etop_S X G ea1 el1 eb1 et1 ei1 ef1 eco1 ek1 eu1
  have E2 : EAtop K mg "Ambiguous" "Ambiguous.__init__" C2 "ValueError.__init__" ["form", "row"] sAmbiguous := etop_S X G ea2 el2 eb2 et2 ei2 ef2 eco2 ek2 eu2
  have E3 : EAtop K mg "Unwritable" "Unwritable.__init__" C3 "ValueError.__init__" ["kind"] sUnwritable := etop_S X G ea3 el3 eb3 et3 ei3 ef3 eco3 ek3 eu3
  have E4 : EAtop K mg "Unused" "Unused.__init__" C4 "ValueError.__init__" ["kind"] sUnused := etop_S X G ea4 el4 eb4 et4 ei4 ef4 eco4 ek4 eu4
  have E5 : EAtop K mg "BadRule" "BadRule.__init__" C5 "ValueError.__init__" ["worth"] sBadRule := etop_S X G ea5 el5 eb5 et5 ei5 ef5 eco5 ek5 eu5
  have E6 : EAtop K mg "NoPlace" "NoPlace.__init__" C6 "ValueError.__init__" ["place"] sNoPlace := etop_S X G ea6 el6 eb6 et6 ei6 ef6 eco6 ek6 eu6
  have E7 : EAtop K mg "NoCase" "NoCase.__init__" C7 "ValueError.__init__" ["rule", "spots"] sNoCase := etop_S X G ea7 el7 eb7 et7 ei7 ef7 eco7 ek7 eu7
  have E8 : EAtop K mg "Uneven" "Uneven.__init__" C8 "ValueError.__init__" ["token"] sUneven := etop_S X G ea8 el8 eb8 et8 ei8 ef8 eco8 ek8 eu8
  have E9 : EAtop K mg "Unwritten" "Unwritten.__init__" C9 "ValueError.__init__" ["path"] sUnwritten := etop_S X G ea9 el9 eb9 et9 ei9 ef9 eco9 ek9 eu9
  have E10 : EAtop K mg "Clash" "Clash.__init__" C10 "ValueError.__init__" ["kind"] sClash := etop_S X G ea10 el10 eb10 et10 ei10 ef10 eco10 ek10 eu10
  have E11 : EAtop K mg "Unknown" "Unknown.__init__" C11 "LookupError.__init__" ["name"] sUnknown := etop_L X G ea11 el11 eb11 et11 ei11 ef11 eco11 ek11 eu11
  have E12 : EAtop K mg "TooFew" "TooFew.__init__" C12 "LookupError.__init__" ["count"] sTooFew := etop_L X G ea12 el12 eb12 et12 ei12 ef12 eco12 ek12 eu12
  have E13 : EAtop K mg "NothingToUndo" "NothingToUndo.__init__" C13 "LookupError.__init__" [] sNothingToUndo := etop_L X G ea13 el13 eb13 et13 ei13 ef13 eco13 ek13 eu13
  have E14 : EAtop K mg "Refused" "Refused.__init__" C14 "RuntimeError.__init__" ["at", "line", "awaited"] sRefused := etop_R X G ea14 el14 eb14 et14 ei14 ef14 eco14 ek14 eu14
  have E15 : EAtop K mg "TooDeep" "TooDeep.__init__" C15 "RuntimeError.__init__" ["at"] sTooDeep := etop_R X G ea15 el15 eb15 et15 ei15 ef15 eco15 ek15 eu15
  have gg : ∀ i x, eNames[i]? = some x → mg x = some (.ref (([C0, C1, C2, C3, C4, C5, C6, C7, C8, C9, C10, C11, C12, C13, C14, C15] : List Addr).getD i 0)) := fun i x e => by
    match i, e with
    | 0, e => cases e; exact E0.mg
    | 1, e => cases e; exact E1.mg
    | 2, e => cases e; exact E2.mg
    | 3, e => cases e; exact E3.mg
    | 4, e => cases e; exact E4.mg
    | 5, e => cases e; exact E5.mg
    | 6, e => cases e; exact E6.mg
    | 7, e => cases e; exact E7.mg
    | 8, e => cases e; exact E8.mg
    | 9, e => cases e; exact E9.mg
    | 10, e => cases e; exact E10.mg
    | 11, e => cases e; exact E11.mg
    | 12, e => cases e; exact E12.mg
    | 13, e => cases e; exact E13.mg
    | 14, e => cases e; exact E14.mg
    | 15, e => cases e; exact E15.mg
    | n + 16, e => cases e
  have ge : ∀ i, i < 16 → ∃ ini, EC K (([C0, C1, C2, C3, C4, C5, C6, C7, C8, C9, C10, C11, C12, C13, C14, C15] : List Addr).getD i 0) ini := fun i hi => by
    match i, hi with
    | 0, _ => exact ⟨_, E0.ec⟩
    | 1, _ => exact ⟨_, E1.ec⟩
    | 2, _ => exact ⟨_, E2.ec⟩
    | 3, _ => exact ⟨_, E3.ec⟩
    | 4, _ => exact ⟨_, E4.ec⟩
    | 5, _ => exact ⟨_, E5.ec⟩
    | 6, _ => exact ⟨_, E6.ec⟩
    | 7, _ => exact ⟨_, E7.ec⟩
    | 8, _ => exact ⟨_, E8.ec⟩
    | 9, _ => exact ⟨_, E9.ec⟩
    | 10, _ => exact ⟨_, E10.ec⟩
    | 11, _ => exact ⟨_, E11.ec⟩
    | 12, _ => exact ⟨_, E12.ec⟩
    | 13, _ => exact ⟨_, E13.ec⟩
    | 14, _ => exact ⟨_, E14.ec⟩
    | 15, _ => exact ⟨_, E15.ec⟩
    | n + 16, hi => exact absurd hi (by omega)
  obtain ⟨Z, c1, c2, c3⟩ := etab_of tb gg gS ge nv nl nr
  refine ⟨PySem.W.fnOf "law" "law" (defArgs sLaw1) (defBody sLaw1) (defScope sLaw1) .none kV14 dc14 pm14 an14 cd14 ct14, fun s v => .of_eq rfl, fun base _ _ => ?_⟩
  have Dtake : Dk l.prog w K mg base CX0 1 "_law_take" ["dice", "many"] spTake := ok_take F1 T
  have Dof := ok_of F2 T Dtake
  have Dsigns : Dk l.prog w K mg base CX0 1 "_law_signs" [] spSigns := ok_signs F3
  have Dworth := ok_worth F6 T Dtake Dof (ok_name F5 T Dof) (ok_token F4 T Dof Dsigns)
  have Dkept : Dk l.prog w K mg base CX0 2 "kept" ["value"] (spKept K 1) := ok_kept F13 T 1
  have Dcl : Dk l.prog w K mg base CX0 1 "_law_classes" ["error"] (spClasses (fun i => ([C0, C1, C2, C3, C4, C5, C6, C7, C8, C9, C10, C11, C12, C13, C14, C15] : List Addr).getD i 0)) := ok_classes F7 T Z
  have Dis := ok_is F8 T Z Dcl
  have X0 : Er l.prog w K mg base (fun i => ([C0, C1, C2, C3, C4, C5, C6, C7, C8, C9, C10, C11, C12, C13, C14, C15] : List Addr).getD i 0) 0 "BadCount" "ValueError.__init__" ["count"] := ⟨ok_BadCount (S := S) E0 BS Dkept, E0.ec, E0.no⟩
  have X1 : Er l.prog w K mg base (fun i => ([C0, C1, C2, C3, C4, C5, C6, C7, C8, C9, C10, C11, C12, C13, C14, C15] : List Addr).getD i 0) 1 "BadBook" "ValueError.__init__" ["what", "worth"] := ⟨ok_BadBook (S := S) E1 BS Dkept, E1.ec, E1.no⟩
  have X2 : Er l.prog w K mg base (fun i => ([C0, C1, C2, C3, C4, C5, C6, C7, C8, C9, C10, C11, C12, C13, C14, C15] : List Addr).getD i 0) 2 "Ambiguous" "ValueError.__init__" ["form", "row"] := ⟨ok_Ambiguous (S := S) E2 BS Dkept, E2.ec, E2.no⟩
  have X3 : Er l.prog w K mg base (fun i => ([C0, C1, C2, C3, C4, C5, C6, C7, C8, C9, C10, C11, C12, C13, C14, C15] : List Addr).getD i 0) 3 "Unwritable" "ValueError.__init__" ["kind"] := ⟨ok_Unwritable (S := S) E3 BS Dkept, E3.ec, E3.no⟩
  have X4 : Er l.prog w K mg base (fun i => ([C0, C1, C2, C3, C4, C5, C6, C7, C8, C9, C10, C11, C12, C13, C14, C15] : List Addr).getD i 0) 4 "Unused" "ValueError.__init__" ["kind"] := ⟨ok_Unused (S := S) E4 BS Dkept, E4.ec, E4.no⟩
  have X5 : Er l.prog w K mg base (fun i => ([C0, C1, C2, C3, C4, C5, C6, C7, C8, C9, C10, C11, C12, C13, C14, C15] : List Addr).getD i 0) 5 "BadRule" "ValueError.__init__" ["worth"] := ⟨ok_BadRule (S := S) E5 BS Dkept, E5.ec, E5.no⟩
  have X6 : Er l.prog w K mg base (fun i => ([C0, C1, C2, C3, C4, C5, C6, C7, C8, C9, C10, C11, C12, C13, C14, C15] : List Addr).getD i 0) 6 "NoPlace" "ValueError.__init__" ["place"] := ⟨ok_NoPlace (S := S) E6 BS Dkept, E6.ec, E6.no⟩
  have X7 : Er l.prog w K mg base (fun i => ([C0, C1, C2, C3, C4, C5, C6, C7, C8, C9, C10, C11, C12, C13, C14, C15] : List Addr).getD i 0) 7 "NoCase" "ValueError.__init__" ["rule", "spots"] := ⟨ok_NoCase (S := S) E7 BS Dkept, E7.ec, E7.no⟩
  have X8 : Er l.prog w K mg base (fun i => ([C0, C1, C2, C3, C4, C5, C6, C7, C8, C9, C10, C11, C12, C13, C14, C15] : List Addr).getD i 0) 8 "Uneven" "ValueError.__init__" ["token"] := ⟨ok_Uneven (S := S) E8 BS Dkept, E8.ec, E8.no⟩
  have X9 : Er l.prog w K mg base (fun i => ([C0, C1, C2, C3, C4, C5, C6, C7, C8, C9, C10, C11, C12, C13, C14, C15] : List Addr).getD i 0) 9 "Unwritten" "ValueError.__init__" ["path"] := ⟨ok_Unwritten (S := S) E9 BS Dkept, E9.ec, E9.no⟩
  have X10 : Er l.prog w K mg base (fun i => ([C0, C1, C2, C3, C4, C5, C6, C7, C8, C9, C10, C11, C12, C13, C14, C15] : List Addr).getD i 0) 10 "Clash" "ValueError.__init__" ["kind"] := ⟨ok_Clash (S := S) E10 BS Dkept, E10.ec, E10.no⟩
  have X11 : Er l.prog w K mg base (fun i => ([C0, C1, C2, C3, C4, C5, C6, C7, C8, C9, C10, C11, C12, C13, C14, C15] : List Addr).getD i 0) 11 "Unknown" "LookupError.__init__" ["name"] := ⟨ok_Unknown (S := S) E11 BL Dkept, E11.ec, E11.no⟩
  have X12 : Er l.prog w K mg base (fun i => ([C0, C1, C2, C3, C4, C5, C6, C7, C8, C9, C10, C11, C12, C13, C14, C15] : List Addr).getD i 0) 12 "TooFew" "LookupError.__init__" ["count"] := ⟨ok_TooFew (S := S) E12 BL Dkept, E12.ec, E12.no⟩
  have X13 : Er l.prog w K mg base (fun i => ([C0, C1, C2, C3, C4, C5, C6, C7, C8, C9, C10, C11, C12, C13, C14, C15] : List Addr).getD i 0) 13 "NothingToUndo" "LookupError.__init__" [] := ⟨ok_NothingToUndo (S := S) E13 BL Dkept, E13.ec, E13.no⟩
  have X14 : Er l.prog w K mg base (fun i => ([C0, C1, C2, C3, C4, C5, C6, C7, C8, C9, C10, C11, C12, C13, C14, C15] : List Addr).getD i 0) 14 "Refused" "RuntimeError.__init__" ["at", "line", "awaited"] := ⟨ok_Refused (S := S) E14 BR Dkept, E14.ec, E14.no⟩
  have X15 : Er l.prog w K mg base (fun i => ([C0, C1, C2, C3, C4, C5, C6, C7, C8, C9, C10, C11, C12, C13, C14, C15] : List Addr).getD i 0) 15 "TooDeep" "RuntimeError.__init__" ["at"] := ⟨ok_TooDeep (S := S) E15 BR Dkept, E15.ec, E15.no⟩
  exact ok_law (fun_mk (st := sLaw1) dl14 dc_14 dk14) T (ok_bag F0 T) Dworth (ok_first F9 T Dis X0 X1 X2 X3 X4 X5) (ok_second F10 T Dis X6 X7 X8 X9 X10) (ok_third F11 T Dis X11 X12 X13 X14 X15) (ok_caught F12 T Z X9 X10 X11 c1 c2 c3)
theorem walk {l : PySem.W.OpenLaw} {q : Program} {loose : List Str} {XP : (Str → Option Value) → Heap → Prop} {YP : World → Heap → Prop} {d : DefRec} {K : Params → PySem.W.Frag} (hn : l.most = some 63) (hdf : d.params.defaults = [])
    (hY : ∀ (w : World) (h : Heap), YP w h → (K w.params).In h)
    (F : ∀ (w : World) (mg : Str → Option Value) (fa : Addr) (h : Heap), (K w.params).In h → h.Ns mainGlobals mg → mg d.name = some (.ref fa) →
      ∃ fd : FuncData, (∀ (s : Shared) (u : Value), BindsTo s fd ⟨[u], []⟩ [("script", u)]) ∧ ∀ base : Heap, (K w.params).In base → base.Ns mainGlobals mg → FnOk l.prog w (K w.params) mg base CX0 7 fa fd ["script"] (spLaw (K w.params))) :
    PySem.W.WalkO q loose XP YP l.row.toRowW d [] (fun f vs => PySem.call f vs) :=
  L2.walk_of (n := 63) (k := 7) (x := "script") (CX := fun _ => CX0) (sp := fun w => spLaw (K w.params)) hn (by decide) hdf ⟨rfl, by decide, by decide⟩ hY F (fun _ _ a ns hl _ hS => ⟨a, ns, rfl, hS, hl, fun _ => rfl⟩) fun _ _ _ _ _ z => z
end Ss
open PySem PySem.W PyProof.Rows in
set_option maxRecDepth 100000 in
set_option maxHeartbeats 0 in
theorem PySem.Challenge.cw_silentslips_k01_errors_holds : PySem.Challenge.rw_silentslips_k01_errors.Holds := by
  w_on; o_law; k_head; (case hw => w_witness2)
  k_fill
  refine Ss.walk (l := PySem.Challenge.rw_silentslips_k01_errors) rfl rfl (fun w h Y => PySem.W.kIn_of Y) ?F
  case F =>
    intro w mg fa h KX G hmg
    refine' Ss.all_mk KX G hmg ?da0 ?dl0 ?dc_0 ?dk0 ?da1 ?dl1 ?dc_1 ?dk1 ?da2 ?dl2 ?dc_2 ?dk2 ?da3 ?dl3 ?dc_3 ?dk3 ?da4 ?dl4 ?dc_4 ?dk4 ?da5 ?dl5 ?dc_5 ?dk5 ?da6 ?dl6 ?dc_6 ?dk6 ?da7 ?dl7 ?dc_7 ?dk7 ?da8 ?dl8 ?dc_8 ?dk8 ?da9 ?dl9 ?dc_9 ?dk9 ?da10 ?dl10 ?dc_10 ?dk10 ?da11 ?dl11 ?dc_11 ?dk11 ?da12 ?dl12 ?dc_12 ?dk12 ?da13 ?dl13 ?dc_13 ?dk13 ?da14 ?dl14 ?dc_14 ?dk14 ?ea0 ?el0 ?eb0 ?et0 ?ei0 ?ef0 ?eco0 ?ek0 ?eu0 ?ea1 ?el1 ?eb1 ?et1 ?ei1 ?ef1 ?eco1 ?ek1 ?eu1 ?ea2 ?el2 ?eb2 ?et2 ?ei2 ?ef2 ?eco2 ?ek2 ?eu2 ?ea3 ?el3 ?eb3 ?et3 ?ei3 ?ef3 ?eco3 ?ek3 ?eu3 ?ea4 ?el4 ?eb4 ?et4 ?ei4 ?ef4 ?eco4 ?ek4 ?eu4 ?ea5 ?el5 ?eb5 ?et5 ?ei5 ?ef5 ?eco5 ?ek5 ?eu5 ?ea6 ?el6 ?eb6 ?et6 ?ei6 ?ef6 ?eco6 ?ek6 ?eu6 ?ea7 ?el7 ?eb7 ?et7 ?ei7 ?ef7 ?eco7 ?ek7 ?eu7 ?ea8 ?el8 ?eb8 ?et8 ?ei8 ?ef8 ?eco8 ?ek8 ?eu8 ?ea9 ?el9 ?eb9 ?et9 ?ei9 ?ef9 ?eco9 ?ek9 ?eu9 ?ea10 ?el10 ?eb10 ?et10 ?ei10 ?ef10 ?eco10 ?ek10 ?eu10 ?ea11 ?el11 ?eb11 ?et11 ?ei11 ?ef11 ?eco11 ?ek11 ?eu11 ?ea12 ?el12 ?eb12 ?et12 ?ei12 ?ef12 ?eco12 ?ek12 ?eu12 ?ea13 ?el13 ?eb13 ?et13 ?ei13 ?ef13 ?eco13 ?ek13 ?eu13 ?ea14 ?el14 ?eb14 ?et14 ?ei14 ?ef14 ?eco14 ?ek14 ?eu14 ?ea15 ?el15 ?eb15 ?et15 ?ei15 ?ef15 ?eco15 ?ek15 ?eu15 ?sS ?sr ?sg ?sv ?lv ?rv ?no ?tb
    (case da0 => k_is)
    (case dl0 => k_is)
    (case dc_0 => k_is)
    (case dk0 => k_is)
    (case da1 => k_is)
    (case dl1 => k_is)
    (case dc_1 => k_is)
    (case dk1 => k_is)
    (case da2 => k_is)
    (case dl2 => k_is)
    (case dc_2 => k_is)
    (case dk2 => k_is)
    (case da3 => k_is)
    (case dl3 => k_is)
    (case dc_3 => k_is)
    (case dk3 => k_is)
    (case da4 => k_is)
    (case dl4 => k_is)
    (case dc_4 => k_is)
    (case dk4 => k_is)
    (case da5 => k_is)
    (case dl5 => k_is)
    (case dc_5 => k_is)
    (case dk5 => k_is)
    (case da6 => k_is)
    (case dl6 => k_is)
    (case dc_6 => k_is)
    (case dk6 => k_is)
    (case da7 => k_is)
    (case dl7 => k_is)
    (case dc_7 => k_is)
    (case dk7 => k_is)
    (case da8 => k_is)
    (case dl8 => k_is)
    (case dc_8 => k_is)
    (case dk8 => k_is)
    (case da9 => k_is)
    (case dl9 => k_is)
    (case dc_9 => k_is)
    (case dk9 => k_is)
    (case da10 => k_is)
    (case dl10 => k_is)
    (case dc_10 => k_is)
    (case dk10 => k_is)
    (case da11 => k_is)
    (case dl11 => k_is)
    (case dc_11 => k_is)
    (case dk11 => k_is)
    (case da12 => k_is)
    (case dl12 => k_is)
    (case dc_12 => k_is)
    (case dk12 => k_is)
    (case da13 => k_is)
    (case dl13 => k_is)
    (case dc_13 => k_is)
    (case dk13 => k_is)
    (case da14 => k_is)
    (case dl14 => k_is)
    (case dc_14 => k_is)
    (case dk14 => k_is)
    (case ea0 => k_is)
    (case el0 => k_is)
    (case eb0 => rfl)
    (case et0 => first | rfl | kernel_rfl)
    (case ei0 => k_is)
    (case ef0 => k_is)
    (case eco0 => k_is)
    (case ek0 => k_is)
    (case eu0 => k_is)
    (case ea1 => k_is)
    (case el1 => k_is)
    (case eb1 => rfl)
    (case et1 => first | rfl | kernel_rfl)
    (case ei1 => k_is)
    (case ef1 => k_is)
    (case eco1 => k_is)
    (case ek1 => k_is)
    (case eu1 => k_is)
    (case ea2 => k_is)
    (case el2 => k_is)
    (case eb2 => rfl)
    (case et2 => first | rfl | kernel_rfl)
    (case ei2 => k_is)
    (case ef2 => k_is)
    (case eco2 => k_is)
    (case ek2 => k_is)
    (case eu2 => k_is)
    (case ea3 => k_is)
    (case el3 => k_is)
    (case eb3 => rfl)
    (case et3 => first | rfl | kernel_rfl)
    (case ei3 => k_is)
    (case ef3 => k_is)
    (case eco3 => k_is)
    (case ek3 => k_is)
    (case eu3 => k_is)
    (case ea4 => k_is)
    (case el4 => k_is)
    (case eb4 => rfl)
    (case et4 => first | rfl | kernel_rfl)
    (case ei4 => k_is)
    (case ef4 => k_is)
    (case eco4 => k_is)
    (case ek4 => k_is)
    (case eu4 => k_is)
    (case ea5 => k_is)
    (case el5 => k_is)
    (case eb5 => rfl)
    (case et5 => first | rfl | kernel_rfl)
    (case ei5 => k_is)
    (case ef5 => k_is)
    (case eco5 => k_is)
    (case ek5 => k_is)
    (case eu5 => k_is)
    (case ea6 => k_is)
    (case el6 => k_is)
    (case eb6 => rfl)
    (case et6 => first | rfl | kernel_rfl)
    (case ei6 => k_is)
    (case ef6 => k_is)
    (case eco6 => k_is)
    (case ek6 => k_is)
    (case eu6 => k_is)
    (case ea7 => k_is)
    (case el7 => k_is)
    (case eb7 => rfl)
    (case et7 => first | rfl | kernel_rfl)
    (case ei7 => k_is)
    (case ef7 => k_is)
    (case eco7 => k_is)
    (case ek7 => k_is)
    (case eu7 => k_is)
    (case ea8 => k_is)
    (case el8 => k_is)
    (case eb8 => rfl)
    (case et8 => first | rfl | kernel_rfl)
    (case ei8 => k_is)
    (case ef8 => k_is)
    (case eco8 => k_is)
    (case ek8 => k_is)
    (case eu8 => k_is)
    (case ea9 => k_is)
    (case el9 => k_is)
    (case eb9 => rfl)
    (case et9 => first | rfl | kernel_rfl)
    (case ei9 => k_is)
    (case ef9 => k_is)
    (case eco9 => k_is)
    (case ek9 => k_is)
    (case eu9 => k_is)
    (case ea10 => k_is)
    (case el10 => k_is)
    (case eb10 => rfl)
    (case et10 => first | rfl | kernel_rfl)
    (case ei10 => k_is)
    (case ef10 => k_is)
    (case eco10 => k_is)
    (case ek10 => k_is)
    (case eu10 => k_is)
    (case ea11 => k_is)
    (case el11 => k_is)
    (case eb11 => rfl)
    (case et11 => first | rfl | kernel_rfl)
    (case ei11 => k_is)
    (case ef11 => k_is)
    (case eco11 => k_is)
    (case ek11 => k_is)
    (case eu11 => k_is)
    (case ea12 => k_is)
    (case el12 => k_is)
    (case eb12 => rfl)
    (case et12 => first | rfl | kernel_rfl)
    (case ei12 => k_is)
    (case ef12 => k_is)
    (case eco12 => k_is)
    (case ek12 => k_is)
    (case eu12 => k_is)
    (case ea13 => k_is)
    (case el13 => k_is)
    (case eb13 => rfl)
    (case et13 => first | rfl | kernel_rfl)
    (case ei13 => k_is)
    (case ef13 => k_is)
    (case eco13 => k_is)
    (case ek13 => k_is)
    (case eu13 => k_is)
    (case ea14 => k_is)
    (case el14 => k_is)
    (case eb14 => rfl)
    (case et14 => first | rfl | kernel_rfl)
    (case ei14 => k_is)
    (case ef14 => k_is)
    (case eco14 => k_is)
    (case ek14 => k_is)
    (case eu14 => k_is)
    (case ea15 => k_is)
    (case el15 => k_is)
    (case eb15 => rfl)
    (case et15 => first | rfl | kernel_rfl)
    (case ei15 => k_is)
    (case ef15 => k_is)
    (case eco15 => k_is)
    (case ek15 => k_is)
    (case eu15 => k_is)
    (case sS => k_is)
    (case sr => k_is)
    (case sg => k_is)
    (case sv => k_is)
    (case lv => first | rfl | k_is | kernel_rfl)
    (case rv => first | rfl | k_is | kernel_rfl)
    (case no => first | rfl | kernel_rfl)
    (case tb => first | rfl | kernel_rfl)
