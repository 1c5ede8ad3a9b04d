import PyProof.Rows.All
import Wide.All
import OpenK.AllK
import Wide.FinOn
import HandS.ForMost
import HandS.EndBits
import HandS.Wide
import HandS.WideBits
import HandS.Style
import HandS.IsInst
import HandS.TupAny
import HandS.OwnEq
import HandS.Evl
import HandS.Exc
import HandS.WordsExc
import HandS.Walk
import HandS.Replace
import HandS.ReplaceLit
import HandS.ReplaceDef
import HandS.ReplaceList
import OpenK.KMeth
import OpenK.KOps
import KE.KOpsOwn
import HandS.Star
import KE.KCallOwn
import HandS.ExcInit
import HandS.ExcIs
import HandS.ExcField
import HandS.MakeKw
import HandS.FStr
import KE.KExcInit
import HandS.ClsMeth
import HandS.FStrTup
import PyProof.FString5
import PyProof.StrHeap
import PySem.Challenge.RW_silentslips_k46_signs_between_sets
import KE.SortKeyHeap
import HandS.SortKw
import HandS.Keys
import HandS.Codes
import HandS.CallLocal
import HandS.ListItems
import HandS.DictComp
import HandS.DictSubView
import HandS.Dict
import KE.KDictList
import HandS.Iter
import KE.GoesEnum
import KE.OsArith
import KE.IntBitsLaws
import HandS.Strs
set_option Elab.async false
set_option linter.all false
set_option maxRecDepth 100000
set_option maxHeartbeats 4000000
namespace Ss
open PySem L2
/-! ### defs by name -/
/-- the def st of the module stands under the name x -/
structure DefAt (K : PySem.W.Frag) (mg : Str → Option Value) (x : Str) (st : Stmt) : Prop where
  ex : ∃ (f : Addr) (fd : FuncData), Fun K x x st f fd ∧ mg x = some (.ref f)
/-- the module's def x keeps the promise sp, at most level k -/
structure Dk (P : Program) (w : World) (K : PySem.W.Frag) (mg : Str → Option Value) (base : Heap) (CX : CXT) (k : Nat) (x : Str) (ps : List Str) (sp : Sp) : Prop where
  ex : ∃ (f : Addr) (fd : FuncData), FnOk P w K mg base CX k f fd ps sp ∧ mg x = some (.ref f) ∧ PySem.W.keepIn K (.ref f) = true ∧ Binds K fd ps []
/-- the method st of the class at C -/
structure MethAt (K : PySem.W.Frag) (C : Addr) (m qual : Str) (st : Stmt) : Prop where
  ex : ∃ (f : Addr) (fd : FuncData), Fun K m qual st f fd ∧ Meth K C m f
structure Mm (P : Program) (w : World) (K : PySem.W.Frag) (mg : Str → Option Value) (base : Heap) (CX : CXT) (C : Addr) (k : Nat) (m : Str) (ps : List Str) (sp : Sp) : Prop where
  ex : ∃ (f : Addr) (fd : FuncData), FnOk P w K mg base CX k f fd ps sp ∧ Meth K C m f ∧ Binds K fd ps []
theorem def_at {K : PySem.W.Frag} {h : Heap} {mg : Str → Option Value} {x : Str} {st : Stmt} {f : Addr} {oc : Value} {od an : Option Addr} {osl : Array (Option Value)} {kV doc pm cdv ct : Value} (X : K.In h) (G : h.Ns mainGlobals mg)
    (a : PySem.W.nsIn K mainGlobals x = some (some (.ref f))) (l : K.lookup f = some ⟨oc, od, .func (PySem.W.fnOf x x (defArgs st) (defBody st) (defScope st) .none kV doc pm an cdv ct), osl⟩)
    (c : PySem.W.codeIn K cdv x = true) (k : PySem.W.keepIn K (.ref f) = true) : DefAt K mg x st := ⟨f, _, fun_mk l c k, PySem.W.mg_of X G a⟩
theorem meth_at {K : PySem.W.Frag} {C : Addr} {m qual : Str} {st : Stmt} {f : Addr} {oc : Value} {od an : Option Addr} {osl : Array (Option Value)} {kV doc pm cdv ct : Value}
    (a : PySem.W.findIn K (.ref C) m = some (some (.ref f))) (i : PySem.W.isFn K (.ref f) = true) (l : K.lookup f = some ⟨oc, od, .func (PySem.W.fnOf m qual (defArgs st) (defBody st) (defScope st) .none kV doc pm an cdv ct), osl⟩)
    (c : PySem.W.codeIn K cdv qual = true) (k : PySem.W.keepIn K (.ref f) = true) : MethAt K C m qual st := ⟨f, _, fun_mk l c k, a, i, k⟩
section
variable {X : Cx} {CX : CXT} {k j : Nat} {C : Addr} {ps : List Str} {sp : Sp} {E : XK} {x m : Str} {p pos apos : Pos} {e o : Expr} {es : List Expr} {ta : TE} {t : TA}
/-- x(e, ..) of a def that keeps sp -/
theorem pe_cd (D : Dk X.prog X.w X.K X.mg X.base CX k x ps sp) (hr : Room j X.A) (hx : Passes CX X E) (ha : PA X (e :: es) t) (hk : k ≤ j := by decide) (hg : Gl X x := by rfl) (hdb : (x == ("__debug__" : Str)) = false := by decide)
    (he : starEach (e :: es) X.env = (false, eval e X.env) :: starEach es X.env := by rfl) (hpl : (backTo pos (starEach es X.env)).any (·.1) = false := by rfl) : PE X (.Call (.Name x p) (e :: es) [] pos) (tCall sp [] E t) := by
  obtain ⟨f, fd, F, mf, kp, b⟩ := D.ex
  exact pe_call F (hr.mono hk) hg mf kp b .nil hx ha hdb he hpl
theorem pe_cd0 (D : Dk X.prog X.w X.K X.mg X.base CX k x ps sp) (hr : Room j X.A) (hx : Passes CX X E) (hk : k ≤ j := by decide) (hg : Gl X x := by rfl) (hdb : (x == ("__debug__" : Str)) = false := by decide) :
    PE X (.Call (.Name x p) [] [] pos) (tCall sp [] E tNil) := by
  obtain ⟨f, fd, F, mf, kp, b⟩ := D.ex
  exact pe_call0 F (hr.mono hk) hg mf kp b .nil hx hdb
/-- o.m(e, ..) -/
theorem pe_md {pl : Sem Bool} (he : PE X o ta) (c : Cls X.K C) (D : Mm X.prog X.w X.K X.mg X.base CX C k m ps sp) (hr : Room j X.A) (hx : Passes CX X E) (ha : PA X (e :: es) t) (hk : k ≤ j := by decide)
    (hst : starEach (e :: es) X.env = (false, eval e X.env) :: starEach es X.env := by rfl) (hpl : (backTo pos (starEach es X.env)).any (·.1) = false := by rfl)
    (ht : eval (.Call (.Attribute o m apos) (e :: es) [] pos) X.env = (do
      let ov ← eval o X.env
      standAt apos.atName
      let (f, first) ← holding [ov] (getMethod ov m pl)
      callWith pos f first (backTo pos (starEach (e :: es) X.env)) (backToKw pos (keywordEach [] X.env))) := by rfl) :
    PE X (.Call (.Attribute o m apos) (e :: es) [] pos) (tMeth C m sp [] E ta t) := by
  obtain ⟨f, fd, F, mf, b⟩ := D.ex
  exact pe_meth he c mf F (hr.mono hk) b .nil hx ha hst hpl ht
theorem pe_md0 {pl : Sem Bool} (he : PE X o ta) (c : Cls X.K C) (D : Mm X.prog X.w X.K X.mg X.base CX C k m ps sp) (hr : Room j X.A) (hx : Passes CX X E) (hk : k ≤ j := by decide)
    (ht : eval (.Call (.Attribute o m apos) [] [] pos) X.env = (do
      let ov ← eval o X.env
      standAt apos.atName
      let (f, first) ← holding [ov] (getMethod ov m pl)
      callWith pos f first (backTo pos (starEach [] X.env)) (backToKw pos (keywordEach [] X.env))) := by rfl) :
    PE X (.Call (.Attribute o m apos) [] [] pos) (tMeth C m sp [] E ta tNil) := by
  obtain ⟨f, fd, F, mf, b⟩ := D.ex
  exact pe_meth0 he c mf F (hr.mono hk) b .nil hx ht
end
/-- all that stood at other places than b stands -/
def Off (b : Addr) (H H' : Hp) : Prop := ∀ a o, a ≠ b → H a = some o → H' a = some o
theorem Off.refl (b : Addr) (H : Hp) : Off b H H := fun _ _ _ h => h
theorem Off.trans {b : Addr} {H H1 H2 : Hp} (x : Off b H H1) (y : Off b H1 H2) : Off b H H2 := fun a o n h => y a o n (x a o n h)
theorem Off.upd {b : Addr} {H H1 : Hp} {o : HO} (x : Off b H H1) : Off b H (L2.upd H1 b o) := fun a u n h => by
  rw [upd_ne n]; exact x a u n h
theorem Off.new {b p : Addr} {H H1 : Hp} {o : HO} (x : Off b H H1) (hp : H1 p = none) : Off b H (L2.upd H1 p o) := fun a u n h => by
  rw [upd_ne (ne_of_none (x a u n h) hp)]; exact x a u n h
theorem Off.of {b : Addr} {H H' : Hp} (x : Same H H') : Off b H H' := fun a o _ h => x a o h
theorem Same.new {H H1 : Hp} {p : Addr} {o : HO} (x : Same H H1) (hp : H1 p = none) : Same H (L2.upd H1 p o) := fun a u h => by
  rw [upd_ne (ne_of_none (x a u h) hp)]; exact x a u h
theorem Off.seq {K : PySem.W.Frag} {H H' : Hp} {a b : Addr} {xs : List V} (e : Off b H H') (n : a ≠ b) (h : SqL K H a xs) : SqL K H' a xs := by
  rcases h with (h | ⟨o, h⟩) | h
  · exact .inl (.inl (e _ _ n h))
  · exact .inl (.inr ⟨o, e _ _ n h⟩)
  · exact .inr h
theorem Off.tup {K : PySem.W.Frag} {H H' : Hp} {a b : Addr} {xs : List V} (e : Off b H H') (n : a ≠ b) (h : SqT K H a xs) : SqT K H' a xs := by
  rcases h with (h | ⟨o, h⟩) | h
  · exact .inl (.inl (e _ _ n h))
  · exact .inl (.inr ⟨o, e _ _ n h⟩)
  · exact .inr h
abbrev MB : Int := 11529215047000000000
/-- dice at b, asked at most n times -/
def Bag (H : Hp) (b : Addr) (n : Nat) : Prop := ∃ d m c : Int, H b = some (.lst [.int d, .int m, .int c]) ∧ 0 ≤ d ∧ 0 ≤ m ∧ m < MB ∧ 0 ≤ c ∧ c ≤ n
theorem Bag.mono {H : Hp} {b : Addr} {n k : Nat} (h : Bag H b n) (hk : n ≤ k) : Bag H b k := by
  obtain ⟨d, m, c, h1, h2, h3, h4, h5, h6⟩ := h
  exact ⟨d, m, c, h1, h2, h3, h4, h5, by omega⟩
theorem Bag.same {H H' : Hp} {b : Addr} {n : Nat} (h : Bag H b n) (s : Same H H') : Bag H' b n := by
  obtain ⟨d, m, c, h1, r⟩ := h
  exact ⟨d, m, c, s _ _ h1, r⟩
theorem Bag.new {H : Hp} {b p : Addr} {n : Nat} {o : HO} (h : Bag H b n) (hp : H p = none) : Bag (upd H p o) b n := by
  obtain ⟨d, m, c, h1, r⟩ := h
  exact ⟨d, m, c, by rw [upd_ne (ne_of_none h1 hp)]; exact h1, r⟩
theorem Bag.ne {H : Hp} {b p : Addr} {n : Nat} (h : Bag H b n) (hp : H p = none) : b ≠ p := by
  obtain ⟨d, m, c, h1, r⟩ := h
  exact ne_of_none h1 hp
/-- the names of the built-ins are the built-ins' -/
structure G0 (mg : Str → Option Value) : Prop where
  len : mg "len" = none
  abs : mg "abs" = none
  int : mg "int" = none
  range : mg "range" = none
  tuple : mg "tuple" = none
  list : mg "list" = none
  str : mg "str" = none
  isinstance : mg "isinstance" = none
  sorted : mg "sorted" = none
  set : mg "set" = none
  enumerate : mg "enumerate" = none
  max : mg "max" = none
  min : mg "min" = none
  sum : mg "sum" = none

/-! ### texts by their codes -/
def mkS (l : List Nat) : Str := ⟨l.toArray⟩
theorem mkS_inj {a b : List Nat} (h : mkS a = mkS b) : a = b := by
  have e : a.toArray = b.toArray := congrArg Str.cps h
  simpa using e
theorem mkS_app (a b : List Nat) : mkS a ++ mkS b = mkS (a ++ b) := by
  show (⟨a.toArray ++ b.toArray⟩ : Str) = ⟨(a ++ b).toArray⟩
  rw [List.append_toArray]
theorem mkS_len (a : List Nat) : (mkS a).length = a.length := by
  show a.toArray.size = a.length
  simp
theorem mkS_cps (a : List Nat) : (mkS a).cps.toList = a := by
  show a.toArray.toList = a
  simp
theorem mkS_one (c : Nat) : (⟨#[c]⟩ : Str) = mkS [c] := rfl
theorem mkS_nil : ("" : Str) = mkS [] := by decide +kernel
theorem mkS_of (z : Str) : z = mkS z.cps.toList := by
  show z = ⟨z.cps.toList.toArray⟩
  cases z; simp
theorem cut_to (a : List Nat) (k : Nat) : cutS (mkS a) none (some (k : Int)) = mkS (a.take k) := by
  unfold cutS
  rw [HT.sIx_none, HT.sIx_nat, mkS_cps, mkS_len]
  show mkS ((a.drop 0).take (min k a.length - 0)) = mkS (a.take k)
  rw [List.drop_zero, Nat.sub_zero]
  have e : a.take (min k a.length) = a.take k := List.take_eq_take_iff.mpr (by omega)
  rw [e]
theorem inV_str {x : Str} {xs : List Str} : inV (.str x) (xs.map V.str) = decide (x ∈ xs) := by
  induction xs with
  | nil => simp [inV]
  | cons y xs ih =>
    have e : inV (.str x) ((y :: xs).map V.str) = (eqV (.str y) (.str x) || inV (.str x) (xs.map V.str)) := rfl
    rw [e, ih]
    have e2 : eqV (.str y) (.str x) = (y == x) := rfl
    rw [e2]
    by_cases h : x = y
    · subst h; simp
    · have h2 : (y == x) = false := by
        cases q : (y == x) with
        | false => rfl
        | true => exact absurd (eq_of_beq q).symm h
      rw [h2]; simp [h]
theorem flat_strs (xs : List Str) : (xs.map V.str).all flatV = true := by
  rw [List.all_map]
  exact List.all_eq_true.mpr fun _ _ => rfl
theorem atI_int {α : Type} {xs : List α} {i : Int} (h0 : 0 ≤ i) (h : i.toNat < xs.length) : atI xs i = some xs[i.toNat] := by
  have q := atI_nat (List.getElem?_eq_getElem h)
  have e : ((i.toNat : Nat) : Int) = i := Int.toNat_of_nonneg h0
  exact (congrArg (atI xs) e).symm.trans q
/-- the characters of tokens, the letters -/
def SGN : List Nat := ((List.range 94).map (· + 33)).filter (· != 37)
def LET : List Nat := (List.range 26).map (· + 97)
theorem sgn_len : SGN.length = 93 := by decide +kernel
theorem let_len : LET.length = 26 := by decide +kernel
theorem sgn_nd : SGN.Nodup := by decide +kernel
theorem let_nd : LET.Nodup := by decide +kernel
/-- a list without repetition, all of whose items stand in another one, is not longer -/
theorem nodup_le {α : Type} [DecidableEq α] : ∀ {l m : List α}, l.Nodup → (∀ x ∈ l, x ∈ m) → l.length ≤ m.length
  | [], m, _, _ => Nat.zero_le _
  | a :: l, m, hn, hs => by
    have ha : a ∈ m := hs a List.mem_cons_self
    have h1 := nodup_le (l := l) (m := m.erase a) (List.nodup_cons.mp hn).2 fun x hx => by
      have hne : x ≠ a := fun e => (List.nodup_cons.mp hn).1 (e ▸ hx)
      exact (List.mem_erase_of_ne hne).mpr (hs x (List.mem_cons_of_mem _ hx))
    have h2 := List.length_erase_of_mem ha
    have h3 : 0 < m.length := List.length_pos_of_mem ha
    rw [List.length_cons]
    omega
theorem nodup_map_inj {α β : Type} {f : α → β} : ∀ {l : List α}, l.Nodup → (∀ a b, f a = f b → a = b) → (l.map f).Nodup
  | [], _, _ => List.nodup_nil
  | a :: l, hn, hf => by
    rw [List.map_cons]
    refine List.nodup_cons.mpr ⟨fun h => ?_, nodup_map_inj (List.nodup_cons.mp hn).2 hf⟩
    obtain ⟨b, hb, e⟩ := List.mem_map.mp h
    exact (List.nodup_cons.mp hn).1 (hf _ _ e ▸ hb)
/-- one more sign behind the base, where made is taken: what comes of it -/
def more1 (xs : List Str) (bs : List Nat) (m : List Nat) (c : Nat) : List Nat := if mkS m ∈ xs then bs ++ [c] else m
theorem more_yes {xs : List Str} {bs m : List Nat} {c : Nat} (h : mkS m ∈ xs) : more1 xs bs m c = bs ++ [c] := if_pos h
theorem more_no {xs : List Str} {bs m : List Nat} {c : Nat} (h : mkS m ∉ xs) : more1 xs bs m c = m := if_neg h
theorem more_keep {xs : List Str} {bs : List Nat} : ∀ (cs : List Nat) {m : List Nat}, mkS m ∉ xs → cs.foldl (more1 xs bs) m = m
  | [], _, _ => rfl
  | c :: cs, m, h => by
    rw [List.foldl_cons]
    have e : more1 xs bs m c = m := if_neg h
    rw [e]
    exact more_keep cs h
theorem more_all {xs : List Str} {bs : List Nat} : ∀ (cs : List Nat) {m : List Nat}, mkS (cs.foldl (more1 xs bs) m) ∈ xs → mkS m ∈ xs ∧ ∀ c ∈ cs, mkS (bs ++ [c]) ∈ xs
  | [], m, h => ⟨h, fun _ hc => by cases hc⟩
  | c :: cs, m, h => by
    rw [List.foldl_cons] at h
    obtain ⟨h1, h2⟩ := more_all cs h
    have hm : mkS m ∈ xs := by
      by_cases q : mkS m ∈ xs
      · exact q
      · have e : more1 xs bs m c = m := if_neg q
        rw [e] at h1
        exact h1
    have e : more1 xs bs m c = bs ++ [c] := if_pos hm
    rw [e] at h1
    refine ⟨hm, fun d hd => ?_⟩
    rcases List.mem_cons.mp hd with rfl | hd
    · exact h1
    · exact h2 d hd
theorem more_new {xs : List Str} {bs cs m : List Nat} (hn : cs.Nodup) (hl : xs.length < cs.length) : mkS (cs.foldl (more1 xs bs) m) ∉ xs := fun h => by
  have h2 := (more_all cs h).2
  have h3 : (cs.map fun c => mkS (bs ++ [c])).Nodup := by
    exact nodup_map_inj hn fun a b e => by
      have q := mkS_inj e
      simpa using q
  have h4 := nodup_le h3 fun x hx => by
    obtain ⟨c, hc, rfl⟩ := List.mem_map.mp hx
    exact h2 c hc
  rw [List.length_map] at h4
  omega
theorem more_shape {xs : List Str} {bs cs : List Nat} {S : List Nat → Prop} (hb : ∀ c, c ∈ cs → S (bs ++ [c])) : ∀ {m : List Nat}, S m → S (cs.foldl (more1 xs bs) m) := by
  induction cs with
  | nil => intro m h; exact h
  | cons c cs ih =>
    intro m h
    rw [List.foldl_cons]
    refine ih (fun d hd => hb d (List.mem_cons_of_mem _ hd)) ?_
    unfold more1
    split
    · exact hb c List.mem_cons_self
    · exact h
end Ss
namespace Ss
open PySem L2 PySem.Spec PyProof.Rows
/-! ### the block of a comprehension, whatever it fills -/
/-- ahead of a turn -/
def BlkJ (Y : Cx) (τ : L2.St) (tn : Nat → Heap → Prop) (fp : List Addr) (W : Nat → Nat → Hp → Prop) (n : Nat) (u : Shared) : Prop := ∃ (i : Nat) (G : Hp), Inv Y [] τ G u ∧ tn i u.heap ∧ (∀ b ∈ fp, G b = none) ∧ W i n G
/-- one turn: tests, then the act -/
abbrev TAct := L2.St → Hp → (Hp → Prop) → Prop
def Steps (J : It) (W : Nat → Nat → Hp → Prop) (g : TG) (tt : TT) (ta : TAct) (τ : L2.St) (vs : List Nat) (Qd : Hp → Prop) : Prop := ∀ i m G, W i m G →
  (J.stop i G ∧ Qd G) ∨ (J.go i G ∧ ∃ Nx : Hp → Prop, (∀ G', Nx G' → ∃ m', m' < m ∧ W (i + 1) m' G') ∧ ∀ x G', J.yld i G x G' → g x τ G' fun σ2 G2 => wipe σ2 vs = τ ∧ tt σ2 G2 fun b G3 => if b = true then ta σ2 G3 Nx else Nx G3)
theorem blk_turn {Y : Cx} {tg : Expr} {it : Addr} {fp : List Addr} {tn : Nat → Heap → Prop} {J : It} {τ : L2.St} {vs : List Nat} {W : Nat → Nat → Hp → Prop} {Qd : Hp → Prop} {g : TG} {tt : TT} {ta : TAct} {ifs : List Expr} {Rend : Shared → Prop} {Ac : (Shared → Prop) → Shared → Prop} {E1 E2 E3 E4 : Value → Shared → Prop}
    (hc : Y.calm = true) (T : Turn Y.prog Y.w Y.K tg J fp it tn) (pg : PG Y tg g) (pt : PTs Y ifs tt) (hx : Y.xe = fun _ _ => False)
    (hfp : ∀ (σ' : L2.St) (G : Hp) (u : Shared), Inv Y [] σ' G u → (∀ b ∈ fp, G b = none) → ∀ b ∈ fp, FpOk Y [] G b) (step : Steps J W g tt ta τ vs Qd)
    (hact : ∀ (pins : List (Addr × Obj)) (σ2 : L2.St) (G : Hp) (u : Shared) (Nx : Hp → Prop) (Fin : Shared → Prop), Inv Y pins σ2 G u → ta σ2 G Nx → (∀ u' G', Inv Y pins σ2 G' u' → Nx G' → Fin u') → Ac Fin u)
    (hend : ∀ u G, Inv Y [] τ G u → Qd G → Rend u) (n : Nat) (u : Shared) (hJ : BlkJ Y τ tn fp W n u) :
    wpAny (model Y.prog Y.w) Y.A (pyNext (.ref it)) (fun r s1 => match r with
      | none => Rend s1
      | some v => wpAny (model Y.prog Y.w) Y.A (letOwnedTupleGo tg (.ref it) v) (fun _ s2 => wpAny (model Y.prog Y.w) Y.A (assign tg Y.env v) (fun _ s3 =>
          wpAny (model Y.prog Y.w) Y.A (forIn ifs true fun c r => if r = true then do let ok ← isTrue c Y.env (eval c Y.env); pure (ForInStep.yield ok) else pure (ForInStep.yield r)) (fun ok s4 =>
            if ok = true then Ac (fun s5 => ∃ m, m < n ∧ BlkJ Y τ tn fp W m s5) s4 else ∃ m, m < n ∧ BlkJ Y τ tn fp W m s4) E1 s3) E2 s2) E3 s1) E4 u := by
  obtain ⟨i, G, I, st, hn, w⟩ := hJ
  have noE : ∀ {α : Type} {t : Sem α} {Q1 Q2 : α → Shared → Prop} {E : Value → Shared → Prop} {z : Shared}, wpAny (model Y.prog Y.w) Y.A t Q1 Y.xe z → (∀ a s, Q1 a s → Q2 a s) → wpAny (model Y.prog Y.w) Y.A t Q2 E z := fun h k => by
    rw [hx] at h
    exact thnF h k
  rcases step i n G w with ⟨hs, qd⟩ | ⟨hg, Nx, hNx, go⟩
  · refine thnF (T.done Y rfl rfl rfl hc i [] u τ G (fun _ _ => False) I (hfp _ _ _ I hn) st hs) fun r s1 z => ?_
    obtain ⟨rfl, I1⟩ := z
    exact hend s1 G I1 qd
  · refine thnF (T.item Y rfl rfl rfl hc i [] u τ G (fun _ _ => False) I (hfp _ _ _ I hn) st hg) fun r s1 z => ?_
    obtain ⟨y, rfl, z⟩ := z
    refine thnF z fun _ s2 z2 => ?_
    obtain ⟨x, G2, I2, rx, hy, st2, hn2⟩ := z2
    have I2p := I2.pinned (hfp _ _ _ I2 hn2) (T.obj _ _ st2)
    refine noE (pg.run _ s2 _ G2 x y _ I2p rx (go x G2 hy)) fun _ s3 z3 => ?_
    obtain ⟨σ3, G3, I3, hw, q3⟩ := z3
    refine noE (pt.run _ s3 σ3 G3 _ I3 q3) fun b s4 z4 => ?_
    obtain ⟨G4, I4, q4⟩ := z4
    have close : ∀ u' G', Inv Y ([] ++ pinsAt fp s2.heap) σ3 G' u' → Nx G' → ∃ m, m < n ∧ BlkJ Y τ tn fp W m u' := fun u' G' I' nx => by
      obtain ⟨m', hm, w'⟩ := hNx G' nx
      have at_ : ∀ b ∈ fp, ∀ o, s2.heap.get? b = some o → u'.heap.get? b = some o ∧ G' b = none := fun b hb o e => by
        have z := I'.pin (b, o) (List.mem_append_right _ (List.mem_append_right _ (mem_pinsAt hb e)))
        exact ⟨z.1, z.2.1⟩
      have len : τ.length = σ3.length := by rw [← hw, wipe_length]
      refine ⟨m', hm, i + 1, G', (I'.unpinned (pins := [])).weak len (fun j v e => ?_), T.keep _ _ _ st2 (fun b hb o e => (at_ b hb o e).1), (fun b hb => ?_), w'⟩
      · rw [← hw] at e
        exact (wipe_some e).1
      · obtain ⟨o, e, _⟩ := T.obj _ _ st2 b hb
        exact (at_ b hb o e).2
    cases b with
    | true => exact hact _ σ3 G4 s4 Nx _ I4 (by simpa using q4) close
    | false => exact close s4 G4 I4 (by simpa using q4)
/-- what a comprehension's turn asks of the loop -/
def TurnOf (M : Model) (A : Around) (tg : Expr) (ifs : List Expr) (env : Env) (it : Addr) (Ac : (Shared → Prop) → Shared → Prop) (R : Result → Shared → Prop) (J : Nat → Shared → Prop) : Prop := ∀ (E1 E2 E3 E4 : Value → Shared → Prop) (n : Nat) (u : Shared), J n u →
  wpAny M A (pyNext (.ref it)) (fun r s1 => match r with
      | none => R (.ok .next) s1
      | some v => wpAny M A (letOwnedTupleGo tg (.ref it) v) (fun _ s2 => wpAny M A (assign tg env v) (fun _ s3 =>
          wpAny M A (forIn ifs true fun c r => if r = true then do let ok ← isTrue c env (eval c env); pure (ForInStep.yield ok) else pure (ForInStep.yield r)) (fun ok s4 =>
            if ok = true then Ac (fun s5 => ∃ m, m < n ∧ J m s5) s4 else ∃ m, m < n ∧ J m s4) E1 s3) E2 s2) E3 s1) E4 u
/-- the word of a comprehension that fills the new thing O D -/
def tFill (wi : TI) (g : TG) (tt : TT) (ta : Addr → TAct) (O : Addr → HO) (vs : List Nat) : TE := fun σ H Q => wi σ H fun J H1 => ∀ D, H1 D = none → ∃ W : Nat → Nat → Hp → Prop, (∃ m, W 0 m (upd H1 D (O D))) ∧ Steps J W g tt (ta D) (wipe σ vs) vs (Q (.ref D))
theorem comp_runE {X : Cx} {pins : List (Addr × Obj)} {s : Shared} {σ : L2.St} {H : Hp} {Q : VK} {node tg iter : Expr} {ifs : List Expr} {scope : Scope} {own : List (Str × Nat)} {pos' : Pos} {wi : TI} {g : TG} {tt : TT} {ta : Addr → TAct} {O : Addr → HO} {newX : Sem Value} {o0 : Obj} {use : Option (Value → Sem Unit)} {Qf : Value → Shared → Prop}
    {Ac : Addr → Env → (Shared → Prop) → Shared → Prop}
    (hc : X.calm = true) (hN : X.N.Nodup) (I : Inv X pins σ H s) (hi : ∀ R : It → Hp → Prop, wi σ H R → wpAny (model X.prog X.w) X.A (eval iter X.env) (fun v s1 => wpAny (model X.prog X.w) X.A (pyIter v) (PIE X pins σ tg R) X.xe s1) X.xe s) (ok : BlkOk X.N X.env.scope scope own) (hcl : clausesOf node = [⟨tg, iter, ifs, 0⟩]) (hs : ∀ x, foldedSetIterable iter X.env x = pure x)
    (hnew : ∀ (z : Shared) (Q1 : Value → Shared → Prop) (E : Value → Shared → Prop), Q1 (.ref z.heap.objs.size) { z with heap := z.heap.push o0 } → wpAny (model X.prog X.w) X.A newX Q1 E z)
    (hobj : ∀ (H' : Hp) (h : Heap), sysModules < h.objs.size → ObjOk X.prog X.w H' (h.push o0) h.objs.size (O h.objs.size))
    (hg : ∀ (s : Shared) (H : Hp) (C : Addr) (cl : List (Str × Addr)) (fp : List Addr), PG (X.blk s H scope (compEnvC scope cl C X.env) fp) tg g) (ht : ∀ (s : Shared) (H : Hp) (C : Addr) (cl : List (Str × Addr)) (fp : List Addr), PTs (X.blk s H scope (compEnvC scope cl C X.env) fp) ifs tt)
    (hact : ∀ (s : Shared) (H : Hp) (C : Addr) (cl : List (Str × Addr)) (fp : List Addr) (D : Addr) (pins : List (Addr × Obj)) (σ2 : L2.St) (G : Hp) (u : Shared) (Nx : Hp → Prop) (Fin : Shared → Prop), Inv (X.blk s H scope (compEnvC scope cl C X.env) fp) pins σ2 G u → ta D σ2 G Nx →
      (∀ u' G', Inv (X.blk s H scope (compEnvC scope cl C X.env) fp) pins σ2 G' u' → Nx G' → Fin u') → Ac D (compEnvC scope cl C X.env) Fin u)
    (hstart : ∀ (it D : Addr) (env : Env) (R : Result → Shared → Prop) (z : Shared), codeAny (model X.prog X.w) X.A (.compLoop node 0 (.ref it) (.ref D) env) R z →
      (∀ (Q1 : Value → Shared → Prop) (E : Value → Shared → Prop), Q1 (.ref it) z → wpAny (model X.prog X.w) X.A (pyIter (.ref it)) Q1 E z) → codeAny (model X.prog X.w) X.A (.compStart node 0 (.ref it) (.ref D) env) R z)
    (hloop : ∀ (it D : Addr) (env : Env) (R : Result → Shared → Prop) (J : Nat → Shared → Prop), TurnOf (model X.prog X.w) X.A tg ifs env it (Ac D env) R J → ∀ n z, J n z → codeAny (model X.prog X.w) X.A (.compLoop node 0 (.ref it) (.ref D) env) R z)
    (h : tFill wi g tt ta O (own.map (·.2)) σ H Q)
    (hRR : ∀ D C s' m H', Inv X pins σ H' s' → Q (.ref D) H' → s'.heap.Ns C m → FpOk X pins H' C → compPost (model X.prog X.w) X.A X.xe use Qf (.ref D) C (.ok .next) s') :
    wpAny (model X.prog X.w) X.A (comprehension node scope X.env pos' newX false (eval iter X.env) use) Qf X.xe s := by
  have cells : ∀ y ∈ scope.names, y.2 = .free → ∃ c, X.env.cells.lookup y.1 = some c := fun y hy e => (ok.free y hy e).elim (fun k => I.ok.has _ (.inl k)) fun k => I.ok.has _ (.inr k)
  refine wpAny_comprehension_free (use := use) hcl hs (closure_ok cells) ok.kind (fun y hy e => by rw [ok.uniq y hy, e]) (thn (hi _ h) fun v s1 h1 => thn h1 fun itv s2 h2 => ?_)
  obtain ⟨it, fp, tn, J, H2, rfl, I2, T, st, f2, q⟩ := h2
  refine hnew s2 _ _ (newEnv_comp ?_)
  have n0 : H2 s2.heap.objs.size = none := I2.hok.fresh (Nat.le_refl _)
  obtain ⟨W, ⟨m0, w0⟩, steps⟩ := q _ n0
  generalize hs3 : ({ s2 with heap := s2.heap.push o0 } : Shared) = s3
  have e3 : s3.heap = s2.heap.push o0 := by rw [← hs3]
  have I3 : Inv X pins σ (upd H2 s2.heap.objs.size (O s2.heap.objs.size)) s3 := by
    rw [← hs3]
    exact I2.laid (t' := s2.toks) (fun b o e => Heap.get?_push_of_some _ e) (Nat.le_refl _) (hobj _ s2.heap I2.big)
  have low : ∀ b ∈ fp, b < s2.heap.objs.size := fun b hb => by
    obtain ⟨o, e, _⟩ := T.obj _ _ st b hb
    exact Heap.lt_size e
  have f3 : ∀ b ∈ fp, FpOk X pins (upd H2 s2.heap.objs.size (O s2.heap.objs.size)) b ∧ b < s3.heap.objs.size := fun b hb =>
    ⟨⟨by rw [upd_ne (Nat.ne_of_lt (low b hb))]; exact (f2 b hb).1, (f2 b hb).2⟩, by rw [e3, Heap.size_push]; exact Nat.lt_succ_of_lt (low b hb)⟩
  have I4 := block_start I3 ok hN f3
  have pg := hg s3 (upd H2 s2.heap.objs.size (O s2.heap.objs.size)) s3.heap.objs.size (cellsFrom (s3.heap.objs.size + 1) scope.names (cloFrom X.env.cells scope.names [])) fp
  have pt := ht s3 (upd H2 s2.heap.objs.size (O s2.heap.objs.size)) s3.heap.objs.size (cellsFrom (s3.heap.objs.size + 1) scope.names (cloFrom X.env.cells scope.names [])) fp
  have pa := hact s3 (upd H2 s2.heap.objs.size (O s2.heap.objs.size)) s3.heap.objs.size (cellsFrom (s3.heap.objs.size + 1) scope.names (cloFrom X.env.cells scope.names [])) fp s2.heap.objs.size
  show codeAny _ _ (.compStart node 0 (.ref it) (.ref s2.heap.objs.size) (compEnvC scope (cellsFrom (s3.heap.objs.size + 1) scope.names (cloFrom X.env.cells scope.names [])) s3.heap.objs.size X.env)) (compPost (model X.prog X.w) X.A X.xe use Qf (.ref s2.heap.objs.size) s3.heap.objs.size) { s3 with heap := pushCells (s3.heap.push { cls := .type "dict", data := .dict #[] }) scope.names }
  have none3 : ∀ b ∈ fp, (upd H2 s2.heap.objs.size (O s2.heap.objs.size)) b = none := fun b hb => (f3 b hb).1.1
  have loc4 : (compEnvC scope (cellsFrom (s3.heap.objs.size + 1) scope.names (cloFrom X.env.cells scope.names [])) s3.heap.objs.size X.env).locals = s3.heap.objs.size := rfl
  generalize compEnvC scope (cellsFrom (s3.heap.objs.size + 1) scope.names (cloFrom X.env.cells scope.names [])) s3.heap.objs.size X.env = ce at I4 pg pt pa loc4 ⊢
  have st4 : tn 0 (pushCells (s3.heap.push { cls := .type "dict", data := .dict #[] }) scope.names) := T.keep _ _ _ st fun b _ o e => pushCells_keeps _ _ _ _ (Heap.get?_push_of_some _ (by rw [e3]; exact Heap.get?_push_of_some _ e))
  refine hstart it _ ce _ _ (hloop it _ ce _ (BlkJ (X.blk s3 (upd H2 s2.heap.objs.size (O s2.heap.objs.size)) scope ce fp) (wipe σ (own.map (·.2))) tn fp W) (fun E1 E2 E3 E4 n u hJ => ?_) m0 _ ⟨0, _, I4, st4, none3, w0⟩) fun Q1 E z => T.self X.A 0 _ _ _ st4 z
  refine blk_turn (Y := X.blk s3 (upd H2 s2.heap.objs.size (O s2.heap.objs.size)) scope ce fp) hc T pg pt rfl (fun σ' G u' I' hn b hb => ?_) steps (fun pins σ2 G u' Nx Fin I' ta' k => pa pins σ2 G u' Nx Fin I' ta' k) (fun u' G I' qd => ?_) n u hJ
  · exact ⟨hn b hb, (I'.ok.exf b hb).1, I'.ok.exfs b hb, .inl hb, fun x c e => (I'.ok.exf b hb).2 x c e, fun p hp => nomatch (show p ∈ ([] : List (Addr × Obj)) ++ [] from hp)⟩
  · have I7 : Inv X pins σ G u' := I3.call' (ch := fp) I'.os I'.base I'.hok I'.bare fun b hb => ⟨(f3 b hb).1.2.2.2.1, (f3 b hb).1.2.1, (f3 b hb).1.2.2.2.2.1, (f3 b hb).1.2.2.2.2.2⟩
    have nC : G s3.heap.objs.size = none := by
      have z : G ce.locals = none := I'.free
      rwa [loc4] at z
    obtain ⟨m, hn, _⟩ := I'.loc
    have hn : u'.heap.Ns ce.locals m := hn
    rw [loc4] at hn
    exact hRR _ _ u' m G I7 qd hn (I3.fpOk (Nat.le_refl _) nC)
theorem TurnOf.at {M : Model} {A : Around} {tg : Expr} {ifs : List Expr} {env : Env} {it : Addr} {Ac1 : (Value → Shared → Prop) → (Shared → Prop) → Shared → Prop} {R : Result → Shared → Prop} {J : Nat → Shared → Prop} (t : TurnOf M A tg ifs env it (fun Fin z => ∀ E, Ac1 E Fin z) R J) (E0 : Value → Shared → Prop) (n : Nat) (u : Shared) (hJ : J n u) :
    wpAny M A (pyNext (.ref it)) (fun r s1 => match r with
      | none => R (.ok .next) s1
      | some v => wpAny M A (letOwnedTupleGo tg (.ref it) v) (fun _ s2 => wpAny M A (assign tg env v) (fun _ s3 =>
          wpAny M A (forIn ifs true fun c r => if r = true then do let ok ← isTrue c env (eval c env); pure (ForInStep.yield ok) else pure (ForInStep.yield r)) (fun ok s4 =>
            if ok = true then Ac1 E0 (fun s5 => ∃ m, m < n ∧ J m s5) s4 else ∃ m, m < n ∧ J m s4) E0 s3) E0 s2) E0 s1) E0 u := by
  refine wpAny_mono (t E0 E0 E0 E0 n u hJ) (fun r s1 h1 => ?_) fun _ _ z => z
  cases r with
  | none => exact h1
  | some v =>
    refine wpAny_mono h1 (fun _ s2 h2 => wpAny_mono h2 (fun _ s3 h3 => wpAny_mono h3 (fun ok s4 h4 => ?_) fun _ _ z => z) fun _ _ z => z) fun _ _ z => z
    cases ok with
    | true => exact (show ∀ E, Ac1 E (fun s5 => ∃ m, m < n ∧ J m s5) s4 from by simpa using h4) E0
    | false => exact h4
section
variable {X : Cx}
/-- [e for x in it if ..], the first token is out -/
theorem pet_lc {elt tg iter : Expr} {ifs : List Expr} {scope : Scope} {own : List (Str × Nat)} {pos : Pos} {wi : TI} {g : TG} {tt : TT} {te : TE} (hc : X.calm = true) (hN : X.N.Nodup) (hi : PIT X tg iter wi) (ok : BlkOk X.N X.env.scope scope own)
    (hg : ∀ (s : Shared) (H : Hp) (C : Addr) (cl : List (Str × Addr)) (fp : List Addr), PG (X.blk s H scope (compEnvC scope cl C X.env) fp) tg g) (ht : ∀ (s : Shared) (H : Hp) (C : Addr) (cl : List (Str × Addr)) (fp : List Addr), PTs (X.blk s H scope (compEnvC scope cl C X.env) fp) ifs tt)
    (he : ∀ (s : Shared) (H : Hp) (C : Addr) (cl : List (Str × Addr)) (fp : List Addr), PE (X.blk s H scope (compEnvC scope cl C X.env) fp) elt te) (hs : ∀ x, foldedSetIterable iter X.env x = pure x := by intro _; rfl) :
    PET X (.ListComp elt [⟨tg, iter, ifs, 0⟩] scope pos) (tLc wi g tt te (own.map (·.2))) := by
  intro pins s σ H Q h0 I h
  rw [eval_ListComp]
  refine comp_runE (o0 := { cls := .type "list", data := .seq ([] : List Value).toArray }) (O := fun _ => .lst []) (ta := fun D σ G Nx => te σ G fun y G1 => ∃ acc, G1 D = some (.lst acc) ∧ acc.length < sizeLine ∧ Nx (upd G1 D (.lst (acc ++ [y]))))
    (Ac := fun D env Fin u => ∀ E, wpAny (model X.prog X.w) X.A (eval elt env) (fun x s5 => wpAny (model X.prog X.w) X.A (call (.builtin "list.append") [.ref D, x]) (fun _ s6 => Fin s6) E s5) E u)
    hc hN I (fun R r => hi pins s σ H R h0 I r) ok rfl hs (fun z Q1 E q => wpAny_newObj_type q (by show 0 ≤ sizeLine; decide)) (fun H' hp hb => ⟨Nat.zero_le _, [], 0, .nil, Heap.get?_push_size _ rfl⟩) hg ht
    (fun s0 H0 C cl fp D pins σ2 G u Nx Fin I' ta k E => thnF ((he s0 H0 C cl fp).run pins u σ2 G _ I' ta) fun x s5 ⟨y, G1, I1, ry, acc, hD, hz, nx⟩ => app_ok (X := X.blk s0 H0 scope (compEnvC scope cl C X.env) fp) I1 hD hz ry fun s6 I6 => k s6 _ I6 nx)
    (fun it D env R z loop self => codeAny_compStart_list loop (self _ _ loop)) (fun it D env R J t n z hJ => compLoop_any J (fun n z hJ => TurnOf.at t _ n z hJ) n hJ) h (fun D C s' m H' I' q hn f => ⟨m, hn, fun h'' sb => ?_⟩)
  obtain ⟨f0, f1, f2, f3, f4, f5⟩ := f
  exact ⟨.ref D, H', I'.turned (t' := s'.toks) (fun b o hb e => (sb.2 b hb).trans e) f0 f1 f3 f4 f5, rfl, q⟩
/-- e.split(sep), the first token is out -/
theorem pet_split {o e : Expr} {to te : TE} {apos pos : Pos} (ho : PET X o to) (he : PE X e te) (hs : starEach [e] X.env = [(false, eval e X.env)] := by rfl)
    (hbase : attributeBase o "split" X.env (eval o X.env) = eval o X.env := by rfl) (hline : (apos.endLine == pos.line) = true := by rfl) :
    PET X (.Call (.Attribute o "split" apos) [e] [] pos) (fun σ H Q => to σ H fun x H1 => ∃ a, x = .str a ∧ te σ H1 fun y H2 => ∃ b, y = .str b ∧ (b.length == 0) = false ∧ a.length + 2 ≤ sizeLine ∧ rNewStrs (Txt.split a b) H2 Q) := by
  intro pins s σ H Q h0 I h
  refine PySem.Call_method1 hbase hs hline (thn (ho pins s σ H _ h0 I h) fun v s1 ⟨x, H1, I1, r1, a, ea, q1⟩ => ?_)
  subst ea
  cases r1 with
  | intro tk e1 =>
    subst e1
    exact ⟨"str", _, F.plainAttrs_str, F.slot_str_split, F.type_str_split, typeIs_str _ _ _, (fun _ z => nomatch z), Calls.callWith_builtin rfl (Calls.evalArgs_plain (Calls.spliced_cons (thn (he.run pins s1 σ H1 _ I1 q1) fun u s2 ⟨y, H2, I2, r2, b, eb, q2⟩ =>
      Calls.spliced_nil (mt_split pins s2 σ H2 _ [y] _ [u] Q I2 (show RelV (.str a) (.str a tk) from ⟨tk, rfl⟩) (.cons r2 .nil) ⟨a, b, rfl, by rw [eb], q2⟩))))⟩
/-- a def by its body, where a token must be out -/
theorem fun_okT {P : Program} {w : World} {K : PySem.W.Frag} {mg : Str → Option Value} {base : Heap} {CX : CXT} {x qual : Str} {st : Stmt} {f : Addr} {fd : FuncData} {N ps : List Str} {k : Nat} {sp : Sp} (F : Fun K x qual st f fd) (S : FnScope N ps (defScope st)) (hnc : ∀ y ∈ (defScope st).names, y.2 ≠ .cell) (hps : 1 ≤ ps.length)
    (len : ∀ vs H Q E, sp vs H Q E → vs.length = ps.length)
    (hbody : ∀ (cdv : Value) (A : Around) (outer : List Env) (s : Shared) (H : Hp) (vs : List V) (Q : VK) (E : XK), Room k (A.deeper (envOfC qual (defScope st) s.heap.objs.size f cdv)) → sp vs H Q E →
      ∃ t, PSsT (cxOf CX P w K mg base N qual (defScope st) f cdv A outer s H E) (defBody st) t ∧ t { nx := fun _ H' => Q .non H', rt := Q } (start N vs) H) :
    FnOk P w K mg base CX (k + 1) f fd ps sp := by
  obtain ⟨oc, od, kV, doc, pm, an, cdv, ct, osl, rfl, lk, hcd⟩ := F.ex
  exact fn_ofT lk hcd S hnc hps len (hbody cdv)
end
end Ss
namespace Ss
open PySem L2
/-! ### the runs of a text -/
/-- blanks and line feeds -/
def gapC (c : Nat) : Bool := c == 32 || c == 10
def rn : List Nat → List Nat → List (List Nat)
  | acc, [] => if acc = [] then [] else [acc]
  | acc, c :: r => if gapC c = true then (if acc = [] then rn [] r else acc :: rn [] r) else rn (acc ++ [c]) r
theorem repl_gap : ∀ L : List Nat, PySem.StrLaws.replL [10] [32] L = L.map fun c => if c = 10 then 32 else c
  | [] => PySem.StrLaws.replL_nil
  | c :: r => by
    by_cases h : c = 10
    · subst h
      rw [PySem.StrLaws.replL_hit (by simp) rfl]
      show 32 :: PySem.StrLaws.replL [10] [32] r = _
      rw [repl_gap r]
      rfl
    · rw [PySem.StrLaws.replL_miss (by show ¬ (c :: r).take 1 = [10]; simpa using h), repl_gap r, List.map_cons, if_neg h]
theorem spl_rn : ∀ (L acc : List Nat), ((TL.spl [32] 0 acc (L.map fun c => if c = 10 then 32 else c)).filter fun t => t != []) = rn acc L
  | [], acc => by
    rw [List.map_nil, TL.spl_nil, rn]
    by_cases h : acc = []
    · rw [if_pos h, List.filter_cons, if_neg (by simpa using h)]; rfl
    · rw [if_neg h, List.filter_cons, if_pos (by simpa using h)]; rfl
  | c :: r, acc => by
    rw [List.map_cons, rn]
    have pr : ∀ d : Nat, TL.pre [32] (d :: (r.map fun c => if c = 10 then 32 else c)) = (d == 32) := fun d => by
      cases hd : (d == 32) with
      | true => have e := eq_of_beq hd; subst e; rfl
      | false =>
        have e : (32 == d) = false := beq_eq_false_iff_ne.mpr fun z => by rw [← z] at hd; exact Bool.noConfusion hd
        first
        | rfl
        | simp [TL.pre, hd, e]
    by_cases h : gapC c = true
    · have e : (if c = 10 then 32 else c) = 32 := by
        unfold gapC at h
        rw [Bool.or_eq_true, beq_iff_eq, beq_iff_eq] at h
        rcases h with h | h
        · subst h; rfl
        · subst h; rfl
      rw [if_pos h, e, TL.spl_hit (by rw [pr]; rfl), List.filter_cons]
      show _ = if acc = [] then rn [] r else acc :: rn [] r
      have ih := spl_rn r []
      by_cases q : acc = []
      · rw [if_neg (by simpa using q), if_pos q]; exact ih
      · rw [if_pos (by simpa using q), if_neg q]; exact congrArg (acc :: ·) ih
    · have h32 : c ≠ 32 := fun z => h (by rw [z]; rfl)
      have h10 : c ≠ 10 := fun z => h (by rw [z]; rfl)
      rw [if_neg h, if_neg h10, TL.spl_miss (by rw [pr]; exact beq_eq_false_iff_ne.mpr h32)]
      exact spl_rn r (acc ++ [c])
/-- the parts of a text between blanks -/
def partsS (z : Str) : List Str := Txt.split (Txt.replace z "\n" " ") " "
theorem parts_rn (z : Str) : (((partsS z).filter fun y : Str => y != "").map V.str) = (rn [] z.cps.toList).map fun t => V.str (mkS t) := by
  have e10 : ("\n" : Str).cps.toList = [10] := by decide +kernel
  have e32 : (" " : Str).cps.toList = [32] := by decide +kernel
  have s1 := TL.split_spl (Txt.replace z "\n" " ") " " (by show (" " : Str).cps.toList ≠ []; rw [e32]; simp) (TL.kind_ok (by decide +kernel))
  have r1 := PySem.StrLaws.replace_list (x := z) (y := "\n") (z := " ") (by decide +kernel)
  rw [e10, e32, repl_gap] at r1
  have s2 : (partsS z).map (fun y => y.cps.toList) = TL.spl [32] 0 [] (z.cps.toList.map fun c => if c = 10 then 32 else c) := by
    have q : (partsS z).map (fun y => y.cps.toList) = TL.spl (" " : Str).cps.toList 0 [] (Txt.replace z "\n" " ").cps.toList := s1
    rw [e32, r1] at q
    exact q
  rw [← spl_rn, ← s2, List.filter_map, List.map_map]
  have f1 : ((fun t : List Nat => t != []) ∘ fun y : Str => y.cps.toList) = fun y : Str => y != "" := by
    funext y
    show (y.cps.toList != []) = (y != "")
    by_cases h : y = ""
    · subst h; rfl
    · exact (bne_iff_ne.mpr (fun z => h (by rw [mkS_of y, z]; exact mkS_nil.symm))).trans (bne_iff_ne.mpr h).symm
  have f2 : ((fun t => V.str (mkS t)) ∘ fun y : Str => y.cps.toList) = V.str := by
    funext y
    show V.str (mkS y.cps.toList) = V.str y
    rw [← mkS_of]
  rw [f1, f2]
theorem parts_len (z : Str) : (partsS z).length ≤ z.length + z.length + 3 := by
  have h1 := PyProof.Rows.split_le (Txt.replace z "\n" " ") " "
  have h2 := TK.replace_len z "\n" " "
  have h3 : (" " : Str).length = 1 := by decide +kernel
  rw [h3, Nat.mul_one] at h2
  unfold partsS
  omega
/-! ### what is laid -/
theorem rn_gap : ∀ {g : List Nat} (r : List Nat), (∀ c ∈ g, gapC c = true) → rn [] (g ++ r) = rn [] r
  | [], r, _ => rfl
  | c :: g, r, h => by
    rw [List.cons_append, rn, if_pos (h c List.mem_cons_self), if_pos rfl]
    exact rn_gap r fun d hd => h d (List.mem_cons_of_mem _ hd)
theorem rn_tok : ∀ {t : List Nat} (acc r : List Nat), (∀ c ∈ t, gapC c = false) → rn acc (t ++ r) = rn (acc ++ t) r
  | [], acc, r, _ => by rw [List.append_nil]; rfl
  | c :: t, acc, r, h => by
    rw [List.cons_append, rn, if_neg (by rw [h c List.mem_cons_self]; exact Bool.false_ne_true), rn_tok (acc ++ [c]) r (fun d hd => h d (List.mem_cons_of_mem _ hd)), List.append_assoc]
    rfl
theorem rn_end {acc g : List Nat} (r : List Nat) (ha : acc ≠ []) (hg : g ≠ []) (h : ∀ c ∈ g, gapC c = true) : rn acc (g ++ r) = acc :: rn [] r := by
  cases g with
  | nil => exact absurd rfl hg
  | cons c g =>
    rw [List.cons_append, rn, if_pos (h c List.mem_cons_self), if_neg ha, rn_gap r fun d hd => h d (List.mem_cons_of_mem _ hd)]
/-- a text whose runs are these, the last one perhaps not at its end -/
structure Laid (z : List Nat) (ts : List (List Nat)) : Prop where
  run : ∀ g r : List Nat, (∀ c ∈ g, gapC c = true) → g ≠ [] → rn [] (z ++ (g ++ r)) = ts ++ rn [] r
  fin : ∀ g : List Nat, (∀ c ∈ g, gapC c = true) → rn [] (z ++ g) = ts
theorem laid_nil : Laid [] [] := ⟨fun g r h _ => rn_gap r h, fun g h => by
  have q := rn_gap (g := g) [] h
  rw [List.append_nil] at q
  exact q⟩
theorem laid_first {g t : List Nat} (hg : ∀ c ∈ g, gapC c = true) (ht : ∀ c ∈ t, gapC c = false) (h1 : t ≠ []) : Laid (g ++ t) [t] := by
  have base : ∀ r, rn [] (g ++ t ++ r) = rn t r := fun r => by rw [List.append_assoc, rn_gap _ hg, rn_tok [] r ht, List.nil_append]
  refine ⟨fun g2 r h2 hn => ?_, fun g2 h2 => ?_⟩
  · rw [base, rn_end r h1 hn h2]; rfl
  · rw [base]
    by_cases hn : g2 = []
    · rw [hn, rn, if_neg h1]
    · have q := rn_end [] h1 hn h2
      rw [List.append_nil] at q
      rw [q]; rfl
theorem laid_more {z g t : List Nat} {ts : List (List Nat)} (L : Laid z ts) (hg : ∀ c ∈ g, gapC c = true) (hn : g ≠ []) (ht : ∀ c ∈ t, gapC c = false) (h1 : t ≠ []) : Laid (z ++ g ++ t) (ts ++ [t]) := by
  have T := laid_first (g := []) (t := t) (fun c hc => nomatch hc) ht h1
  have base : ∀ r, rn [] (z ++ g ++ t ++ r) = ts ++ rn [] (t ++ r) := fun r => by rw [List.append_assoc, List.append_assoc, L.run g _ hg hn]
  refine ⟨fun g2 r h2 hn2 => ?_, fun g2 h2 => ?_⟩
  · rw [base, show t ++ (g2 ++ r) = [] ++ t ++ (g2 ++ r) from rfl, T.run g2 r h2 hn2, List.append_assoc]
  · rw [base, show t ++ g2 = [] ++ t ++ g2 from rfl, T.fin g2 h2]
theorem sgn_gap : ∀ c ∈ SGN, gapC c = false := by decide +kernel
theorem gap_more {x : V} (h : x ∈ [V.str " ", V.str " ", V.str " ", V.str "  ", V.str "\n", V.str " \n ", V.str "\n\n"]) : ∃ g : List Nat, x = .str (mkS g) ∧ (∀ c ∈ g, gapC c = true) ∧ g ≠ [] ∧ g.length ≤ 3 := by
  simp only [List.mem_cons, List.not_mem_nil, or_false] at h
  rcases h with rfl | rfl | rfl | rfl | rfl | rfl | rfl
  · exact ⟨[32], congrArg V.str (by decide +kernel), by decide, by decide, by decide⟩
  · exact ⟨[32], congrArg V.str (by decide +kernel), by decide, by decide, by decide⟩
  · exact ⟨[32], congrArg V.str (by decide +kernel), by decide, by decide, by decide⟩
  · exact ⟨[32, 32], congrArg V.str (by decide +kernel), by decide, by decide, by decide⟩
  · exact ⟨[10], congrArg V.str (by decide +kernel), by decide, by decide, by decide⟩
  · exact ⟨[32, 10, 32], congrArg V.str (by decide +kernel), by decide, by decide, by decide⟩
  · exact ⟨[10, 10], congrArg V.str (by decide +kernel), by decide, by decide, by decide⟩
theorem gap_first {x : V} (h : x ∈ [V.str "", V.str "", V.str " ", V.str "\n"]) : ∃ g : List Nat, x = .str (mkS g) ∧ (∀ c ∈ g, gapC c = true) ∧ g.length ≤ 3 := by
  simp only [List.mem_cons, List.not_mem_nil, or_false] at h
  rcases h with rfl | rfl | rfl | rfl
  · exact ⟨[], congrArg V.str (by decide +kernel), by decide, by decide⟩
  · exact ⟨[], congrArg V.str (by decide +kernel), by decide, by decide⟩
  · exact ⟨[32], congrArg V.str (by decide +kernel), by decide, by decide⟩
  · exact ⟨[10], congrArg V.str (by decide +kernel), by decide, by decide⟩
theorem gap_last {x : V} (h : x ∈ [V.str "", V.str "", V.str " ", V.str "\n", V.str "\n \n"]) : ∃ g : List Nat, x = .str (mkS g) ∧ (∀ c ∈ g, gapC c = true) ∧ g.length ≤ 3 := by
  simp only [List.mem_cons, List.not_mem_nil, or_false] at h
  rcases h with rfl | rfl | rfl | rfl | rfl
  · exact ⟨[], congrArg V.str (by decide +kernel), by decide, by decide⟩
  · exact ⟨[], congrArg V.str (by decide +kernel), by decide, by decide⟩
  · exact ⟨[32], congrArg V.str (by decide +kernel), by decide, by decide⟩
  · exact ⟨[10], congrArg V.str (by decide +kernel), by decide, by decide⟩
  · exact ⟨[10, 32, 10], congrArg V.str (by decide +kernel), by decide, by decide⟩
/-- the promise of runs_of -/
def spRuns : Sp := fun vs H Q _ => ∃ z : Str, vs = [.str z] ∧ z.length ≤ 1000000 ∧ ∀ (p : Addr) (H' : Hp), H p = none → Same H H' → H' p = some (.lst ((rn [] z.cps.toList).map fun t => V.str (mkS t))) → Q (.ref p) H'
end Ss
namespace Ss
open PySem L2 PySem.Spec PyProof.Rows
/-- what changes at b alone, b new at first, leaves all as it was -/
theorem same_off {H H1 H2 : Hp} {b : Addr} (s : Same H H1) (hb : H b = none) (o : Off b H1 H2) : Same H H2 := fun a u h => o a u (ne_of_none h hb) (s a u h)
theorem fresh_off {H H1 H2 : Hp} {b p : Addr} (s : Same H H1) (hb : H b = none) (o : Off b H1 H2) (hp : H2 p = none) : H p = none := Evl.fresh_back (same_off s hb o) hp
theorem el_catL {σ : L2.St} {H : Hp} {ta tb : TE} {l : Addr} {xs ys : List V} (ha : Evl.Ev ta σ H (.ref l)) (hl : H l = some (.lst xs)) (hb : Evl.EvL tb σ H ys) (hz : xs.length + ys.length ≤ 100000) : Evl.EvL (tOp rCat ta tb) σ H (xs ++ ys) := fun H1 e Q q =>
  ha H1 e _ fun H2 e2 => hb H2 (e.trans e2) _ fun p H3 hp e3 h3 => ⟨l, p, xs, ys, rfl, rfl, e3 _ _ (e2 _ _ (e _ _ hl)), h3, Evl.sz_of hz, fun r hr => q r _ (Evl.fresh_back (e2.trans e3) hr) ((e2.trans e3).trans (Evl.Ex.new hr)) upd_same⟩
theorem Bag.ne' {H H3 : Hp} {b r : Addr} {n : Nat} {o : HO} (_ : Bag H b n) (h : H3 r = some o) (hb : H3 b = none) : r ≠ b := ne_of_none h hb
/-! ### lists of texts as data -/
theorem dp_strs {K : PySem.W.Frag} {H : Hp} : ∀ ts : List Str, DpAll K H (ts.map V.str) (ts.map PyData.str)
  | [] => .nil
  | t :: ts => .cons (.str t) (dp_strs ts)
/-- a text of signs that there are -/
def okS (z : Str) : Bool := PyData.canLay0 (.str z)
theorem lay_strs : ∀ ts : List Str, ts.all okS = true → PyData.canLayAll0 (ts.map PyData.str) = true
  | [], _ => rfl
  | t :: ts, h => by
    rw [List.all_cons, Bool.and_eq_true] at h
    show (PyData.canLay0 (.str t) && PyData.canLayAll0 (ts.map PyData.str)) = true
    rw [lay_strs ts h.2, Bool.and_true]
    exact h.1
theorem deep_strs : ∀ ts : List Str, PyData.depthAll (ts.map PyData.str) = 0
  | [] => rfl
  | t :: ts => by
    show max (PyData.depth (.str t)) (PyData.depthAll (ts.map PyData.str)) = 0
    rw [deep_strs ts]
    rfl
theorem shaped_strs {ts : List Str} (h : ts.all okS = true) : SeqAt.shaped (.list (ts.map PyData.str)) = true := by
  show (PyData.canLayAll0 (ts.map PyData.str) && decide (PyData.depthAll (ts.map PyData.str) + 1 ≤ 64)) = true
  rw [lay_strs ts h, deep_strs]
  rfl
theorem okS_mk {t : List Nat} (h : ∀ c ∈ t, c < 1114112) : okS (mkS t) = true := by
  show (mkS t).cps.all (fun c => decide (c < 0x110000)) = true
  rw [← Array.all_toList, mkS_cps]
  exact List.all_eq_true.mpr fun c hc => decide_eq_true (h c hc)
theorem data_same {d : PyData} (h : SeqAt.shaped d = true) : PyData.eqv d d = true := SeqAt.eqv_refl d (SeqAt.canLay_of_shaped h)
theorem rv_eqs {K : PySem.W.Frag} {H : Hp} {p q : Addr} {ts : List Str} (h : ts.all okS = true) (h1 : SqL K H p (ts.map V.str)) (h2 : SqL K H q (ts.map V.str)) : Evl.RV (rEqD K) (.ref p) (.ref q) H (.bl true) := fun H1 e Q k =>
  ⟨_, _, .lst (Evl.ex_l e h1) (dp_strs ts), .lst (Evl.ex_l e h2) (dp_strs ts), shaped_strs h, shaped_strs h, by rw [data_same (shaped_strs h)]; exact k H1 (Evl.Ex.refl H1)⟩
theorem rv_nes {K : PySem.W.Frag} {H : Hp} {p q : Addr} {ts : List Str} (h : ts.all okS = true) (h1 : SqL K H p (ts.map V.str)) (h2 : SqL K H q (ts.map V.str)) : Evl.RV (rNeD K) (.ref p) (.ref q) H (.bl false) := fun H1 e Q k =>
  ⟨_, _, .lst (Evl.ex_l e h1) (dp_strs ts), .lst (Evl.ex_l e h2) (dp_strs ts), shaped_strs h, shaped_strs h, by rw [data_same (shaped_strs h)]; exact k H1 (Evl.Ex.refl H1)⟩
/-- isinstance(x, list) of a list -/
theorem rc_isL {K : PySem.W.Frag} {H : Hp} {p : Addr} {xs : List V} (h : H p = some (.lst xs)) : Evl.RC (rIsi K) [.ref p, .ty "list"] H (.bl true) := fun H1 s Q q =>
  ⟨.ref p, .ty "list", .type "list", .type "list", true, rfl, .ty _, .base (.lst (s _ _ h)), kit_ty (by decide +kernel), q H1 (Evl.Ex.refl H1)⟩
/-- lists of texts by their codes -/
theorem map_mk (ts : List (List Nat)) : (ts.map fun t => V.str (mkS t)) = (ts.map mkS).map V.str := by rw [List.map_map]; rfl
end Ss
namespace Ss
open PySem L2 PySem.Spec PyProof.Rows
/-! ### a call sees a part of what is tracked -/
/-- all but what stands at b -/
def rm (H : Hp) (b : Addr) : Hp := fun a => if a = b then none else H a
theorem rm_at (H : Hp) (b : Addr) : rm H b b = none := if_pos rfl
theorem rm_ne {H : Hp} {a b : Addr} (h : a ≠ b) : rm H b a = H a := if_neg h
theorem rm_some {H : Hp} {a b : Addr} {o : HO} (h : rm H b a = some o) : a ≠ b ∧ H a = some o := by
  by_cases e : a = b
  · rw [e, rm_at] at h; cases h
  · rw [rm_ne e] at h; exact ⟨e, h⟩
theorem rm_same (H : Hp) (b : Addr) : Same (rm H b) H := fun _ _ h => (rm_some h).2
theorem rm_off {H H' : Hp} {b : Addr} (h : Off b H H') : Same (rm H b) (rm H' b) := fun a o e => by
  obtain ⟨n, e⟩ := rm_some e
  rw [rm_ne n]
  exact h a o n e
theorem rm_upd {G : Hp} {b : Addr} {o : HO} (h : G b = none) : rm (upd G b o) b = G := by
  funext a
  by_cases e : a = b
  · rw [e, rm_at, h]
  · rw [rm_ne e, upd_ne e]
theorem upd_rm {H : Hp} {b : Addr} {o : HO} (h : H b = some o) : upd (rm H b) b o = H := by
  funext a
  by_cases e : a = b
  · rw [e, upd_same, h]
  · rw [upd_ne e, rm_ne e]
/-- the promise sp, of what is tracked beside a list at b -/
def spF (sp : Sp) : Sp := fun vs H Q E => ∃ (b : Addr) (xs : List V), H b = some (.lst xs) ∧ sp vs (rm H b) (fun v H' => H' b = none → Q v (upd H' b (.lst xs))) E
theorem ok_part {P : Program} {w : World} {H H' : Hp} {h : Heap} {a : Addr} (hs : ∀ b o, (∀ xs, o ≠ .lst xs) → H b = some o → H' b = some o) : ∀ {o : HO}, ObjOk P w H h a o → ObjOk P w H' h a o
  | .lst _, x => x
  | .tup _, x => x
  | .dK _, x => x
  | .dT kvs, x => by
    obtain ⟨h1, h2, xs, p, q⟩ := x
    exact ⟨h1, h2, xs, L2.Paired.mapP p fun _ _ z => ⟨z.1, hs _ _ (fun _ e => by cases e) z.2.1, z.2.2⟩, q⟩
  | .set _ _, x => x
  | .ins C dx fs, x => by
    obtain ⟨h1, h2⟩ := x
    exact ⟨hs _ _ (fun _ e => by cases e) h1, h2⟩
  | .own _, x => x
  | .xd _, x => x
  | .rng _ _, x => x
  | .frz o u, x => ⟨x.1, ok_part hs x.2⟩
  | .tbl _, x => x
  | .met _ _, x => x
  | .ext _, x => x
theorem hok_rm {P : Program} {w : World} {H : Hp} {h : Heap} {b : Addr} {xs : List V} (hb : H b = some (.lst xs)) (k : HOk P w H h) : HOk P w (rm H b) h := fun a o e => by
  obtain ⟨n, e⟩ := rm_some e
  exact ok_part (fun c u nl hc => by
    rw [rm_ne (fun z => by rw [z, hb] at hc; cases hc; exact nl _ rfl)]; exact hc) (k a o e)
theorem FnOk.frame {P : Program} {w : World} {K : PySem.W.Frag} {mg : Str → Option Value} {base : Heap} {k : Nat} {f : Addr} {fd : FuncData} {ps : List Str} {sp : Sp} (F : FnOk P w K mg base CX0 k f fd ps sp) : FnOk P w K mg base CX0 k f fd ps (spF sp) := by
  refine ⟨fun vs H Q E h => let ⟨b, xs, _, q⟩ := h; F.len _ _ _ _ q, fun A outer s H args us vs Q E hr e0 hb hv h => ?_⟩
  obtain ⟨b, xs, hbx, q⟩ := h
  have nf : b ∉ frs outer := fun z => by rw [e0.frf b z] at hbx; cases hbx
  have hob := e0.hok b _ hbx
  obtain ⟨hz, its, n, hvs, hget⟩ := hob
  have e1 : Env0 P w K mg base A outer s (rm H b) := ⟨e0.frames, e0.mod, fun c o z => ⟨(e0.bs c o z).1, by
      by_cases e : c = b
      · rw [e]; exact rm_at H b
      · rw [rm_ne e]; exact (e0.bs c o z).2⟩, e0.bsz, e0.funs, fun c z => by
      by_cases e : c = b
      · rw [e]; exact rm_at H b
      · rw [rm_ne e]; exact e0.frf c z, hok_rm hbx e0.hok, e0.bare⟩
  refine codeAny_mono (F.run A outer s (rm H b) args us vs _ E hr e1 hb hv q) fun r s' hr' => ?_
  cases r with
  | error e => exact hr'
  | ok fl =>
    cases fl with
    | next => exact hr'
    | brk => exact hr'
    | cont => exact hr'
    | ret u =>
      obtain ⟨v, H', os, bare, un, ok, rv, qq⟩ := hr'
      have nb' : H' b = none := un.free b _ hget (rm_at H b) (by simp)
      have gb' := un.keep b _ hget (rm_at H b) nf (by simp)
      refine ⟨v, upd H' b (.lst xs), os, bare, ⟨fun c o z hc hf hx => ?_, fun c o z hc hf hx => ?_, fun c o z hc hx => ?_, un.there, fun c ys z => ?_, fun c o u z => ?_, fun c ps z => ?_⟩, fun c o z => ?_, rv, qq nb'⟩
      · have ne : c ≠ b := fun e => by rw [e, hbx] at hc; cases hc
        exact un.keep c o z (by rw [rm_ne ne]; exact hc) hf hx
      · have ne : c ≠ b := fun e => by rw [e, hbx] at hc; cases hc
        exact un.slot c o z (by rw [rm_ne ne]; exact hc) hf hx
      · have ne : c ≠ b := fun e => by rw [e, hbx] at hc; cases hc
        rw [upd_ne ne]
        exact un.free c o z (by rw [rm_ne ne]; exact hc) hx
      · have ne : c ≠ b := fun e => by rw [e, hbx] at z; cases z
        rw [upd_ne ne]
        exact un.tups c ys (by rw [rm_ne ne]; exact z)
      · have ne : c ≠ b := fun e => by rw [e, hbx] at z; cases z
        rw [upd_ne ne]
        exact un.frzs c o u (by rw [rm_ne ne]; exact z)
      · have ne : c ≠ b := fun e => by rw [e, hbx] at z; cases z
        obtain ⟨more, q⟩ := un.tbls c ps (by rw [rm_ne ne]; exact z)
        exact ⟨more, by rw [upd_ne ne]; exact q⟩
      · by_cases e : c = b
        · subst e
          rw [upd_same] at z
          cases z
          exact ⟨hz, its, n, hvs, gb'⟩
        · rw [upd_ne e] at z
          exact ok_part (fun d u nl hd => by rw [upd_ne (fun y => by rw [y, nb'] at hd; cases hd)]; exact hd) (ok c o z)
variable {P : Program} {w : World} {K : PySem.W.Frag} {mg : Str → Option Value} {base : Heap} {k : Nat} {x m : Str} {C : Addr} {ps : List Str} {sp : Sp}
theorem Dk.frame (D : Dk P w K mg base CX0 k x ps sp) : Dk P w K mg base CX0 k x ps (spF sp) := let ⟨f, fd, F, r⟩ := D.ex; ⟨f, fd, FnOk.frame F, r⟩
theorem Mm.frame (D : Mm P w K mg base CX0 C k m ps sp) : Mm P w K mg base CX0 C k m ps (spF sp) := let ⟨f, fd, F, r⟩ := D.ex; ⟨f, fd, FnOk.frame F, r⟩
end Ss
namespace Ss
open PySem L2 PyProof.Rows
/-! ### the signs of an own class: + | - ~ * .., in, len -/
theorem inv_fr {X : Cx} {pins : List (Addr × Obj)} {σ : L2.St} {H : Hp} {s : Shared} (I : Inv X pins σ H s) : ∃ m, Fr X.base X.env.locals s.heap m :=
  let ⟨m, n, _⟩ := I.loc
  ⟨m, n, I.bk, Nat.le_trans I.ok.bsz I.ok.above⟩
/-- behind a call of an own def: its value is no mark of a sign that isn't there -/
theorem cmp_back {X : Cx} {pins : List (Addr × Obj)} {σ : L2.St} {Q : VK} {v : Value} {s : Shared} (h : EP X pins σ Q v s) : PySem.W.CmpBack (EP X pins σ Q) v s := by
  obtain ⟨x, H', I, r, q⟩ := id h
  cases x with
  | non => obtain rfl : v = .none := r; exact h
  | bl b => obtain rfl : v = .bool b := r; exact h
  | int i => obtain ⟨t, rfl⟩ := (show ∃ t, v = Value.int i t from r); exact h
  | str z => obtain ⟨t, rfl⟩ := (show ∃ t, v = Value.str z t from r); exact h
  | byt b => obtain ⟨t, rfl⟩ := (show ∃ t, v = Value.bytes b t from r); exact h
  | flt b => obtain ⟨t, rfl⟩ := (show ∃ t, v = Value.float b t from r); exact h
  | ref a => obtain rfl : v = .ref a := r; exact h
  | ty n => obtain rfl : v = .type n := r; exact h
/-- an object of the class at C stands at p -/
def Own (H : Hp) (p C : Addr) : Prop := ∃ dx fs, H p = some (.ins C dx fs)
theorem own_inst {X : Cx} {pins : List (Addr × Obj)} {σ : L2.St} {H : Hp} {s : Shared} {p C : Addr} (I : Inv X pins σ H s) (h : Own H p C) : ∃ dx od, PySem.W.InstAt s.heap p (PySem.W.instObj C dx) C (some od) := by
  obtain ⟨dx, fs, e⟩ := h
  obtain ⟨mA, O, _⟩ := ins_get I.hok e
  obtain ⟨od, J, _⟩ := O.look
  exact ⟨dx, od, J⟩
def rOwn (C : Addr) (sp : Sp) (E : XK) : R2 := fun x y H Q => ∃ p q, x = .ref p ∧ y = .ref q ∧ Own H p C ∧ Own H q C ∧ sp [.ref p, .ref q] H Q E
/-- x op T, T a built-in type's value -/
def rOwnT (C : Addr) (sp : Sp) (E : XK) : R2 := fun x y H Q => ∃ p n, x = .ref p ∧ y = .int n ∧ Own H p C ∧ sp [.ref p, .int n] H Q E
def rUnO (C : Addr) (sp : Sp) (E : XK) : V → Hp → VK → Prop := fun x H Q => ∃ p, x = .ref p ∧ Own H p C ∧ sp [.ref p] H Q E
section
variable {X : Cx} {CX : CXT} {C : Addr} {k j : Nat} {m : Str} {ps : List Str} {sp : Sp} {E : XK} {op : Operator}
theorem op_own (D : Mm X.prog X.w X.K X.mg X.base CX C k m ps sp) (hr : Room j X.A) (hx : Passes CX X E) (sf : PySem.W.selfFirst X.K C = true) (hk : k ≤ j := by decide) (hm : m = PySem.dunder op.info.2 := by first | rfl | decide +kernel) : OpR X (binaryOp op) (rOwn C sp E) := by
  intro pins s σ H x y v u Q I rx ry h
  obtain ⟨p, q, rfl, rfl, hp, hq, hs⟩ := h
  obtain rfl : v = Value.ref p := rx
  obtain rfl : u = Value.ref q := ry
  obtain ⟨f, fd, F, mf, b⟩ := D.ex
  obtain ⟨dx, od, J⟩ := own_inst I hp
  obtain ⟨dy, oe, J2⟩ := own_inst I hq
  obtain ⟨m', fr⟩ := inv_fr I
  subst hm
  exact PySem.W.binop_K fr I.ok.mod.kin J J2.type sf mf.at_ mf.fn (wpAny_mono (run_fn (us := [.ref p, .ref q]) (vs := [.ref p, .ref q]) F (hr.mono hk) b .nil hx I (.cons rfl (.cons rfl .nil)) hs) (fun _ _ z => cmp_back z) fun _ _ z => z)
theorem ow_neg (D : Mm X.prog X.w X.K X.mg X.base CX C k "__neg__" ps sp) (hr : Room j X.A) (hx : Passes CX X E) (hk : k ≤ j := by decide) : UnR X (unaryOp .USub) (rUnO C sp E) := by
  intro pins s σ H x v Q I rx h
  obtain ⟨p, rfl, hp, hs⟩ := h
  obtain rfl : v = Value.ref p := rx
  obtain ⟨f, fd, F, mf, b⟩ := D.ex
  obtain ⟨dx, od, J⟩ := own_inst I hp
  obtain ⟨m', fr⟩ := inv_fr I
  exact PySem.W.ksp_neg fr I.ok.mod.kin J mf.at_ mf.fn (run_fn (us := [.ref p]) (vs := [.ref p]) F (hr.mono hk) b .nil hx I (.cons rfl .nil) hs)
theorem ow_pos (D : Mm X.prog X.w X.K X.mg X.base CX C k "__pos__" ps sp) (hr : Room j X.A) (hx : Passes CX X E) (hk : k ≤ j := by decide) : UnR X (unaryOp .UAdd) (rUnO C sp E) := by
  intro pins s σ H x v Q I rx h
  obtain ⟨p, rfl, hp, hs⟩ := h
  obtain rfl : v = Value.ref p := rx
  obtain ⟨f, fd, F, mf, b⟩ := D.ex
  obtain ⟨dx, od, J⟩ := own_inst I hp
  obtain ⟨m', fr⟩ := inv_fr I
  exact PySem.W.ksp_pos fr I.ok.mod.kin J mf.at_ mf.fn (run_fn (us := [.ref p]) (vs := [.ref p]) F (hr.mono hk) b .nil hx I (.cons rfl .nil) hs)
theorem ow_inv (D : Mm X.prog X.w X.K X.mg X.base CX C k "__invert__" ps sp) (hr : Room j X.A) (hx : Passes CX X E) (hk : k ≤ j := by decide) : UnR X (unaryOp .Invert) (rUnO C sp E) := by
  intro pins s σ H x v Q I rx h
  obtain ⟨p, rfl, hp, hs⟩ := h
  obtain rfl : v = Value.ref p := rx
  obtain ⟨f, fd, F, mf, b⟩ := D.ex
  obtain ⟨dx, od, J⟩ := own_inst I hp
  obtain ⟨m', fr⟩ := inv_fr I
  exact PySem.W.ksp_inv fr I.ok.mod.kin J mf.at_ mf.fn (run_fn (us := [.ref p]) (vs := [.ref p]) F (hr.mono hk) b .nil hx I (.cons rfl .nil) hs)
/-- x in y, y of the own class: __contains__ tells a truth value -/
def rInO (C : Addr) (sp : Sp) (E : XK) (neg : Bool) : R2 := fun x y H Q => ∃ p, y = .ref p ∧ Own H p C ∧ sp [.ref p, x] H (fun v H' => ∃ b, v = .bl b ∧ Q (.bl (b != neg)) H') E
theorem op_inO (D : Mm X.prog X.w X.K X.mg X.base CX C k "__contains__" ps sp) (hr : Room j X.A) (hx : Passes CX X E) (hk : k ≤ j := by decide) : OpR X (compareOp .In) (rInO C sp E false) := by
  intro pins s σ H x y v u Q I rx ry h
  obtain ⟨p, rfl, hp, hs⟩ := h
  obtain rfl : u = Value.ref p := ry
  obtain ⟨f, fd, F, mf, b⟩ := D.ex
  obtain ⟨dx, od, J⟩ := own_inst I hp
  obtain ⟨m', fr⟩ := inv_fr I
  refine PySem.W.in_K fr I.ok.mod.kin J mf.at_ mf.fn (wpAny_mono (run_fn (us := [.ref p, v]) (vs := [.ref p, x]) F (hr.mono hk) b .nil hx I (.cons rfl (.cons rx .nil)) hs) (fun r s' hz => ?_) fun _ _ z => z)
  obtain ⟨z, H', I', rz, t, rfl, q⟩ := hz
  obtain rfl : r = Value.bool t := rz
  refine wpAny_pure ?_
  exact ⟨.bl t, H', I', rfl, by simpa using q⟩
theorem op_notInO (D : Mm X.prog X.w X.K X.mg X.base CX C k "__contains__" ps sp) (hr : Room j X.A) (hx : Passes CX X E) (hk : k ≤ j := by decide) : OpR X (compareOp .NotIn) (rInO C sp E true) := by
  intro pins s σ H x y v u Q I rx ry h
  obtain ⟨p, rfl, hp, hs⟩ := h
  obtain rfl : u = Value.ref p := ry
  obtain ⟨f, fd, F, mf, b⟩ := D.ex
  obtain ⟨dx, od, J⟩ := own_inst I hp
  obtain ⟨m', fr⟩ := inv_fr I
  refine PySem.W.notIn_K fr I.ok.mod.kin J mf.at_ mf.fn (wpAny_mono (run_fn (us := [.ref p, v]) (vs := [.ref p, x]) F (hr.mono hk) b .nil hx I (.cons rfl (.cons rx .nil)) hs) (fun r s' hz => ?_) fun _ _ z => z)
  obtain ⟨z, H', I', rz, t, rfl, q⟩ := hz
  obtain rfl : r = Value.bool t := rz
  refine wpAny_pure ?_
  exact ⟨.bl (!t), H', I', rfl, by simpa using q⟩
/-- a call of an own def from within a built-in one -/
theorem run_in1 {f : Addr} {fd : FuncData} {pins : List (Addr × Obj)} {σ : L2.St} {H : Hp} {s : Shared} {Q : VK} {us : List Value} {vs : List V} (F : FnOk X.prog X.w X.K X.mg X.base CX k f fd ps sp) (hr : Room (k + 1) X.A) (hb : Binds X.K fd ps []) (hx : Passes CX X E)
    (I : Inv X pins σ H s) (r : Vals vs us) (h : sp vs H Q E) : wpAny (model X.prog X.w) X.A.in1 (call (.ref f) us) (EP X pins σ Q) X.xe s := by
  have hl : us.length = ps.length := by rw [← r.length]; exact F.len _ _ _ _ h
  refine wpAny_call (codeAny_mono (F.run X.A.in1 X.stack s H ⟨us, []⟩ us vs Q E hr.in1 I.env0.in1 (by
    have q := hb s us I.kIn (by rw [List.append_nil]; exact hl)
    rwa [List.append_nil] at q) r h) fun r s' hq => ?_)
  cases r with
  | error e => exact hx pins σ H s e s' I hq
  | ok fl =>
    cases fl with
    | ret u => exact I.after hq
    | next => exact False.elim hq
    | brk => exact False.elim hq
    | cont => exact False.elim hq
/-- len(x), x of the own class -/
def rLenO (C : Addr) (sp : Sp) (E : XK) : List V → Hp → VK → Prop := fun xs H Q => ∃ p, xs = [.ref p] ∧ Own H p C ∧ sp [.ref p] H (fun v H' => ∃ n : Nat, v = .int n ∧ n < 2 ^ 63 ∧ Q (.int n) H') E
theorem call_lenO (D : Mm X.prog X.w X.K X.mg X.base CX C k "__len__" ps sp) (hr : Room j X.A) (hx : Passes CX X E) (hk : k + 1 ≤ j := by decide) : CallR X (.builtin "len") (rLenO C sp E) := by
  intro pins s σ H xs us Q I r h
  obtain ⟨p, rfl, hp, hs⟩ := h
  obtain ⟨u, rfl, rx⟩ := vals1 r
  obtain rfl : u = Value.ref p := rx
  obtain ⟨f, fd, F, mf, b⟩ := D.ex
  obtain ⟨dx, od, J⟩ := own_inst I hp
  obtain ⟨m', fr⟩ := inv_fr I
  refine PySem.W.len_K fr I.ok.mod.kin J mf.at_ mf.fn (wpAny_mono (run_in1 (us := [.ref p]) (vs := [.ref p]) F (hr.mono hk) b hx I (.cons rfl .nil) hs) (fun r s' hz => ?_) fun _ _ z => z)
  obtain ⟨z, H', I', rz, n, rfl, hn, q⟩ := hz
  obtain ⟨t, rfl⟩ := (show ∃ t, r = Value.int n t from rz)
  refine ⟨⟨by omega, by omega⟩, .int n, H', I'.kept (t' := s'.toks + 1) fun _ _ z => z, ⟨_, rfl⟩, q⟩
/-- C(e, ..) by the class's own __init__ -/
structure NewD (P : Program) (w : World) (K : PySem.W.Frag) (mg : Str → Option Value) (base : Heap) (CX : CXT) (C : Addr) (k : Nat) (x : Str) (ps : List Str) (sp : Sp) : Prop where
  ex : ∃ (f : Addr) (fd : FuncData), Mk K C f ∧ FnOk P w K mg base CX k f fd ps sp ∧ mg x = some (.ref C) ∧ Binds K fd ps []
theorem pe_mk {x : Str} {p pos : Pos} {e : Expr} {es : List Expr} {t : TA} (D : NewD X.prog X.w X.K X.mg X.base CX C k x ps sp) (hr : Room j X.A) (hx : Passes CX X E) (ha : PA X (e :: es) t) (hk : k + 1 ≤ j := by decide) (hg : Gl X x := by rfl) (hdb : (x == ("__debug__" : Str)) = false := by decide)
    (he : starEach (e :: es) X.env = (false, eval e X.env) :: starEach es X.env := by rfl) (hpl : (backTo pos (starEach es X.env)).any (·.1) = false := by rfl) : PE X (.Call (.Name x p) (e :: es) [] pos) (tMake C sp [] E t) := by
  obtain ⟨f, fd, M, F, mx, b⟩ := D.ex
  exact pe_make M F (hr.mono hk) hg mx b .nil hx ha hdb he hpl
/-- a suite that is never reached -/
def tNo : TS := fun _ _ _ => False
theorem pss_no {ss : List Stmt} : PSs X ss tNo := ⟨fun _ _ _ _ _ _ h => h.elim⟩
end
end Ss
namespace Ss
open PySem L2 PyProof.Rows
/-! ### classes of one's own, read and called by their names -/
/-- the class at C may be read under the name x -/
structure ClsRd (K : PySem.W.Frag) (mg : Str → Option Value) (x : Str) (C : Addr) : Prop where
  mg : mg x = some (.ref C)
  rd : PySem.W.readsIn K C (.type "type") = true
  ga : PySem.W.specialIn K (.ref C) "__getattribute__" = some (some (.builtin "type.__getattribute__"))
section
variable {X : Cx} {CX : CXT} {C f : Addr} {k j : Nat} {x m : Str} {ps : List Str} {sp : Sp} {E : XK} {o e : Expr} {es : List Expr} {ta : TA} {p p1 p2 pos : Pos}
/-- x.m(e, ..), x a class: its def -/
theorem pe_clsfn {pl : Sem Bool} (R : ClsRd X.K X.mg x C) (F : FnR X.prog X.w X.K X.mg X.base CX k f sp) (v : PySem.W.findCls X.K (.ref C) (.type "type") m = some (.val (.ref f))) (kp : PySem.W.keepIn X.K (.ref f) = true) (hr : Room j X.A) (hx : Passes CX X E) (ha : PA X (e :: es) ta) (hk : k ≤ j := by decide)
    (hg : Gl X x := by rfl) (hdb : (x == ("__debug__" : Str)) = false := by decide)
    (hc : eval (.Call (.Attribute (.Name x p1) m p2) (e :: es) [] pos) X.env = (do
      let ov ← eval (.Name x p1) X.env
      standAt p2.atName
      let (f, first) ← holding [ov] (getMethod ov m pl)
      callWith pos f first (backTo pos (starEach (e :: es) X.env)) (backToKw pos (keywordEach [] X.env))) := by rfl)
    (he : starEach (e :: es) X.env = (false, eval e X.env) :: starEach es X.env := by rfl) (hpl : (backTo pos (starEach es X.env)).any (·.1) = false := by rfl) :
    PE X (.Call (.Attribute (.Name x p1) m p2) (e :: es) [] pos) (fun σ H Q => ta σ H fun vs H1 => sp vs H1 Q E) := by
  refine ⟨fun pins s σ H Q I h => PySem.W.methodCall_KW (ld_glob I hg R.mg ?_ hdb) hc⟩
  refine PySem.W.method_cls I.kIn R.ga (PySem.W.cls_value I.kIn R.rd v rfl ?_)
  have I2 := I.tok (s.toks + 1)
  exact PySem.W.callWith_K (h₀ := X.base) I2.ok.mod.kin kp (thn (ha.run pos pins _ σ H _ I2 h) fun us s1 ⟨vs, H1, I1, r, q⟩ => ⟨I1.kIn, wpAny_call (run_fnR (us := us) (vs := vs) F (hr.mono hk) hx I1 r q)⟩) he hpl
/-- x.f, x a class: a constant of it -/
theorem pe_clscon {v : V} {u : Value} {f : Str} (R : ClsRd X.K X.mg x C) (vv : PySem.W.findCls X.K (.ref C) (.type "type") f = some (.val u)) (rv : RelV v u) (hh : PySem.W.handedIn u = true) (hg : Gl X x := by rfl) (hdb : (x == ("__debug__" : Str)) = false := by decide)
    (hb : attributeBase (.Name x p1) f X.env (eval (.Name x p1) X.env) = eval (.Name x p1) X.env := by rfl) : PE X (.Attribute (.Name x p1) f pos) (tC v) := by
  refine ⟨fun pins s σ H Q I h => ?_⟩
  refine attr_of hb (ld_glob I hg R.mg ?_ hdb)
  exact PySem.W.cls_value I.kIn R.rd vv hh ⟨v, H, I.tok _, rv, h⟩
/-- str(o) by the own __str__ -/
def rStrO (C : Addr) (sp : Sp) (E : XK) : List V → Hp → VK → Prop := fun xs H Q => ∃ p, xs = [.ref p] ∧ Own H p C ∧ sp [.ref p] H (fun v H' => ∃ z, v = .str z ∧ Q (.str z) H') E
theorem call_strO (D : Mm X.prog X.w X.K X.mg X.base CX C k "__str__" ps sp) (hr : Room j X.A) (hx : Passes CX X E) (hk : k + 2 ≤ j := by decide) : CallR X (.type "str") (rStrO C sp E) := by
  intro pins s σ H xs us Q I r h
  obtain ⟨p, rfl, hp, hs⟩ := h
  cases r with
  | @cons _ u _ ur r1 r2 =>
    cases r2
    obtain rfl : u = Value.ref p := r1
    obtain ⟨f, fd, F, mf, b⟩ := D.ex
    obtain ⟨dx, od, J⟩ := own_inst I hp
    have hr2 : Room (k + 2) X.A := hr.mono hk
    have hl := F.len _ _ _ _ hs
    refine PySem.W.kso_call hr2.in1.in1.units0 I.kIn J mf.at_ mf.fn ?_
    refine wpAny_call (codeAny_mono (F.run X.A.in1.in1 X.stack s H ⟨[.ref p], []⟩ [.ref p] [.ref p] _ E hr2.in1.in1 I.env0.in1.in1 (by
      have q := b s [.ref p] I.kIn (by rw [List.append_nil]; exact hl)
      rwa [List.append_nil] at q) (.cons rfl .nil) hs) fun r s' hq => ?_)
    cases r with
    | error e => exact hx pins σ H s e s' I hq
    | ok fl =>
      cases fl with
      | ret u =>
        obtain ⟨v, H', I', rv, z, rfl, q⟩ := I.after hq
        obtain ⟨t, rfl⟩ := (show ∃ t, u = Value.str z t from rv)
        exact ⟨.str z, H', I', ⟨t, rfl⟩, q⟩
      | next => exact False.elim hq
      | brk => exact False.elim hq
      | cont => exact False.elim hq
/-- what the right side of an == may be: one of a class, or a tuple -/
def tyLook (h : Heap) (u : Value) (t : Value) : Prop := ∀ M : Model, PySem.W.Looks M h (typeOf u) t
/-- x == y by the own __eq__ of x, y of a type that is not below it -/
def rEqO (K : PySem.W.Frag) (C : Addr) (sp : Sp) (E : XK) : R2 := fun x y H Q => ∃ p, x = .ref p ∧ Own H p C ∧
  ((∃ q D, y = .ref q ∧ Own H q D ∧ PySem.W.notFirst K C (.ref D) = true) ∨ (∃ q xs, y = .ref q ∧ SqT K H q xs ∧ PySem.W.notFirst K C (.type "tuple") = true)) ∧ sp [.ref p, y] H (fun v H' => ∃ b, v = .bl b ∧ Q (.bl b) H') E
theorem tup_look {M : Model} {h : Heap} {a : Addr} {items : Array Value} (t : PyProof.Rows.IsTup h a items) : PySem.W.Looks M h (typeOf (.ref a)) (.type "tuple") := by
  obtain ⟨o, ho, hc, _⟩ := t
  exact hc ▸ (PySem.W.Looks.ld ho).andThen .now
theorem op_eqO (D : Mm X.prog X.w X.K X.mg X.base CX C k "__eq__" ps sp) (hr : Room j X.A) (hx : Passes CX X E) (hk : k ≤ j := by decide) : OpR X (compareOp .Eq) (rEqO X.K C sp E) := by
  intro pins s σ H x y v u Q I rx ry h
  obtain ⟨p, rfl, hp, hy, hs⟩ := h
  obtain rfl : v = Value.ref p := rx
  obtain ⟨f, fd, F, mf, b⟩ := D.ex
  obtain ⟨dx, od, J⟩ := own_inst I hp
  obtain ⟨m', fr⟩ := inv_fr I
  have look : ∃ t, PySem.W.Looks (model X.prog X.w) s.heap (typeOf u) t ∧ PySem.W.notFirst X.K C t = true := by
    rcases hy with ⟨q, D, rfl, hq, nf⟩ | ⟨q, xs, rfl, hq, nf⟩
    · obtain rfl : u = Value.ref q := ry
      obtain ⟨dy, oe, J2⟩ := own_inst I hq
      exact ⟨_, J2.type, nf⟩
    · obtain rfl : u = Value.ref q := ry
      obtain ⟨its, r, ht, hz⟩ := I.tuple hq
      exact ⟨_, tup_look ht, nf⟩
  obtain ⟨t, lt, nf⟩ := look
  show wpAny (model X.prog X.w) X.A (richCompare .Eq (.ref p) u) (EP X pins σ Q) X.xe s
  refine PySem.W.cmp_K (op := .Eq) (tb := t) hr.units0 fr I.ok.mod.kin J lt nf mf.at_ mf.fn (wpAny_mono (run_fn (us := [.ref p, u]) (vs := [.ref p, y]) F (hr.mono hk) b .nil hx I (.cons rfl (.cons ry .nil)) hs) (fun r s' hz => ?_) fun _ _ z => z)
  obtain ⟨z, H', I', rz, c, rfl, q⟩ := hz
  obtain rfl : r = Value.bool c := rz
  exact ⟨.bl c, H', I', rfl, q⟩
end
end Ss
namespace PySem
namespace SsE
open PySem.W PySem.Calls PyProof.Rows PySem.HandSPX
section
variable {M : Model} {A : Around} {E : Value → Shared → Prop} {h : Heap} {g : Array GenState} {d : Drawn} {t : Nat} {os : OsState}
variable {nm q : Str} {C N : Addr} {bs bm bmB : List Value} {hdct : Bool} {sn : List Str} {sub : List Value} {ab : Bool} {col : Option Bool} {dd : Option Addr} {k0 k1 k2 k3 k5 : Option Value} {B newId initId : String}
/-- the look ahead of the maker, with keywords -/
theorem new_look (F : ExcBaseFacts B newId initId bmB) (hT : ∀ X : String, bm.contains (.type X) = bmB.contains (.type X)) {rest : List Value} {kw : List (Str × Value)} {Q : Unit → Shared → Prop}
    (hC : h.get? C = some (excClassObj nm q C N bs bm hdct sn sub ab col dd k0 k1 k2 k3 k5 newId)) (hq : Q () ⟨h, g, d, t, os⟩) : wpAny M A (checkBuiltinCall newId ⟨.ref C :: rest, kw⟩) Q E ⟨h, g, d, t, os⟩ := by
  have e1 : (Value.ref C :: bm).contains (.type B) = true := by rw [List.contains_cons, hT, F.hasB, Bool.or_true]
  have e2 := F.noStar
  simp only [checkBuiltinCall, F.newKind, F.newSplit, F.newRow]
  repeat (first | refine wpAny_loadPart_at hC ?_ | (refine wpAny_isSubtype_exc hC ?_; rw [e1]) | refine wpAny_staticBase_exc hC ?_ | refine wpAny_madeBy_exc hC ?_ | simp only [bne_self_eq_false, Bool.false_eq_true, if_false] | wp_step)
  exact hq
end
section
variable {prog : Program} {w : World} {A : Around} {E : Value → Shared → Prop} {R : Result → Shared → Prop} {h : Heap} {g : Array GenState} {d : Drawn} {t : Nat} {os : OsState}
variable {nm q : Str} {C N : Addr} {bs bm bmB : List Value} {hdct : Bool} {sn : List Str} {sub : List Value} {ab : Bool} {col : Option Bool} {dd : Option Addr} {k0 k1 k2 k3 k5 : Option Value} {B newId initId : String}
theorem new_kw (F : ExcBaseFacts B newId initId bmB) (hT : ∀ X : String, bm.contains (.type X) = bmB.contains (.type X)) {rest : List Value} {kw : List (Str × Value)}
    (hC : h.get? C = some (excClassObj nm q C N bs bm hdct sn sub ab col dd k0 k1 k2 k3 k5 newId))
    (hq : R (.ok (.ret (.ref (h.objs.size + 1)))) ⟨(h.push (W.kdv_tup rest)).push (excO C h.objs.size), g, d, t, os⟩) (hrest : rest.length ≤ sizeLine) :
    codeAny (model prog w) A (.builtin newId ⟨.ref C :: rest, kw⟩) R ⟨h, g, d, t, os⟩ := by
  have e0 := F.ends
  have e1 : (Value.ref C :: bm).contains (.type B) = true := by rw [List.contains_cons, hT, F.hasB, Bool.or_true]
  have e2 : (Value.ref C :: bm).contains (.type "AttributeError") = false := by rw [List.contains_cons, hT, F.noAttr]; rfl
  have e3 : (Value.ref C :: bm).contains (.type "NameError") = false := by rw [List.contains_cons, hT, F.noName]; rfl
  refine codeAny_builtinAt F.entry ?_
  unfold Builtin.«BaseException.__new__»
  refine wpAt_bind ?_
  show wpAt _ _ _ (stack >>= _) _ _ _
  refine wpAt_bind (wpAt_stack fun p below => wpAt_of_wpAny ?_)
  wp_walk
  refine wpAt_of_wpAny ?_
  rw [F.owner]
  repeat (first | with_reducible refine wpAny_madeHere_exc F.canon hC ?_ | with_reducible refine wpAny_loadPart_at hC ?_ | (with_reducible refine wpAny_isSubtype_exc hC ?_; first | rw [e1] | rw [e2] | rw [e3]) | wp_step)
  show R _ _
  rw [Heap.size_push]
  exact hq
theorem type_call_kw (F : ExcBaseFacts B newId initId bmB) (hT : ∀ X : String, bm.contains (.type X) = bmB.contains (.type X)) {rest : List Value} {kw : List (Str × Value)} {fI : Addr} {Q : Fin → Shared → Prop}
    (hC : h.get? C = some (excClassObj nm q C N bs bm hdct sn sub ab col dd k0 k1 k2 k3 k5 newId))
    (hi : W.Looks (model prog w) h (typeLookup (.ref C) "__init__") (some (.ref fI))) (hb : ∀ self, W.Looks (model prog w) h (bindSpecial (.ref fI) self) (.ref fI, [self])) (hrest : rest.length ≤ sizeLine)
    (hq : codeAny (model prog w) A (.call (.ref fI) ⟨.ref (h.objs.size + 1) :: rest, kw⟩)
      (fun r s' => match r with | .ok (.ret v) => v = .none ∧ Q (.done (.ret (.ref (h.objs.size + 1)))) s' | .ok _ => False | .error e => E e s')
      ⟨(h.push (W.kdv_tup rest)).push (excO C h.objs.size), g, d, t, os⟩) :
    wpAny (model prog w) A (Builtin.«type.__call__» ⟨.ref C :: rest, kw⟩) Q E ⟨h, g, d, t, os⟩ := by
  repeat (first | with_reducible refine wpAny_loadPart_at hC ?_ | with_reducible refine wpAny_madeBy_exc hC ?_ | wp_step)
  refine codeAny_call_builtin_code (Code.quiet_builtin _ F.quiet) (new_look F hT hC ?_)
  refine new_kw F hT hC ?_ hrest
  show wpAny _ _ _ _ _ _
  have k : ∀ b o, h.get? b = some o → ((h.push (W.kdv_tup rest)).push (excO C h.objs.size)).get? b = some o := fun b o e => Heap.get?_push_of_some _ (Heap.get?_push_of_some _ e)
  have c1 := k _ _ hC
  have hget : ((h.push (W.kdv_tup rest)).push (excO C h.objs.size)).get? (h.objs.size + 1) = some (excO C h.objs.size) := by heap_get
  have c2 : (Value.ref C :: bm).contains (.ref C) = true := by simp
  have i1 := hi.keeps k
  have b1 := (hb (.ref (h.objs.size + 1))).keeps k
  unfold isInstance
  repeat (first | with_reducible refine wpAny_loadPart_at hget ?_ | (with_reducible refine wpAny_isSubtype_exc c1 ?_; rw [c2]) | wp_step)
  show wpAny _ _ (typeLookup (.ref C) _) _ _ _
  refine i1.at ?_
  refine wpAny_holding (wpAny_bind (b1.at ?_))
  refine wpAny_bind (wpAny_call (codeAny_mono hq fun r s' z => ?_))
  rcases r with e | (v | _ | _ | _) <;> first | exact z | exact z.elim | skip
  obtain ⟨rfl, z⟩ := z
  first
    | exact wpAny_pure (wpAny_pure z)
    | (wp_walk; exact z)
theorem call_kw (F : ExcBaseFacts B newId initId bmB) (hT : ∀ X : String, bm.contains (.type X) = bmB.contains (.type X)) {rest : List Value} {kw : List (Str × Value)} {fI : Addr}
    (hC : h.get? C = some (excClassObj nm q C N bs bm hdct sn sub ab col dd k0 k1 k2 k3 k5 newId))
    (hi : W.Looks (model prog w) h (typeLookup (.ref C) "__init__") (some (.ref fI))) (hb : ∀ self, W.Looks (model prog w) h (bindSpecial (.ref fI) self) (.ref fI, [self])) (hrest : rest.length ≤ sizeLine)
    (hq : codeAny (model prog w) (A.under (.builtin "type.__call__" ⟨.ref C :: rest, kw⟩)) (.call (.ref fI) ⟨.ref (h.objs.size + 1) :: rest, kw⟩) (W.InitBack (h.objs.size + 1) R)
      ⟨(h.push (W.kdv_tup rest)).push (excO C h.objs.size), g, d, t, os⟩) :
    codeAny (model prog w) A (.call (.ref C) ⟨rest, kw⟩) R ⟨h, g, d, t, os⟩ := by
  have f1 := tc_lookup
  have f2 := tc_bind (.ref C)
  have hTy : (⟨h, g, d, t, os⟩ : Shared).TypeIs (.ref C) "type" := ⟨_, hC, rfl⟩
  refine codeAny_of_tree ?_
  show wpAny _ _ (callAny (.ref C) _) _ _ _
  repeat (any_goals (first | assumption | with_reducible refine wpAny_loadPart_at hC ?_ | wp_step))
  refine ⟨rfl, ?_⟩
  refine codeAny_call_builtin_at (Code.quiet_builtin _ (by decide +kernel)) entry_typeCall (wpAny_check_type_call_sub hC (type_call_kw F hT hC hi hb hrest ?_))
  refine codeAny_mono hq fun r s' z => ?_
  rcases r with e | (v | _ | _ | _) <;> exact z
end
end SsE
end PySem
namespace PySem
namespace SsE
open PySem.W PySem.Calls PyProof.Rows PySem.HandSPX
/-- what is asked of the order of an error's classes -/
structure Order (l : List Value) : Prop where
  pass : ∀ self, refuseLoop self "__setattr__" l = pure ()
  obj : l.contains (.type "object") = true
  ne : l.isEmpty = false
theorem Order.cons {l : List Value} (o : Order l) (C : Addr) : Order (.ref C :: l) :=
  ⟨fun self => by rw [refuseLoop_ref]; exact o.pass self, by rw [List.contains_cons, o.obj, Bool.or_true], rfl⟩
theorem order_VE : Order [.type "ValueError", .type "Exception", .type "BaseException", .type "object"] := ⟨F.store_ValueError.passes, by decide +kernel, rfl⟩
theorem order_LE : Order [.type "LookupError", .type "Exception", .type "BaseException", .type "object"] := ⟨F.store_LookupError.passes, by decide +kernel, rfl⟩
theorem order_RE : Order [.type "RuntimeError", .type "Exception", .type "BaseException", .type "object"] := ⟨F.store_RuntimeError.passes, by decide +kernel, rfl⟩
section
open Builtin Builtin.ObjectAttr
variable {prog : Program} {w : World} {A : Around} {R : Result → Shared → Prop} {hp : Heap} {g : Array GenState} {d : Drawn} {t : Nat} {os : OsState}
/-- the first field of an error -/
theorem osa_first {K : Frag} {name : Str} {tk : Tok} {v : Value} {x C : Addr} {fv : Array Value} {cd : ClassData}
    (X : K.In hp) (hx : hp.get? x = some { cls := .ref C, data := .fields fv }) (hcd : clsIn K C = some cd) (hm : Order cd.mro) (hh : cd.hasDict = true) (ha : findIn K (.ref C) name = some none)
    (hq : ∀ h' tk' dx, (∀ b o, b ≠ x → hp.get? b = some o → h'.get? b = some o) → hp.objs.size ≤ dx → dx ≠ x → h'.get? x = some { cls := .ref C, dict := some dx, data := .fields fv } →
      h'.Ns1 dx (fun y => if y = name then some v else none) → R (.ok (.ret .none)) ⟨h', g, d, tk', os⟩) :
    codeAny (model prog w) A (.call (.builtin "object.__setattr__") ⟨[.ref x, .str name tk, v], []⟩) R ⟨hp, g, d, t, os⟩ := by
  have I : InstAt hp x { cls := .ref C, data := .fields fv } C none := ⟨hx, rfl, rfl, trivial⟩
  have SF := F.store_object
  have hxs : x ≠ hp.objs.size := Nat.ne_of_lt (Heap.lt_size hx)
  have sub : Looks (model prog w) hp (isInstance (.ref x) (.type "object")) true := I.type.andThen (looks_mroIn X (by unfold mroIn; rw [hcd, Option.bind_some, if_neg (by rw [hm.ne]; decide), hm.obj]))
  refine codeAny_call_builtin SF.slot.plain SF.entry (@check_slot (model prog w) _ _ ⟨hp, g, d, t, os⟩ "object.__setattr__" "object" "__setattr__" (.ref x) [.str name tk, v] [] _ SF.kind SF.split sub (SF.args (.ref x) (.str name tk) v) ?_)
  have hmr : Looks (model prog w) hp (mroOf (.ref C)) cd.mro := (looks_clsIn X hcd).andThen .now
  have l3 : Looks (model prog w) hp (storeTaker? none) none := .now
  have hcls : Looks (model prog w) hp (classData C) cd := looks_clsIn X hcd
  rw [osa_eq, refuse_eq]
  refine wpAny_bind (wpAny_bind (I.type.at (wpAny_bind (hmr.at ?_))))
  rw [hm.pass]
  refine wpAny_pure (wpAny_bind (I.type.at (wpAny_bind ((looks_findIn X ha).at (wpAny_bind (l3.at ?_))))))
  show wpAny _ _ (storeInOwnDict (.ref x) (.ref C) (.str name tk) name v false) _ _ _
  obtain ⟨nm, bs, mro, ns, qn, hd, sn, sb, ab, col, del⟩ := cd
  dsimp only at hh
  subst hh
  unfold storeInOwnDict ownDictForStores
  repeat (first | with_reducible refine store_in_new ?_ ?_ | with_reducible refine wpAny_loadPart_at hx ?_ | with_reducible refine hcls.at ?_ | wp_step)
  · exact ⟨_, #[], _, (Heap.get?_update_ne _ _ _ _ hxs.symm).trans (Heap.get?_push_at rfl rfl), rfl, fun e he => absurd he (by simp), fun _ => rfl⟩
  · intro h' tk' hn' hs
    have hx1 : (hp.push { cls := .type "dict", data := .dict #[] }).get? x = some { cls := .ref C, data := .fields fv } := Heap.get?_push_of_some _ hx
    refine hq h' tk' hp.objs.size (fun b o hb ho => ?_) (Nat.le_refl _) hxs.symm ?_ hn'
    · exact (hs.2 b (Nat.ne_of_lt (Heap.lt_size ho))).trans ((Heap.get?_update_ne _ _ _ _ hb).trans (Heap.get?_push_of_some _ ho))
    · exact (hs.2 x hxs).trans (Heap.get?_update_self _ hx1 rfl)
/-- a further field -/
theorem osa_more {K : Frag} {name : Str} {tk : Tok} {v : Value} {x C dx : Addr} {fv : Array Value} {cd : ClassData} {m0 : Str → Option Value} {nl : List Str}
    (X : K.In hp) (hx : hp.get? x = some { cls := .ref C, dict := some dx, data := .fields fv }) (hns : hp.Ns1 dx m0) (hw : Within m0 nl) (hz : nl.length ≤ 1000) (hcd : clsIn K C = some cd) (hm : Order cd.mro) (hh : cd.hasDict = true)
    (ha : findIn K (.ref C) name = some none)
    (hq : ∀ h' tk', (∀ b o, b ≠ dx → hp.get? b = some o → h'.get? b = some o) → h'.Ns1 dx (fun y => if y = name then some v else m0 y) → R (.ok (.ret .none)) ⟨h', g, d, tk', os⟩) :
    codeAny (model prog w) A (.call (.builtin "object.__setattr__") ⟨[.ref x, .str name tk, v], []⟩) R ⟨hp, g, d, t, os⟩ := by
  obtain ⟨oD, esD, epD, hoD, hdD, _⟩ := hns.count hw
  have I : InstAt hp x { cls := .ref C, dict := some dx, data := .fields fv } C (some oD) := ⟨hx, rfl, rfl, hoD⟩
  have SF := F.store_object
  have sub : Looks (model prog w) hp (isInstance (.ref x) (.type "object")) true := I.type.andThen (looks_mroIn X (by unfold mroIn; rw [hcd, Option.bind_some, if_neg (by rw [hm.ne]; decide), hm.obj]))
  refine codeAny_call_builtin SF.slot.plain SF.entry (@check_slot (model prog w) _ _ ⟨hp, g, d, t, os⟩ "object.__setattr__" "object" "__setattr__" (.ref x) [.str name tk, v] [] _ SF.kind SF.split sub (SF.args (.ref x) (.str name tk) v) ?_)
  have hmr : Looks (model prog w) hp (mroOf (.ref C)) cd.mro := (looks_clsIn X hcd).andThen .now
  have l3 : Looks (model prog w) hp (storeTaker? none) none := .now
  have hcls : Looks (model prog w) hp (classData C) cd := looks_clsIn X hcd
  rw [osa_eq, refuse_eq]
  refine wpAny_bind (wpAny_bind (I.type.at (wpAny_bind (hmr.at ?_))))
  rw [hm.pass]
  refine wpAny_pure (wpAny_bind (I.type.at (wpAny_bind ((looks_findIn X ha).at (wpAny_bind (l3.at ?_))))))
  show wpAny _ _ (storeInOwnDict (.ref x) (.ref C) (.str name tk) name v false) _ _ _
  obtain ⟨nm, bs, mro, ns, qn, hd, sn, sb, ab, col, del⟩ := cd
  dsimp only at hh
  subst hh
  unfold storeInOwnDict ownDictForStores
  repeat (first | with_reducible refine OEX.store_in_old hns hw hz ?_ | with_reducible refine wpAny_loadPart_at hx ?_ | with_reducible refine hcls.at ?_ | wp_step)
  intro h' tk' hn' hs
  exact hq h' tk' (fun b o hb ho => (hs.2 b hb).trans ho) hn'
end
end SsE
end PySem
namespace Ss
open PySem L2 PySem.Spec PyProof.Rows
/-- an error class of the text at C; its built-in base's __init__ is ini -/
structure EC (K : PySem.W.Frag) (C : Addr) (ini : String) : Prop where
  cls : ∃ B newId bmB nm q N bs bm sn sub ab col dd k0 k1 k2 k3 k5, ExcBaseFacts B newId ini bmB ∧ K.lookup C = some (excClassObj nm q C N bs bm true sn sub ab col dd k0 k1 k2 k3 k5 newId) ∧
    (∀ Y : String, bm.contains (.type Y) = bmB.contains (.type Y)) ∧ SsE.Order bm
  sa : PySem.W.findIn K (.ref C) "__setattr__" = some (some (.builtin "object.__setattr__"))
  ga : PySem.W.findIn K (.ref C) "__getattribute__" = some (some (.builtin "BaseException.__getattribute__"))
  gg : PySem.W.findIn K (.ref C) "__getattr__" = some none
  exC : PySem.W.subIn K (.ref C) (.type "BaseException") = some true
  tyC : PySem.W.typeIn K (.ref C) = some (.type "type")
  hdC : PySem.W.hasDictIn K C = true
  kC : PySem.W.keepIn K (.ref C) = true
  ha : PySem.W.findIn K (.ref C) "__class__" = some (some (.builtin "object.__class__"))
  hn : PySem.W.specialIn K (.builtin "object.__class__") "__get__" = some (some (.builtin "getset_descriptor.__get__"))
  ht : PySem.W.takesIn K (.builtin "object.__class__") = some true
  hm : PySem.W.mroIn K C (.type "object") = some true
section
variable {X : Cx} {pins : List (Addr × Obj)} {σ : L2.St} {H : Hp} {s : Shared} {a C dx : Addr} {f : Str} {y : V} {u : Value} {fs : List (Str × V)} {A : Around} {ini : String}
/-- self.f = y, the first one -/
theorem est_new {Q : Unit → Shared → Prop} {E : Value → Shared → Prop} (T : EC X.K C ini) (I : Inv X pins σ H s) (e : H a = some (exo a C none)) (hno : PySem.W.findIn X.K (.ref C) f = some none) (ry : RelV y u)
    (h : ∀ dx s', H dx = none → dx ≠ a → Inv X pins σ (upd (upd H dx (exd dx [(f, y)])) a (exo a C (some dx))) s' → Q () s') : wpAny (model X.prog X.w) A (setAttr (.ref a) f u) Q E s := by
  obtain ⟨B, newId, bmB, nm, q, N, bs, bm, sn, sub, ab, col, dd, k0, k1, k2, k3, k5, F, hC, hT, hbm⟩ := T.cls
  have hcl : PySem.W.clsIn X.K C = some { name := nm, bases := bs, mro := .ref C :: bm, ns := N, qualname := q, hasDict := true, slotNames := sn, subclasses := sub, abstract := ab, collection := col, hasDel := false } := by unfold PySem.W.clsIn; rw [hC] <;> rfl
  obtain ⟨t1, ho⟩ := exo_at I.hok e
  obtain ⟨hp, g, d, t, os⟩ := s
  refine PySem.W.set_plain I.kIn (ox := { cls := .ref C, dict := none, data := .fields #[.ref t1, .none, .none, .none, .bool false, .none] }) (od := none) ⟨ho, rfl, rfl, trivial⟩ T.sa ?_
  refine SsE.osa_first I.kIn ho hcl (hbm.cons C) rfl hno (fun h' tk' dx k dn dne hx hn => ?_)
  have hnd : H dx = none := I.hok.fresh dn
  have nd : ∀ {b : Addr} {o : Obj}, hp.get? b = some o → b ≠ dx := fun {b o} q => Nat.ne_of_lt (Nat.lt_of_lt_of_le (Heap.lt_size q) dn)
  have na : ∀ {b : Addr}, H b = none → b ≠ a := fun {b} n z => by
    rw [z, e] at n
    cases n
  have Un1 : Un X.fs [] H (upd (upd H dx (exd dx [(f, y)])) a (exo a C (some dx))) hp h' := {
    keep := fun b o q n _ _ => k b o (na n) q
    slot := fun b o q n _ _ => ⟨o.slots, k b o (na n) q⟩
    free := fun b o q n _ => by rw [upd_ne (na n), upd_ne (nd q)]; exact n
    there := fun b o q _ => by
      by_cases hb : b = a
      · exact ⟨_, by rw [hb]; exact hx⟩
      · exact ⟨o, k b o hb q⟩
    tups := fun b xs q => by rw [upd_ne (at_ne e q exo_tup), upd_ne (ne_of_none q hnd)]; exact q
    frzs := fun b o v q => by rw [upd_ne (at_ne e q exo_frz), upd_ne (ne_of_none q hnd)]; exact q
    tbls := fun b ps q => ⟨#[], by rw [upd_ne (at_ne e q exo_tbl), upd_ne (ne_of_none q hnd), q]; simp⟩ }
  refine h dx _ hnd dne (I.un (t' := tk') Un1 fun b o q => ?_)
  by_cases hb : b = a
  · subst hb
    rw [upd_same] at q
    cases q
    exact exo_ok hx
  · rw [upd_ne hb] at q
    by_cases hd : b = dx
    · subst hd
      rw [upd_same] at q
      cases q
      exact exd_ok hn (relO_put (fs := []) ry fun g => True.intro)
    · rw [upd_ne hd] at q
      exact (I.hok b o q).stay (fun c v hc z => k c v (by
          rcases hc with hc | hc
          · rw [hc]
            exact hb
          · exact at_ne e hc exo_own) z)
        (fun c hc => by rw [upd_ne (at_ne e hc exo_own), upd_ne (ne_of_none hc hnd)]; exact hc) (fun c xs hc => by rw [upd_ne (at_ne e hc exo_tup), upd_ne (ne_of_none hc hnd)]; exact hc)
/-- self.f = y, a further one -/
theorem est_old {Q : Unit → Shared → Prop} {E : Value → Shared → Prop} (T : EC X.K C ini) (I : Inv X pins σ H s) (e : H a = some (exo a C (some dx))) (ed : H dx = some (exd dx fs)) (hl : fs.length ≤ 900) (hno : PySem.W.findIn X.K (.ref C) f = some none) (ry : RelV y u)
    (h : ∀ s', Inv X pins σ (upd H dx (exd dx ((f, y) :: fs))) s' → Q () s') : wpAny (model X.prog X.w) A (setAttr (.ref a) f u) Q E s := by
  obtain ⟨B, newId, bmB, nm, q, N, bs, bm, sn, sub, ab, col, dd, k0, k1, k2, k3, k5, F, hC, hT, hbm⟩ := T.cls
  have hcl : PySem.W.clsIn X.K C = some { name := nm, bases := bs, mro := .ref C :: bm, ns := N, qualname := q, hasDict := true, slotNames := sn, subclasses := sub, abstract := ab, collection := col, hasDel := false } := by unfold PySem.W.clsIn; rw [hC] <;> rfl
  obtain ⟨t1, ho⟩ := exo_at I.hok e
  obtain ⟨mA, hns, rel⟩ := exd_at I.hok ed
  have hw := within_of rel
  obtain ⟨hp, g, d, t, os⟩ := s
  obtain ⟨oD, _, _, hoD, _, _⟩ := hns.count hw
  refine PySem.W.set_plain I.kIn (ox := { cls := .ref C, dict := some dx, data := .fields #[.ref t1, .none, .none, .none, .bool false, .none] }) (od := some oD) ⟨ho, rfl, rfl, hoD⟩ T.sa ?_
  refine SsE.osa_more I.kIn ho hns hw (by rw [List.length_map]; omega) hcl (hbm.cons C) rfl hno (fun h' tk' k hn => ?_)
  have hd : ∃ o, h'.get? dx = some o := by
    obtain ⟨o, _, _, e', _⟩ := hn
    exact ⟨o, e'⟩
  exact h _ (I.write (t' := tk') (x := dx) (e := dx) (o := exd dx ((f, y) :: fs)) (by rw [ed]; exact True.intro) (.inl rfl) k hd (exd_ok hn (relO_put ry rel)))
/-- the base's __init__ of an error that is being made: nothing of it is told -/
theorem einit_ok {us : List Value} {Q : Value → Shared → Prop} {E : Value → Shared → Prop} (T : EC X.K C ini) (I : Inv X pins σ H s) (e : H a = some (exo a C none)) (hl : us.length ≤ sizeLine) (h : ∀ s', Inv X pins σ H s' → Q .none s') :
    wpAny (model X.prog X.w) A (call (.builtin ini) (.ref a :: us)) Q E s := by
  obtain ⟨B, newId, bmB, nm, q, N, bs, bm, sn, sub, ab, col, dd, k0, k1, k2, k3, k5, F, hC, hT, hbm⟩ := T.cls
  obtain ⟨t1, ho⟩ := exo_at I.hok e
  obtain ⟨hp, g, d, t, os⟩ := s
  refine wpAny_call (PySem.HandSPX.init_base F hT (I.kIn _ _ hC) ho hl fun h' t2 k hx => ?_)
  have J := I.write (t' := t) (x := a) (e := a) (o := exo a C none) (by rw [e]; exact True.intro) (.inl rfl) k ⟨_, hx⟩ (exo_ok hx)
  have eu : upd H a (exo a C none) = H := by
    funext b
    by_cases hb : b = a
    · rw [hb, upd_same, e]
    · rw [upd_ne hb]
  rw [eu] at J
  exact h _ J
end
/-- base.__init__(self, ..) -/
def tEI (K : PySem.W.Frag) (ini : String) (ta : TA) : TE := fun σ H Q => ta σ H fun vs H1 => ∃ (a C : Addr) (ws : List V), vs = .ref a :: ws ∧ ws.length ≤ 1000 ∧ EC K C ini ∧ H1 a = some (exo a C none) ∧ Q .non H1
/-- self.f = e -/
def tEst (K : PySem.W.Frag) (ini : String) (f : Str) (to te : TE) : TS := fun D σ H => te σ H fun y H1 => to σ H1 fun x H2 => ∃ a C : Addr, x = .ref a ∧ EC K C ini ∧ PySem.W.findIn K (.ref C) f = some none ∧
  ((H2 a = some (exo a C none) ∧ ∀ dx, H2 dx = none → dx ≠ a → D.nx σ (upd (upd H2 dx (exd dx [(f, y)])) a (exo a C (some dx)))) ∨
    ∃ (dx : Addr) (fs : List (Str × V)), H2 a = some (exo a C (some dx)) ∧ H2 dx = some (exd dx fs) ∧ fs.length ≤ 900 ∧ D.nx σ (upd H2 dx (exd dx ((f, y) :: fs))))
section
variable {X : Cx} {o e : Expr} {es : List Expr} {to te : TE} {ta tk : TA} {f x : Str} {p p' p1 p2 pos : Pos} {ini : String}
/-- base.__init__(self, ..), base a class of the text -/
theorem pe_einitO {pl : Sem Bool} {S : Addr} (hg : Gl X x) (hm : X.mg x = some (.ref S)) (rd : PySem.W.readsIn X.K S (.type "type") = true) (ga : PySem.W.specialIn X.K (.ref S) "__getattribute__" = some (some (.builtin "type.__getattribute__")))
    (vV : PySem.W.findCls X.K (.ref S) (.type "type") "__init__" = some (.val (.builtin ini))) (hh : PySem.W.handedIn (.builtin ini) = true) (ha : PA X (e :: es) ta) (hdb : (x == ("__debug__" : Str)) = false := by decide)
    (hc : eval (.Call (.Attribute (.Name x p1) "__init__" p2) (e :: es) [] pos) X.env = (do
      let ov ← eval (.Name x p1) X.env
      standAt p2.atName
      let (f, first) ← holding [ov] (getMethod ov "__init__" pl)
      callWith pos f first (backTo pos (starEach (e :: es) X.env)) (backToKw pos (keywordEach [] X.env))) := by rfl)
    (he : starEach (e :: es) X.env = (false, eval e X.env) :: starEach es X.env := by rfl) (hpl : (backTo pos (starEach es X.env)).any (·.1) = false := by rfl) :
    PE X (.Call (.Attribute (.Name x p1) "__init__" p2) (e :: es) [] pos) (tEI X.K ini ta) := by
  refine ⟨fun pins s σ H Q I h => ?_⟩
  refine PySem.W.methodCall_KW (ld_glob I hg hm ?_ hdb) hc
  refine PySem.W.method_cls I.kIn ga (PySem.W.cls_value I.kIn rd vV hh ?_)
  show wpAny _ _ (callWith pos (Value.builtin ini) [] (backTo pos (starEach (e :: es) X.env)) []) _ _ _
  refine PyProof.Rows.callWith_method1 (thn (ha.run pos pins _ σ H _ (I.tok _) h) fun us s1 ⟨vs, H1, I1, r1, a, C, ws, ev, hl, T, ea, q⟩ => ?_) he hpl
  subst ev
  cases r1 with
  | @cons _ u0 _ ur ra rw' =>
    obtain rfl : u0 = Value.ref a := ra
    have hlen : ur.length ≤ sizeLine := by
      rw [← Paired.length rw', sizeLine_eq]
      omega
    exact einit_ok T I1 ea hlen fun s' J => ⟨.non, H1, J, rfl, q⟩
/-- .., base a built-in class -/
theorem pe_einitB {pl : Sem Bool} {B : String} (hg : Gl X x) (hm : X.mg x = none) (hv : bootBuiltins x = some (.type B)) (ty : typeOf (.type B) = pure (.type "type")) (hs : Manifest.isStub B = false)
    (vV : PySem.W.findCls X.K (.type B) (.type "type") "__init__" = some (.val (.builtin ini))) (hh : PySem.W.handedIn (.builtin ini) = true) (ha : PA X (e :: es) ta) (hn : x ≠ "__name__" := by decide) (hdb : (x == ("__debug__" : Str)) = false := by decide)
    (hc : eval (.Call (.Attribute (.Name x p1) "__init__" p2) (e :: es) [] pos) X.env = (do
      let ov ← eval (.Name x p1) X.env
      standAt p2.atName
      let (f, first) ← holding [ov] (getMethod ov "__init__" pl)
      callWith pos f first (backTo pos (starEach (e :: es) X.env)) (backToKw pos (keywordEach [] X.env))) := by rfl)
    (he : starEach (e :: es) X.env = (false, eval e X.env) :: starEach es X.env := by rfl) (hpl : (backTo pos (starEach es X.env)).any (·.1) = false := by rfl) :
    PE X (.Call (.Attribute (.Name x p1) "__init__" p2) (e :: es) [] pos) (tEI X.K ini ta) := by
  refine ⟨fun pins s σ H Q I h => ?_⟩
  refine PySem.W.methodCall_KW (ld_blt I hg hm hv ?_ hn hdb) hc
  obtain ⟨m, fr⟩ := I.fr
  refine PySem.W.method_type fr I.ok.mod.kin ty hs vV hh ?_
  show wpAny _ _ (callWith pos (Value.builtin ini) [] (backTo pos (starEach (e :: es) X.env)) []) _ _ _
  refine PyProof.Rows.callWith_method1 (thn (ha.run pos pins _ σ H _ (I.tok _) h) fun us s1 ⟨vs, H1, I1, r1, a, C, ws, ev, hl, T, ea, q⟩ => ?_) he hpl
  subst ev
  cases r1 with
  | @cons _ u0 _ ur ra rw' =>
    obtain rfl : u0 = Value.ref a := ra
    have hlen : ur.length ≤ sizeLine := by
      rw [← Paired.length rw', sizeLine_eq]
      omega
    exact einit_ok T I1 ea hlen fun s' J => ⟨.non, H1, J, rfl, q⟩
theorem ps_est (ini : String) (ho : PE X o to) (he : PE X e te) (hs : swapsWith e (some (.Attribute o f p')) pos.line X.env = pure false := by rfl) : PS X (.Assign [.Attribute o f p'] e pos) (tEst X.K ini f to te) := by
  refine ⟨fun pins s σ H D I h => ?_⟩
  refine plainObj_wpAny_Assign_Attribute (thn (he.run pins s σ H _ I h) fun v s1 ⟨y, H1, I1, r1, q1⟩ => thn (ho.run pins s1 σ H1 _ I1 q1) fun u s2 ⟨x, H2, I2, r2, a, C, ex, T, hno, q⟩ => ?_) hs
  subst ex
  obtain rfl : u = Value.ref a := r2
  rcases q with ⟨ea, q⟩ | ⟨dx, fs, ea, ed, hl, q⟩
  · exact est_new T I2 ea hno r1 fun dx s' n ne J => ⟨σ, _, J, q dx n ne⟩
  · exact est_old T I2 ea ed hl hno r1 fun s' J => ⟨σ, _, J, q⟩
end
end Ss
namespace Ss
open PySem L2 PySem.Spec PyProof.Rows
/-- n values by position, then the keywords ks in the order of the parameters left -/
structure NB (fd : FuncData) (ps : List Str) (n : Nat) (ks : List Str) : Prop where
  to : ∀ (s : Shared) (us ws : List Value), us.length = n → ws.length = ks.length → BindsTo s fd ⟨us, ks.zip ws⟩ (ps.zip (us ++ ws))
/-- an error class whose own __init__ keeps sp -/
structure EMk (P : Program) (w : World) (K : PySem.W.Frag) (mg : Str → Option Value) (base : Heap) (CX : CXT) (C : Addr) (ini : String) (k : Nat) (ps : List Str) (sp : Sp) (fd : FuncData) : Prop where
  ec : EC K C ini
  ex : ∃ (fI : Addr), PySem.W.findIn K (.ref C) "__init__" = some (some (.ref fI)) ∧ PySem.W.typeIn K (.ref fI) = some (.type "function") ∧ FnOk P w K mg base CX k fI fd ps sp
/-- C(e, .., k = v, ..) as a value: n values, m keywords -/
def tEMk (C : Addr) (n m : Nat) (sp : Sp) (E : XK) (ta tk : TA) : TE := fun σ H Q => ta σ H fun vs H1 => tk σ H1 fun zs H2 => vs.length = n ∧ zs.length = m ∧
  ∀ a, H2 a = none → sp (.ref a :: (vs ++ zs)) (upd H2 a (exo a C none)) (fun v H3 => v = .non ∧ Q (.ref a) H3) E
section
variable {X : Cx} {CX : CXT} {C : Addr} {ini : String} {k j n : Nat} {ps ks : List Str} {sp : Sp} {fd : FuncData} {E : XK} {x : Str} {p pos : Pos} {e : Expr} {es : List Expr} {kws : List Keyword} {ta tk : TA}
theorem run_emk {pins : List (Addr × Obj)} {σ : L2.St} {H : Hp} {s : Shared} {Q : VK} {us ws : List Value} {vs zs : List V} (M : EMk X.prog X.w X.K X.mg X.base CX C ini k ps sp fd) (hr : Room (k + 1) X.A) (hb : NB fd ps (n + 1) ks) (hx : Passes CX X E)
    (hn : n ≤ 1000) (I : Inv X pins σ H s) (r : Vals vs us) (rz : Vals zs ws) (l1 : vs.length = n) (l2 : zs.length = ks.length)
    (h : ∀ a, H a = none → sp (.ref a :: (vs ++ zs)) (upd H a (exo a C none)) (fun v H3 => v = .non ∧ Q (.ref a) H3) E) : wpAny (model X.prog X.w) X.A (call (.ref C) us (ks.zip ws)) (EP X pins σ Q) X.xe s := by
  obtain ⟨fI, iC, tI, F1⟩ := M.ex
  obtain ⟨B, newId, bmB, nm, q, N, bs, bm, sn, sub, ab, col, dd, k0, k1, k2, k3, k5, F, hC, hT, hbm⟩ := M.ec.cls
  obtain ⟨hp, g, dr, tk, os⟩ := s
  have hsz : hp.objs.size ≤ hp.objs.size + 1 := Nat.le_succ _
  have hq := h (hp.objs.size + 1) (I.hok.fresh hsz)
  have kk : ∀ b o, hp.get? b = some o → ((hp.push (PySem.W.kdv_tup us)).push (PySem.HandSPX.excO C hp.objs.size)).get? b = some o := fun b o e => Heap.get?_push_of_some _ (Heap.get?_push_of_some _ e)
  have hget : ((hp.push (PySem.W.kdv_tup us)).push (PySem.HandSPX.excO C hp.objs.size)).get? (hp.objs.size + 1) = some (PySem.HandSPX.excO C hp.objs.size) := by heap_get
  have I2 : Inv X pins σ (upd H (hp.objs.size + 1) (exo (hp.objs.size + 1) C none)) ⟨(hp.push (PySem.W.kdv_tup us)).push (PySem.HandSPX.excO C hp.objs.size), g, dr, tk, os⟩ :=
    I.laid (t' := tk) (a := hp.objs.size + 1) (o := exo (hp.objs.size + 1) C none) (h' := (hp.push (PySem.W.kdv_tup us)).push (PySem.HandSPX.excO C hp.objs.size)) kk hsz (exo_ok hget)
  have r2 : Vals (V.ref (hp.objs.size + 1) :: (vs ++ zs)) (Value.ref (hp.objs.size + 1) :: (us ++ ws)) := .cons rfl (r.append rz)
  have e1 : (Value.ref (hp.objs.size + 1) :: us).length = n + 1 := congrArg Nat.succ (r.length.symm.trans l1)
  have e2 : ws.length = ks.length := rz.length.symm.trans l2
  have hus : us.length ≤ sizeLine := by
    rw [← r.length, l1, sizeLine_eq]
    omega
  refine wpAny_call (SsE.call_kw F hT (I.kIn _ _ hC) (PySem.W.looks_findIn I.kIn iC) (fun self => PySem.W.bind_fn I.kIn self tI) hus
    (codeAny_mono (F1.run _ X.stack _ _ ⟨Value.ref (hp.objs.size + 1) :: us, ks.zip ws⟩ (Value.ref (hp.objs.size + 1) :: us ++ ws) _ _ E (hr.make C us (ks.zip ws)) (I2.env0.make C us (ks.zip ws)) (hb.to _ _ _ e1 e2) r2 hq) fun r s' hq' => ?_))
  cases r with
  | error er => exact hx pins σ _ _ er s' I2 hq'
  | ok fl =>
    cases fl with
    | ret u =>
      obtain ⟨v, H', I3, rv, ev, q3⟩ := I2.after hq'
      subst ev
      exact ⟨rv, ⟨V.ref (hp.objs.size + 1), H', I3, rfl, q3⟩⟩
    | next => exact False.elim hq'
    | brk => exact False.elim hq'
    | cont => exact False.elim hq'
/-- C(e, ..) -/
theorem pe_emk (M : EMk X.prog X.w X.K X.mg X.base CX C ini k ps sp fd) (hm : X.mg x = some (.ref C)) (hr : Room j X.A) (hb : NB fd ps (n + 1) []) (hx : Passes CX X E) (ha : PA X (e :: es) ta) (hk : k + 1 ≤ j := by decide) (hn : n ≤ 1000 := by decide) (hg : Gl X x := by rfl)
    (hdb : (x == ("__debug__" : Str)) = false := by decide) (he : starEach (e :: es) X.env = (false, eval e X.env) :: starEach es X.env := by rfl) (hpl : (backTo pos (starEach es X.env)).any (·.1) = false := by rfl) :
    PE X (.Call (.Name x p) (e :: es) [] pos) (tEMk C n 0 sp E ta tNil) := by
  refine ⟨fun pins s σ H Q I h => ?_⟩
  refine wpAny_Call_Name_kw (ld_glob I hg hm ?_ hdb)
  refine PySem.W.callWith_K (h₀ := X.base) I.ok.mod.kin M.ec.kC (thn (ha.run pos pins s σ H _ I h) fun us s1 ⟨vs, H1, I1, r, l1, l2, q⟩ => ⟨I1.kIn, ?_⟩) he hpl
  exact run_emk (ks := []) (ws := []) (zs := []) M (hr.mono hk) hb hx hn I1 r .nil l1 rfl q
/-- C() -/
theorem pe_emk0 (M : EMk X.prog X.w X.K X.mg X.base CX C ini k ps sp fd) (hm : X.mg x = some (.ref C)) (hr : Room j X.A) (hb : NB fd ps 1 []) (hx : Passes CX X E) (hk : k + 1 ≤ j := by decide) (hg : Gl X x := by rfl)
    (hdb : (x == ("__debug__" : Str)) = false := by decide) : PE X (.Call (.Name x p) [] [] pos) (tEMk C 0 0 sp E tNil tNil) := by
  refine ⟨fun pins s σ H Q I h => ?_⟩
  refine wpAny_Call_Name_kw (ld_glob I hg hm ?_ hdb)
  obtain ⟨l1, l2, q⟩ := h
  exact PySem.W.callWith_K0 I.kIn M.ec.kC (run_emk (ks := []) (ws := []) (zs := []) (us := []) (vs := []) M (hr.mono hk) hb hx (Nat.zero_le _) I .nil .nil rfl rfl q)
/-- C(e, .., k = v) -/
theorem pe_emkK (M : EMk X.prog X.w X.K X.mg X.base CX C ini k ps sp fd) (hm : X.mg x = some (.ref C)) (hr : Room j X.A) (hb : NB fd ps (n + 1) ks) (hx : Passes CX X E) (ha : PA X (e :: es) ta) (hkw : PK X kws tk) (hk : k + 1 ≤ j := by decide) (hn : n ≤ 1000 := by decide) (hg : Gl X x := by rfl)
    (hall : (backToKw pos (keywordEach kws X.env)).all (·.1.isSome) = true := by rfl) (hks : (backToKw pos (keywordEach kws X.env)).filterMap (·.1) = ks := by rfl) (hdb : (x == ("__debug__" : Str)) = false := by decide)
    (he : starEach (e :: es) X.env = (false, eval e X.env) :: starEach es X.env := by rfl)
    (hpl : ((backTo pos (starEach (e :: es) X.env)).any (·.1) || (backToKw pos (keywordEach kws X.env)).any (·.1.isNone)) = false := by rfl) :
    PE X (.Call (.Name x p) (e :: es) kws pos) (tEMk C n ks.length sp E ta tk) := by
  refine ⟨fun pins s σ H Q I h => ?_⟩
  refine wpAny_Call_Name_kw (ld_glob I hg hm ?_ hdb)
  refine PySem.W.callWith_KW (h₀ := X.base) I.ok.mod.kin M.ec.kC hall (thn (ha.run pos pins s σ H _ I h) fun us s1 ⟨vs, H1, I1, r, q⟩ => ?_) hpl he
  refine thn (hkw.run pos pins s1 σ H1 _ I1 q) fun ws s2 ⟨zs, H2, I2, rz, l1, l2, q2⟩ => ⟨I2.kIn, ?_⟩
  rw [hks]
  exact run_emk M (hr.mono hk) hb hx hn I2 r rz l1 l2 q2
end
section
variable {X : Cx} {CX : CXT} {C : Addr} {ini : String} {k j n : Nat} {ps ks : List Str} {sp : Sp} {fd : FuncData} {E : XK} {x : Str} {p pos : Pos} {kws : List Keyword} {tk : TA}
/-- C(k = v) -/
theorem pe_emkK0 (M : EMk X.prog X.w X.K X.mg X.base CX C ini k ps sp fd) (hm : X.mg x = some (.ref C)) (hr : Room j X.A) (hb : NB fd ps 1 ks) (hx : Passes CX X E) (hkw : PK X kws tk) (hk : k + 1 ≤ j := by decide) (hg : Gl X x := by rfl)
    (hall : (backToKw pos (keywordEach kws X.env)).all (·.1.isSome) = true := by rfl) (hks : (backToKw pos (keywordEach kws X.env)).filterMap (·.1) = ks := by rfl) (hdb : (x == ("__debug__" : Str)) = false := by decide)
    (hpl : ((backTo pos (starEach [] X.env)).any (·.1) || (backToKw pos (keywordEach kws X.env)).any (·.1.isNone)) = false := by rfl) :
    PE X (.Call (.Name x p) [] kws pos) (tEMk C 0 ks.length sp E tNil tk) := by
  refine ⟨fun pins s σ H Q I h => ?_⟩
  refine wpAny_Call_Name_kw (ld_glob I hg hm ?_ hdb)
  refine PySem.W.callWith_KW0 (h₀ := X.base) I.ok.mod.kin M.ec.kC hall ?_ hpl
  refine thn (hkw.run pos pins s σ H _ I h) fun ws s2 ⟨zs, H2, I2, rz, l1, l2, q2⟩ => ⟨I2.kIn, ?_⟩
  rw [hks]
  exact run_emk (us := []) (vs := []) M (hr.mono hk) hb hx (Nat.zero_le _) I2 .nil rz rfl l2 q2
end
/-! ### an error's field, its class -/
/-- e.f, e an error that stands as a value -/
def tEF (K : PySem.W.Frag) (f : Str) (ta : TE) : TE := fun σ H Q => ta σ H fun x H1 => ∃ (a C d : Addr) (ini : String) (fs : List (Str × V)) (v : V), x = .ref a ∧ H1 a = some (exo a C (some d)) ∧ H1 d = some (exd d fs) ∧ EC K C ini ∧ PySem.W.findIn K (.ref C) f = some none ∧ fs.lookup f = some v ∧ Q v H1
theorem pe_ef {X : Cx} {e : Expr} {te : TE} {f : Str} {pos : Pos} (he : PE X e te) (hb : attributeBase e f X.env (eval e X.env) = eval e X.env := by rfl) : PE X (.Attribute e f pos) (tEF X.K f te) := by
  refine ⟨fun pins s σ H Q I h => ?_⟩
  refine attr_of hb (thn (he.run pins s σ H _ I h) fun u s1 hh => ?_)
  obtain ⟨x, H1, I1, rx, a, C, d, ini, fs, v, ex, ea, ed, T, hno, l, q⟩ := hh
  subst ex
  obtain rfl : u = Value.ref a := rx
  obtain ⟨t1, ha⟩ := exo_at I1.hok ea
  obtain ⟨mA, hns, hr⟩ := exd_at I1.hok ed
  obtain ⟨od, ho, hl⟩ := lookIn_ns hns
  obtain ⟨u, hu, ru⟩ := RelO.some_of (v := v) (o := mA f) (by rw [← l]; exact hr f)
  have J : PySem.W.InstAt s1.heap a { cls := .ref C, dict := some d, data := .fields #[.ref t1, .none, .none, .none, .bool false, .none] } C (some od) := ⟨ha, rfl, rfl, ho⟩
  exact HandSPX.exc_get I1.kIn J T.ga T.gg T.exC (PySem.W.findObj_own T.hdC hno rfl (by rw [hl, hu])) (handed_of ru) ⟨v, H1, I1.tok _, ru, q⟩
end Ss
namespace PySem.W
open PySem PySem.Spec PySem.Calls PyProof.Rows
section
variable {prog : Program} {w : World} {A : Around} {E : Value → Shared → Prop} {s : Shared} {K : Frag} {x D : Addr} {ox : Obj} {od : Option Obj}
theorem ssFindData {C : Addr} {name : Str} {a g : Value} (hc : (clsIn K C).isSome = true) (ha : findIn K (.ref C) name = some (some a)) (hg : specialIn K a "__get__" = some (some g)) (ht : takesIn K a = some true) : findObj K C od name = some (.bind g a) := by
  obtain ⟨cd, hc⟩ := Option.isSome_iff_exists.mp hc
  unfold findObj
  rw [hc, Option.bind_some, ha, Option.bind_some]
  simp [hg, ht]
theorem ssClassOf {Q : Option Value → Shared → Prop} (hga : findIn K (.ref D) "__getattribute__" = some (some (.builtin "BaseException.__getattribute__"))) (hgt : findIn K (.ref D) "__getattr__" = some none) (hsub : subIn K (.ref D) (.type "BaseException") = some true)
    (hdct : hasDictIn K D = true) (ha : findIn K (.ref D) "__class__" = some (some (.builtin "object.__class__")))
    (hn : specialIn K (.builtin "object.__class__") "__get__" = some (some (.builtin "getset_descriptor.__get__"))) (htk : takesIn K (.builtin "object.__class__") = some true) (hm : mroIn K D (.type "object") = some true)
    (X : K.In s.heap) (I : InstAt s.heap x ox D od) (h : Q (some (.ref D)) { s with toks := s.toks + 1 }) : wpAny (model prog w) A (getAttr? (.ref x) "__class__") Q E s := by
  have hf : findObj K D od "__class__" = some (.bind (.builtin "getset_descriptor.__get__") (.builtin "object.__class__")) := ssFindData (by obtain ⟨cd, hc, _⟩ := any_some hdct; rw [hc]; rfl) ha hn htk
  obtain ⟨hp, g, d, t, os⟩ := s
  have L0 := I.type (M := model prog w)
  have L1 := looks_findIn (M := model prog w) X hga
  have L2 := looks_findIn (M := model prog w) X hgt
  have L3 := looks_find (M := model prog w) X I hf
  have sub : Looks (model prog w) hp (isInstance (.ref x) (.type "BaseException")) true := L0.andThen (looks_subIn X hsub)
  have z0 : (false && onTheHeap (Value.builtin "BaseException.__getattribute__")) = false := rfl
  have z2 : (Value.builtin "BaseException.__getattribute__" == Value.builtin "object.__getattribute__") = false := by decide +kernel
  have z1 : (onTheHeap (Value.ref D) && Value.builtin "BaseException.__getattribute__" == Value.builtin "object.__getattribute__") = false := by rw [z2]; rfl
  unfold getAttr? getAttrBy? getAttrBy
  refine wpAny_bind (wpAny_mkText (wpAny_bind (wpAny_attempt (wpAny_holding (wpAny_bind (L0.at (wpAny_bind (L1.at ?_))))))))
  show wpAny _ _ (if (onTheHeap (Value.ref D) && Value.builtin "BaseException.__getattribute__" == Value.builtin "object.__getattribute__") = true then _ else _) _ _ _
  rw [z1, if_neg Bool.false_ne_true]
  unfold getAttrByItsOwn hookBefore
  refine wpAny_bind ?_
  rw [if_pos (show onTheHeap (Value.ref D) = true from rfl)]
  refine L2.at ?_
  refine wpAny_bind (wpAny_attempt (wpAny_holding ?_))
  unfold callGetattribute
  rw [z0, if_neg Bool.false_ne_true]
  unfold boundAndCalled
  rw [PySem.F.excAttr_ValueError.ga.bind (.ref x)]
  refine wpAny_bind (wpAny_pure ?_)
  show wpAny _ _ (call (.builtin "BaseException.__getattribute__") [.ref x, .str "__class__" t]) _ _ _
  refine wpAny_call (codeAny_call_builtin PySem.F.excAttr_ValueError.ga.plain PySem.F.entry_bexc_ga ?_)
  refine @check_slot (model prog w) _ _ ⟨hp, g, d, t + 1, os⟩ "BaseException.__getattribute__" "BaseException" "__getattribute__" (.ref x) [.str "__class__" t] [] _ (by decide +kernel) (by decide +kernel) sub (PySem.F.args_bexc_ga (.ref x) (.str "__class__" t)) ?_
  unfold Builtin.«object.__getattribute__»
  refine wpAny_bind (wpAny_of_eq (a := ((Value.ref x : Value), [Value.str "__class__" t])) (by first | rfl | (simp only [slotArgs]; rfl)) ?_)
  refine wpAny_bind (wpAny_pure (wpAny_bind (L0.at (wpAny_bind (L3.at ?_)))))
  show wpAny _ _ (holding [Value.builtin "object.__class__"] (call (.builtin "getset_descriptor.__get__") [.builtin "object.__class__", .ref x, .ref D]) >>= ret) _ _ _
  refine wpAny_bind (wpAny_holding (wpAny_call (class_get (s := ⟨hp, g, d, t + 1, os⟩) (ox := ox) (od := od) X I hm ?_)))
  refine wpAny_pure ?_
  show wpAny _ _ (handedOut (.ref D)) _ _ _
  rw [handedOut_of (v := .ref D) rfl]
  first
    | exact wpAny_pure (wpAny_pure h)
    | exact wpAny_pure h
    | exact wpAny_pure (wpAny_bind (wpAny_pure (wpAny_pure h)))
theorem ssKit (hga : findIn K (.ref D) "__getattribute__" = some (some (.builtin "BaseException.__getattribute__"))) (hgt : findIn K (.ref D) "__getattr__" = some none) (hsub : subIn K (.ref D) (.type "BaseException") = some true) (hdct : hasDictIn K D = true) (ha : findIn K (.ref D) "__class__" = some (some (.builtin "object.__class__")))
    (hn : specialIn K (.builtin "object.__class__") "__get__" = some (some (.builtin "getset_descriptor.__get__"))) (htk : takesIn K (.builtin "object.__class__") = some true) (hm : mroIn K D (.type "object") = some true) :
    KitX K (.ref x) (.ref D) (fun h => ∃ od, InstAt h x ox D od) where
  ty := fun _ _ _ I => let ⟨_, I⟩ := I; I.type
  it := fun _ _ X _ => by
    obtain ⟨cdD, hcD, _⟩ := any_some hdct
    unfold clsIn at hcD
    split at hcD
    · rename_i c' d' cd' sl' ho
      intro A' Q' E' s' k q
      unfold isType loadHead
      exact wpAny_bind (wpAny_loadPart (k _ _ (X _ _ ho)) (wpAny_pure q))
    · cases hcD
  ne := fun h tp dd its n sl X htp => by
    obtain ⟨cdD, hcD, _⟩ := any_some hdct
    refine Bool.eq_false_iff.mpr fun q => ?_
    have e : D = tp := Value.ref.inj (beq_iff_eq.mp q)
    subst e
    unfold clsIn at hcD
    split at hcD
    · rename_i c' d' cd' sl' ho
      have z := (X _ _ ho).symm.trans htp
      cases z
    · cases hcD
  ca := fun X I k => let ⟨_, I⟩ := I; ssClassOf hga hgt hsub hdct ha hn htk hm X I k
end
end PySem.W
namespace Ss
open PySem L2 PySem.Spec PyProof.Rows
/-- isinstance(x, c), x an error that stands as a value -/
def rIsX (K : PySem.W.Frag) : List V → Hp → VK → Prop := fun xs H Q => ∃ (a C : Addr) (dd : Option Addr) (ini : String) (c : V) (cv : Value) (b : Bool), xs = [.ref a, c] ∧ H a = some (exo a C dd) ∧ (∀ d, dd = some d → ∃ fs, H d = some (exd d fs)) ∧ EC K C ini ∧ ClsV c cv ∧ PySem.W.kitOne K (.ref C) cv = some b ∧ Q (.bl b) H
theorem call_isx {X : Cx} : CallR X (.builtin "isinstance") (rIsX X.K) := by
  intro pins s σ H xs us Q I r h
  obtain ⟨a, C, dd, ini, c, cv, b, rfl, ea, ed, T, k, e, q⟩ := h
  obtain ⟨u1, u2, rfl, r1, r2⟩ := vals2 r
  have e2 := k.eq r2
  subst e2
  cases (show u1 = Value.ref a from r1)
  obtain ⟨t1, ha⟩ := exo_at I.hok ea
  have J : ∃ od, PySem.W.InstAt s.heap a { cls := .ref C, dict := dd, data := .fields #[.ref t1, .none, .none, .none, .bool false, .none] } C od := by
    cases dd with
    | none => exact ⟨none, ha, rfl, rfl, trivial⟩
    | some d =>
      obtain ⟨fs, ed⟩ := ed d rfl
      obtain ⟨mA, hns, hr⟩ := exd_at I.hok ed
      obtain ⟨od, ho, hl⟩ := lookIn_ns hns
      exact ⟨some od, ha, rfl, rfl, ho⟩
  exact PySem.W.kia_one (PySem.W.ssKit T.ga T.gg T.exC T.hdC T.ha T.hn T.ht T.hm) I.kIn J e (fun z => nomatch z) fun tk => ⟨.bl b, H, I.kept (t' := tk) fun _ _ z => z, rfl, q⟩
end Ss
namespace Ss
open PySem L2 PySem.Spec PyProof.Rows
/-! ### a text made of a value: some bounded text -/
def leafOk : V → Prop
  | .non => True
  | .bl _ => True
  | .int i => i.natAbs.log2 < 1920
  | .str y => y.length ≤ 1000 ∧ ∀ c ∈ y.cps.toList, c < 16 ^ 8
  | _ => False
def leafTx : V → Str
  | .non => "None"
  | .bl b => if b then "True" else "False"
  | .int i => toString i
  | .str y => reprText y
  | _ => ""
theorem leaf_len {x : V} (h : leafOk x) : (leafTx x).length ≤ 10002 := by
  cases x with
  | non => decide +kernel
  | bl b => cases b <;> decide +kernel
  | int i =>
    have e := int_text_length_le (k := 1920) (by decide) (show i.natAbs.log2 < 1920 from h)
    show (Str.ofString (toString i)).length ≤ _
    rw [PySem.ofString_length]
    omega
  | str y =>
    have e := StrLaws.reprText_len y h.2
    have e2 : y.length ≤ 1000 := h.1
    show (reprText y).length ≤ _
    omega
  | _ => exact False.elim h
theorem leaf_repr {prog : Program} {w : World} {x : V} {u : Value} (h : leafOk x) (r : RelV x u) : ReprIs prog w u (leafTx x) := by
  have hl := leaf_len h
  have hz : (leafTx x).length ≤ sizeLine := Nat.le_trans hl (by decide)
  cases x with
  | non => cases r; exact ReprIs.none
  | bl b => cases r; exact ReprIs.bool b
  | int i => obtain ⟨t, rfl⟩ := r; exact ReprIs.int t h
  | str y => obtain ⟨t, rfl⟩ := r; exact ReprIs.str y t hz
  | _ => exact False.elim h
theorem leaf_all {prog : Program} {w : World} : ∀ {l : List V} {us : List Value}, Vals l us → (∀ y ∈ l, leafOk y) → ReprAll prog w us (l.map leafTx)
  | _, _, .nil, _ => .nil
  | _, _, .cons r rr, h => .cons (leaf_repr (h _ List.mem_cons_self) r) (leaf_all rr fun y hy => h y (List.mem_cons_of_mem _ hy))
theorem leaf_piled : ∀ {l : List V}, (∀ y ∈ l, leafOk y) → piled (l.map leafTx) ≤ 10004 * l.length
  | [], _ => Nat.zero_le _
  | x :: l, h => by
    have h1 := leaf_len (h x List.mem_cons_self)
    have h2 := leaf_piled (l := l) fun y hy => h y (List.mem_cons_of_mem _ hy)
    rw [List.map_cons, piled_cons, List.length_cons]
    omega
/-- such values may stand in an error's text -/
def Shown (K : PySem.W.Frag) (H : Hp) (x : V) : Prop := leafOk x ∨ ∃ (a : Addr) (l : List V), x = .ref a ∧ SqT K H a l ∧ (∀ y ∈ l, leafOk y) ∧ l.length ≤ 100
/-- {x!r}, {x!s} -/
def tFmtX (K : PySem.W.Frag) (te : TE) : TE := fun σ H Q => te σ H fun x H1 => Shown K H1 x ∧ ∀ m : Str, m.length ≤ 1100000 → Q (.str m) H1
section
variable {X : Cx} {e : Expr} {te : TE} {pos : Pos} {k : Nat}
theorem fmt_mem {prog : Program} {w : World} {A : Around} {E : Value → Shared → Prop} {s : Shared} {a : Addr} {o : Obj} {items : Array Value} {n : Nat} {ts : List Str} {Q : Value → Shared → Prop} (hu : A.units < cLine) (ha : s.heap.get? a = some o) (hc : o.cls = .type "tuple") (hd : o.data = .seq items n)
    (hT : ReprAll prog w items.toList ts) (hsz : (tupleText ts).length ≤ sizeLine) (h : ∀ (m : Str) (u tk : Tok), m.length ≤ (tupleText ts).length + 5 → Q (.str m u) { s with toks := tk }) : wpAny (model prog w) A (pyReprObj (.ref a)) Q E s :=
  wpAny_pyReprObj_slot hu ⟨o, ha, hc⟩ F.slot_tuple_repr (fmt_tuple_repr ha hc hd hT hsz fun m u tk hm => ⟨m, u, rfl, h m u tk hm⟩)
theorem pe_fmtX (hr : Room k X.A) (he : PE X e te) : PE X (.FormattedValue e 114 none pos) (tFmtX X.K te) := by
  refine ⟨fun pins s σ H Q I h => ?_⟩
  refine wpAny_FormattedValue_repr (thn (he.run pins s σ H _ I h) fun v s1 hv => ?_)
  obtain ⟨x, H1, I1, r1, sh, q⟩ := hv
  have fin : ∀ (m : Str) (u tk : Tok), m.length ≤ 1100000 → wpAny (model X.prog X.w) X.A (formatField (.str m u) Str.empty) (EP X pins σ Q) X.xe { s1 with toks := tk } := fun m u tk hm =>
    wpAny_formatField_str ⟨.str m, H1, I1.tok _, ⟨_, rfl⟩, q m hm⟩ ⟨.str m, H1, I1.tok _, ⟨_, rfl⟩, q m hm⟩ (Nat.le_trans hm (by decide))
  rcases sh with sh | ⟨a, l, rfl, ht, hl, hn⟩
  · have hz : (leafTx x).length ≤ 1100000 := Nat.le_trans (leaf_len sh) (by decide)
    have hz2 : (leafTx x).length ≤ sizeLine := Nat.le_trans hz (by decide)
    cases x with
    | non => cases r1; exact pyReprObj_none (fin _ _ _ hz)
    | bl b => cases r1; exact pyReprObj_bool (fin _ _ _ hz)
    | int i => obtain ⟨t, rfl⟩ := r1; exact pyReprObj_int sh (fin _ _ _ hz)
    | str y => obtain ⟨t, rfl⟩ := r1; exact pyReprObj_str (fin _ _ _ hz) hz2
    | _ => exact False.elim sh
  · cases r1
    obtain ⟨its, rv, ⟨o, ho, hcl, n, hd⟩, _⟩ := I1.tuple ht
    have hp := leaf_piled hl
    have htx := fmt_text (l.map leafTx)
    have hb : (tupleText (l.map leafTx)).length + 5 ≤ 1100000 := by omega
    exact fmt_mem hr.units0 ho hcl hd (leaf_all rv hl) (Nat.le_trans (Nat.le_trans (Nat.le_add_right _ 5) hb) (by decide)) fun m u tk hm => fin m u tk (Nat.le_trans hm hb)
theorem pe_fmtS (hr : Room k X.A) (he : PE X e te) : PE X (.FormattedValue e 115 none pos) (tFmtX X.K te) := by
  refine ⟨fun pins s σ H Q I h => ?_⟩
  refine wpAny_FormattedValue_s (thn (he.run pins s σ H _ I h) fun v s1 hv => ?_)
  obtain ⟨x, H1, I1, r1, sh, q⟩ := hv
  have fin : ∀ (m : Str) (u tk : Tok), m.length ≤ 1100000 → wpAny (model X.prog X.w) X.A (formatField (.str m u) Str.empty) (EP X pins σ Q) X.xe { s1 with toks := tk } := fun m u tk hm =>
    wpAny_formatField_str ⟨.str m, H1, I1.tok _, ⟨_, rfl⟩, q m hm⟩ ⟨.str m, H1, I1.tok _, ⟨_, rfl⟩, q m hm⟩ (Nat.le_trans hm (by decide))
  rcases sh with sh | ⟨a, l, rfl, ht, hl, hn⟩
  · have hz : (leafTx x).length ≤ 1100000 := Nat.le_trans (leaf_len sh) (by decide)
    cases x with
    | non => cases r1; exact pyStrObj_none (fin _ _ _ hz)
    | bl b => cases r1; exact pyStrObj_bool (fin _ _ _ hz)
    | int i => obtain ⟨t, rfl⟩ := r1; exact pyStrObj_int sh (fin _ _ _ hz)
    | str y =>
      obtain ⟨t, rfl⟩ := r1
      have hy : y.length ≤ 1100000 := Nat.le_trans sh.1 (by decide)
      show wpAny _ _ (habitSame "fstring-hands-on-the-str" (.str y t)) _ _ _
      exact wpAny_habitSame_str (fin _ _ _ hy) (fin _ _ _ hy) (Nat.le_trans hy (by decide))
    | _ => exact False.elim sh
  · cases r1
    obtain ⟨its, rv, ⟨o, ho, hcl, n, hd⟩, _⟩ := I1.tuple ht
    have hp := leaf_piled hl
    have htx := fmt_text (l.map leafTx)
    have hb : (tupleText (l.map leafTx)).length + 5 ≤ 1100000 := by omega
    have hu := hr.units
    exact convS_slot (fun _ _ => nofun) (by omega) ⟨o, ho, hcl⟩ F.slot_tuple_str F.slot_tuple_repr
      (fmt_tuple_repr ho hcl hd (leaf_all rv hl) (Nat.le_trans (Nat.le_trans (Nat.le_add_right _ 5) hb) (by decide)) fun m u tk hm => ⟨m, u, rfl, fin m u tk (Nat.le_trans hm hb)⟩)
end
/-! ### an error's text: written parts and values one behind the other -/
/-- a part: a written text, or a value -/
def PtOk (K : PySem.W.Frag) (σ : L2.St) (H : Hp) (t : TE) : Prop := ∀ Q : VK, (∀ m : Str, m.length ≤ 1100000 → Q (.str m) H) → t σ H Q
theorem part_c {K : PySem.W.Frag} {σ : L2.St} {H : Hp} {z : Str} (h : z.length ≤ 1100000) : PtOk K σ H (tC (.str z)) := fun _ q => q z h
theorem part_v {K : PySem.W.Frag} {σ : L2.St} {H : Hp} {i : Nat} {x : V} (hx : σ[i]? = some (some x)) (h : Shown K H x) : PtOk K σ H (tFmtX K (tVar i)) := fun _ q => ⟨x, hx, h, fun m hm => q m hm⟩
theorem parts_run {K : PySem.W.Frag} {σ : L2.St} {H : Hp} : ∀ {ts : List TE} {acc : Str} {n : Nat} {Q : Str → Hp → Prop}, (∀ t ∈ ts, PtOk K σ H t) → acc.length ≤ 1100000 * n → n + ts.length ≤ 12 → (∀ z, Q z H) → tJs ts acc σ H Q
  | [], _, _, _, _, _, _, q => q _
  | t :: ts, acc, n, Q, h, ha, hn, q => by
    refine h t List.mem_cons_self _ fun m hm => ?_
    have e : (acc ++ m).length = acc.length + m.length := strLen_append acc m
    have hn : n + (ts.length + 1) ≤ 12 := hn
    refine ⟨m, rfl, ?_, parts_run (n := n + 1) (fun t ht => h t (List.mem_cons_of_mem _ ht)) ?_ (by omega) q⟩
    · rw [e]; exact Nat.le_trans (show _ ≤ 1100000 * 12 by omega) (by decide)
    · rw [e]; omega
end Ss
namespace Ss
open PySem L2 PySem.Spec PyProof.Rows
/-! ### data -/
mutual
theorem Dp.mono {K : PySem.W.Frag} {H H' : Hp} (s : Same H H') : ∀ {v : V} {d : PyData}, Dp K H v d → Dp K H' v d
  | _, _, .non => .non
  | _, _, .bl b => .bl b
  | _, _, .int i => .int i
  | _, _, .str x => .str x
  | _, _, .lst h a => .lst (s.seq h) (DpAll.mono s a)
  | _, _, .tup h a => .tup (Evl.ex_t s h) (DpAll.mono s a)
theorem DpAll.mono {K : PySem.W.Frag} {H H' : Hp} (s : Same H H') : ∀ {vs : List V} {ds : List PyData}, DpAll K H vs ds → DpAll K H' vs ds
  | _, _, .nil => .nil
  | _, _, .cons h t => .cons (Dp.mono s h) (DpAll.mono s t)
end
theorem DpAll.get {K : PySem.W.Frag} {H : Hp} : ∀ {vs : List V} {ds : List PyData} {i : Nat} {v : V}, DpAll K H vs ds → vs[i]? = some v → ∃ d, ds[i]? = some d ∧ Dp K H v d
  | _, _, _, _, .nil, e => by simp at e
  | _, _, 0, _, .cons h _, e => by
    simp at e
    subst e
    exact ⟨_, rfl, h⟩
  | _, _, i + 1, _, .cons _ t, e => by
    obtain ⟨d, h1, h2⟩ := DpAll.get (i := i) t (by simpa using e)
    exact ⟨d, by simpa using h1, h2⟩
theorem DpAll.len {K : PySem.W.Frag} {H : Hp} : ∀ {vs : List V} {ds : List PyData}, DpAll K H vs ds → vs.length = ds.length
  | _, _, .nil => rfl
  | _, _, .cons _ t => by rw [List.length_cons, List.length_cons, DpAll.len t]
theorem DpAll.snoc {K : PySem.W.Frag} {H : Hp} {v : V} {d : PyData} : ∀ {vs : List V} {ds : List PyData}, DpAll K H vs ds → Dp K H v d → DpAll K H (vs ++ [v]) (ds ++ [d])
  | _, _, .nil, h => .cons h .nil
  | _, _, .cons a t, h => .cons a (DpAll.snoc t h)
/-- tuples within each other at most n deep, of at most a thousand items each -/
def tupD : Nat → PyData → Bool
  | _, .none => true
  | _, .bool _ => true
  | _, .int _ => true
  | _, .str _ => true
  | n + 1, .tuple ds => decide (ds.length ≤ 1000) && ds.all (tupD n)
  | _, _ => false
/-- the type of a value that is data -/
def tyD : PyData → String
  | .none => "NoneType"
  | .bool _ => "bool"
  | .int _ => "int"
  | .str _ => "str"
  | .list _ => "list"
  | .tuple _ => "tuple"
  | .dict _ => "dict"
theorem dp_ty {K : PySem.W.Frag} {H : Hp} {v : V} {d : PyData} (h : Dp K H v d) (hl : ∀ ds, d ≠ .list ds) : TyX K H v (.type (tyD d)) := by
  cases h with
  | non => exact .base .non
  | bl b => exact .base (.bl b)
  | int i => exact .base (.int i)
  | str x => exact .base (.str x)
  | lst h a => exact absurd rfl (hl _)
  | tup h a =>
    rcases h with (h | ⟨o, h⟩) | ⟨o, its, n, lk, c, dd, r⟩
    · exact .base (.tup h)
    · exact .fTuple h
    · exact .kTuple lk c
theorem tupD_all {n : Nat} {ds : List PyData} (h : tupD (n + 1) (.tuple ds) = true) : ds.length ≤ 1000 ∧ ∀ d ∈ ds, tupD n d = true := by
  have h : (decide (ds.length ≤ 1000) && ds.all (tupD n)) = true := h
  rw [Bool.and_eq_true] at h
  exact ⟨of_decide_eq_true h.1, List.all_eq_true.mp h.2⟩
theorem DpAll.imp {K : PySem.W.Frag} {H H' : Hp} {p : PyData → Prop} (f : ∀ d v, p d → Dp K H v d → Dp K H' v d) : ∀ {vs : List V} {ds : List PyData}, DpAll K H vs ds → (∀ d ∈ ds, p d) → DpAll K H' vs ds
  | _, _, .nil, _ => .nil
  | _, _, .cons h t, hp => .cons (f _ _ (hp _ List.mem_cons_self) h) (DpAll.imp f t fun d hd => hp d (List.mem_cons_of_mem _ hd))
/-- no tuple -/
def NotTup : Option HO → Prop
  | some (.tup _) => False
  | some (.frz _ (.tup _)) => False
  | _ => True
/-- what is no tuple, and changes, is no part of such data -/
theorem Dp.off {K : PySem.W.Frag} {H H' : Hp} {b : Addr} (s : Off b H H') (hb : NotTup (H b)) : ∀ (n : Nat) (d : PyData) (v : V), tupD n d = true → Dp K H v d → Dp K H' v d := by
  intro n
  induction n with
  | zero =>
    intro d v ht h
    cases h with
    | non => exact .non
    | bl b => exact .bl b
    | int i => exact .int i
    | str x => exact .str x
    | lst _ _ => exact Bool.noConfusion ht
    | tup _ _ => exact Bool.noConfusion ht
  | succ n ih =>
    intro d v ht h
    cases h with
    | non => exact .non
    | bl b => exact .bl b
    | int i => exact .int i
    | str x => exact .str x
    | lst _ _ => exact Bool.noConfusion ht
    | @tup a xs ds hs ha =>
      have hall := (tupD_all ht).2
      refine .tup (xs := xs) ?_ ?_
      · rcases hs with (hs | ⟨q, hs⟩) | hs
        · exact .inl (.inl (s _ _ (fun z => by rw [← z, hs] at hb; exact hb) hs))
        · exact .inl (.inr ⟨q, s _ _ (fun z => by rw [← z, hs] at hb; exact hb) hs⟩)
        · exact .inr hs
      · exact DpAll.imp (p := fun d => tupD n d = true) (fun d v hd h => ih d v hd h) ha hall
theorem DpAll.off {K : PySem.W.Frag} {H H' : Hp} {b : Addr} {n : Nat} (s : Off b H H') (hb : NotTup (H b)) {vs : List V} {ds : List PyData} (h : ∀ d ∈ ds, tupD n d = true) (a : DpAll K H vs ds) : DpAll K H' vs ds :=
  DpAll.imp (p := fun d => tupD n d = true) (fun d v hd h => Dp.off s hb n d v hd h) a h
theorem Shown.mono {K : PySem.W.Frag} {H H' : Hp} {x : V} (s : Same H H') (h : Shown K H x) : Shown K H' x := by
  rcases h with h | ⟨a, l, e, ht, r⟩
  · exact .inl h
  · exact .inr ⟨a, l, e, Evl.ex_t s ht, r⟩
theorem Shown.off {K : PySem.W.Frag} {H H' : Hp} {b : Addr} (s : Off b H H') (hb : NotTup (H b)) {x : V} (h : Shown K H x) : Shown K H' x := by
  rcases h with h | ⟨a, l, e, hs, r⟩
  · exact .inl h
  · refine .inr ⟨a, l, e, ?_, r⟩
    rcases hs with (hs | ⟨q, hs⟩) | hs
    · exact .inl (.inl (s _ _ (fun z => by rw [← z, hs] at hb; exact hb) hs))
    · exact .inl (.inr ⟨q, s _ _ (fun z => by rw [← z, hs] at hb; exact hb) hs⟩)
    · exact .inr hs
/-- kept(value): the same data -/
def spKept (K : PySem.W.Frag) (n : Nat) : Sp := fun vs H Q _ => ∃ (v : V) (d : PyData), vs = [v] ∧ Dp K H v d ∧ tupD n d = true ∧ ∀ (v' : V) (H' : Hp), Same H H' → Dp K H' v' d → Q v' H'
/-- a def whose calls are never reached -/
theorem Dk.never {P : Program} {w : World} {K : PySem.W.Frag} {mg : Str → Option Value} {base : Heap} {x : Str} {st : Stmt} {ps : List Str} (D : DefAt K mg x st) (b : ∀ f fd, Fun K x x st f fd → Binds K fd ps []) : Dk P w K mg base CX0 0 x ps (fun _ _ _ _ => False) := by
  obtain ⟨f, fd, F, mf⟩ := D.ex
  exact ⟨f, fd, ⟨fun _ _ _ _ h => h.elim, fun _ _ _ _ _ _ _ _ _ _ _ _ _ h => h.elim⟩, mf, F.kp, b f fd F⟩
/-! ### an error's fields, one after another -/
/-- since H0 the error at a, which was being made, has got the fields fs (the last one first) -/
def Part (K : PySem.W.Frag) (H0 H' : Hp) (a C : Addr) (n : Nat) (fs : List (Str × PyData)) : Prop := Off a H0 H' ∧ NotTup (H0 a) ∧
  ((fs = [] ∧ H' a = some (exo a C none)) ∨ ∃ (dx : Addr) (vs : List (Str × V)), H' a = some (exo a C (some dx)) ∧ H' dx = some (exd dx vs) ∧ H0 dx = none ∧ dx ≠ a ∧ vs.length = fs.length ∧ ∀ f d, fs.lookup f = some d → tupD n d = true ∧ ∃ v, vs.lookup f = some v ∧ Dp K H' v d)
theorem nt_exo {a C : Addr} {d : Option Addr} : NotTup (some (exo a C d)) := trivial
theorem nt_exd {a : Addr} {fs : List (Str × V)} : NotTup (some (exd a fs)) := trivial
theorem lookup_hd {α : Type} (f g : Str) (y : α) (fs : List (Str × α)) : ((f, y) :: fs).lookup g = if g = f then some y else fs.lookup g := by
  by_cases h : g = f
  · subst h
    simp [List.lookup]
  · have e : (g == f) = false := by simpa using h
    rw [if_neg h]
    simp [List.lookup, e]
/-- self.f = kept(x) -/
theorem est_turn {K : PySem.W.Frag} {H0 H' : Hp} {a C : Addr} {n i : Nat} {ini : String} {f : Str} {fs : List (Str × PyData)} {σ : L2.St} {D : Ends} {x : V} {d : PyData} (T : EC K C ini) (hno : PySem.W.findIn K (.ref C) f = some none)
    (h0 : σ[0]? = some (some (.ref a))) (hi : σ[i]? = some (some x)) (hp : Part K H0 H' a C n fs) (hd : Dp K H0 x d) (ht : tupD n d = true) (hl : fs.length ≤ 900) (k : ∀ H'', Part K H0 H'' a C n ((f, d) :: fs) → D.nx σ H'') :
    tEst K ini f (tVar 0) (tCall (spKept K n) [] E0 (tCons (tVar i) tNil)) D σ H' := by
  obtain ⟨hO, hN, hc⟩ := hp
  refine ⟨x, hi, x, d, rfl, Dp.off hO hN n d x ht hd, ht, fun x' H1 s1 hx' => ?_⟩
  refine ⟨_, h0, a, C, rfl, T, hno, ?_⟩
  rcases hc with ⟨rfl, ha⟩ | ⟨dx, vs, ha, hdx, h0x, hne, hvl, hv⟩
  · refine .inl ⟨s1 _ _ ha, fun dx ndx ne => k _ ⟨fun b o nb hb => ?_, hN, .inr ⟨dx, [(f, x')], upd_same, ?_, ?_, ne, rfl, ?_⟩⟩⟩
    · have q := s1 _ _ (hO b o nb hb)
      rw [upd_ne nb, upd_ne (ne_of_none q ndx)]
      exact q
    · rw [upd_ne ne, upd_same]
    · cases q : H0 dx with
      | none => rfl
      | some o =>
        have z := s1 _ _ (hO dx o ne q)
        rw [ndx] at z
        cases z
    · intro g e hg
      rw [lookup_hd] at hg
      by_cases hgf : g = f
      · rw [if_pos hgf] at hg
        cases hg
        refine ⟨ht, x', by rw [lookup_hd, if_pos hgf], ?_⟩
        have o1 : Off a H1 (upd (upd H1 dx (exd dx [(f, x')])) a (exo a C (some dx))) := ((Off.refl a H1).new ndx).upd
        exact Dp.off o1 (by rw [s1 _ _ ha]; exact nt_exo) n d x' ht hx'
      · rw [if_neg hgf] at hg
        cases hg
  · refine .inr ⟨dx, vs, s1 _ _ ha, s1 _ _ hdx, by omega, k _ ⟨fun b o nb hb => ?_, hN, .inr ⟨dx, (f, x') :: vs, ?_, upd_same, h0x, hne, by rw [List.length_cons, List.length_cons, hvl], ?_⟩⟩⟩
    · have nbd : b ≠ dx := fun z => by rw [z, h0x] at hb; cases hb
      rw [upd_ne nbd]
      exact s1 _ _ (hO b o nb hb)
    · have nad : a ≠ dx := fun z => hne z.symm
      rw [upd_ne nad]
      exact s1 _ _ ha
    · have o1 : Off dx H1 (upd H1 dx (exd dx ((f, x') :: vs))) := (Off.refl dx H1).upd
      have n1 : NotTup (H1 dx) := by rw [s1 _ _ hdx]; exact nt_exd
      intro g e hg
      rw [lookup_hd] at hg
      by_cases hgf : g = f
      · rw [if_pos hgf] at hg
        cases hg
        exact ⟨ht, x', by rw [lookup_hd, if_pos hgf], Dp.off o1 n1 n d x' ht hx'⟩
      · rw [if_neg hgf] at hg
        obtain ⟨t1, v, h1, h2⟩ := hv g e hg
        exact ⟨t1, v, by rw [lookup_hd, if_neg hgf]; exact h1, Dp.off o1 n1 n e v t1 (Dp.mono s1 h2)⟩
end Ss
namespace Ss
open PySem L2 PySem.Spec PyProof.Rows
/-- the error class x of the text: its own __init__ keeps sp -/
structure EDef (P : Program) (w : World) (K : PySem.W.Frag) (mg : Str → Option Value) (base : Heap) (k : Nat) (x : Str) (C : Addr) (ini : String) (ps : List Str) (sp : Sp) : Prop where
  ex : ∃ (fd : FuncData), EMk P w K mg base CX0 C ini k ps sp fd ∧ mg x = some (.ref C) ∧ ∀ n, n + 1 ≤ ps.length → NB fd ps (n + 1) (ps.drop (n + 1))
section
variable {X : Cx} {C : Addr} {ini : String} {k j n : Nat} {ps ks : List Str} {sp : Sp} {x : Str} {p pos : Pos} {e : Expr} {es : List Expr} {kws : List Keyword} {ta tk : TA}
theorem pe_en (n : Nat) (D : EDef X.prog X.w X.K X.mg X.base k x C ini ps sp) (hr : Room j X.A) (ha : PA X (e :: es) ta) (hd : ps.drop (n + 1) = [] := by rfl) (hl : n + 1 ≤ ps.length := by decide) (hk : k + 1 ≤ j := by decide) (hn : n ≤ 1000 := by decide) (hg : Gl X x := by rfl)
    (hdb : (x == ("__debug__" : Str)) = false := by decide) (he : starEach (e :: es) X.env = (false, eval e X.env) :: starEach es X.env := by rfl) (hpl : (backTo pos (starEach es X.env)).any (·.1) = false := by rfl) :
    PE X (.Call (.Name x p) (e :: es) [] pos) (tEMk C n 0 sp E0 ta tNil) := by
  obtain ⟨fd, M, hm, nb⟩ := D.ex
  exact pe_emk M hm hr (by have q := nb n hl; rw [hd] at q; exact q) pass0 ha hk hn hg hdb he hpl
theorem pe_en0 (D : EDef X.prog X.w X.K X.mg X.base k x C ini ps sp) (hr : Room j X.A) (hd : ps.drop 1 = [] := by rfl) (hl : 1 ≤ ps.length := by decide) (hk : k + 1 ≤ j := by decide) (hg : Gl X x := by rfl)
    (hdb : (x == ("__debug__" : Str)) = false := by decide) : PE X (.Call (.Name x p) [] [] pos) (tEMk C 0 0 sp E0 tNil tNil) := by
  obtain ⟨fd, M, hm, nb⟩ := D.ex
  exact pe_emk0 M hm hr (by have q := nb 0 hl; rw [hd] at q; exact q) pass0 hk hg hdb
theorem pe_enK (n : Nat) (D : EDef X.prog X.w X.K X.mg X.base k x C ini ps sp) (hr : Room j X.A) (ha : PA X (e :: es) ta) (hkw : PK X kws tk) (hl : n + 1 ≤ ps.length := by decide) (hk : k + 1 ≤ j := by decide) (hn : n ≤ 1000 := by decide) (hg : Gl X x := by rfl)
    (hall : (backToKw pos (keywordEach kws X.env)).all (·.1.isSome) = true := by rfl) (hks : (backToKw pos (keywordEach kws X.env)).filterMap (·.1) = ps.drop (n + 1) := by rfl) (hdb : (x == ("__debug__" : Str)) = false := by decide)
    (he : starEach (e :: es) X.env = (false, eval e X.env) :: starEach es X.env := by rfl)
    (hpl : ((backTo pos (starEach (e :: es) X.env)).any (·.1) || (backToKw pos (keywordEach kws X.env)).any (·.1.isNone)) = false := by rfl) :
    PE X (.Call (.Name x p) (e :: es) kws pos) (tEMk C n (ps.drop (n + 1)).length sp E0 ta tk) := by
  obtain ⟨fd, M, hm, nb⟩ := D.ex
  exact pe_emkK M hm hr (nb n hl) pass0 ha hkw hk hn hg hall hks hdb he hpl
theorem pe_enK0 (D : EDef X.prog X.w X.K X.mg X.base k x C ini ps sp) (hr : Room j X.A) (hkw : PK X kws tk) (hl : 1 ≤ ps.length := by decide) (hk : k + 1 ≤ j := by decide) (hg : Gl X x := by rfl)
    (hall : (backToKw pos (keywordEach kws X.env)).all (·.1.isSome) = true := by rfl) (hks : (backToKw pos (keywordEach kws X.env)).filterMap (·.1) = ps.drop 1 := by rfl) (hdb : (x == ("__debug__" : Str)) = false := by decide)
    (hpl : ((backTo pos (starEach [] X.env)).any (·.1) || (backToKw pos (keywordEach kws X.env)).any (·.1.isNone)) = false := by rfl) :
    PE X (.Call (.Name x p) [] kws pos) (tEMk C 0 (ps.drop 1).length sp E0 tNil tk) := by
  obtain ⟨fd, M, hm, nb⟩ := D.ex
  exact pe_emkK0 M hm hr (nb 0 hl) pass0 hkw hk hg hall hks hdb hpl
end
/-- the values xs are the data ds, and may stand in an error's text -/
def EDat (K : PySem.W.Frag) (H : Hp) (n : Nat) (xs : List V) (ds : List PyData) : Prop := xs.length = ds.length ∧ ∀ (i : Nat) (x : V), xs[i]? = some x → ∃ d, ds[i]? = some d ∧ Dp K H x d ∧ tupD n d = true ∧ Shown K H x
/-- C.__init__(self, ..): an error with its fields -/
def spErr (K : PySem.W.Frag) (C : Addr) (fs : List Str) (n : Nat) : Sp := fun vs H Q _ => ∃ (a : Addr) (xs : List V) (ds : List PyData), vs = .ref a :: xs ∧ xs.length = fs.length ∧ H a = some (exo a C none) ∧ EDat K H n xs ds ∧
  ∀ H', Part K H H' a C n ((fs.zip ds).reverse) → Q .non H'
theorem one_of {α : Type} {xs : List α} (h : xs.length = 1) : ∃ x, xs = [x] := by
  match xs, h with
  | [x], _ => exact ⟨x, rfl⟩
theorem two_of {α : Type} {xs : List α} (h : xs.length = 2) : ∃ x y, xs = [x, y] := by
  match xs, h with
  | [x, y], _ => exact ⟨x, y, rfl⟩
theorem three_of {α : Type} {xs : List α} (h : xs.length = 3) : ∃ x y z, xs = [x, y, z] := by
  match xs, h with
  | [x, y, z], _ => exact ⟨x, y, z, rfl⟩
theorem nil_of {α : Type} {xs : List α} (h : xs.length = 0) : xs = [] := by
  match xs, h with
  | [], _ => rfl
/-- SlipError, whose __init__ is that of ValueError -/
structure SlipB (K : PySem.W.Frag) (mg : Str → Option Value) (S : Addr) : Prop where
  gS : mg "SlipError" = some (.ref S)
  rd : PySem.W.readsIn K S (.type "type") = true
  ga : PySem.W.specialIn K (.ref S) "__getattribute__" = some (some (.builtin "type.__getattribute__"))
  vV : PySem.W.findCls K (.ref S) (.type "type") "__init__" = some (.val (.builtin "ValueError.__init__"))
structure LookB (K : PySem.W.Frag) (mg : Str → Option Value) : Prop where
  gL : mg "LookupError" = none
  vL : PySem.W.findCls K (.type "LookupError") (.type "type") "__init__" = some (.val (.builtin "LookupError.__init__"))
structure RunB (K : PySem.W.Frag) (mg : Str → Option Value) : Prop where
  gR : mg "RuntimeError" = none
  vR : PySem.W.findCls K (.type "RuntimeError") (.type "type") "__init__" = some (.val (.builtin "RuntimeError.__init__"))
theorem typ_LE : typeOf (.type "LookupError") = pure (.type "type") := by kernel_rfl
theorem typ_RE : typeOf (.type "RuntimeError") = pure (.type "type") := by kernel_rfl
/-- the error's class, as the text's top has written it, with its __init__ -/
structure EAtop (K : PySem.W.Frag) (mg : Str → Option Value) (x qual : Str) (C : Addr) (ini : String) (fs : List Str) (st : Stmt) : Prop where
  ec : EC K C ini
  mg : mg x = some (.ref C)
  ex : ∃ (fI : Addr) (fd : FuncData), PySem.W.findIn K (.ref C) "__init__" = some (some (.ref fI)) ∧ PySem.W.typeIn K (.ref fI) = some (.type "function") ∧ Fun K "__init__" qual st fI fd
  no : ∀ f ∈ fs, PySem.W.findIn K (.ref C) f = some none
theorem part0 {K : PySem.W.Frag} {H : Hp} {a C : Addr} {n : Nat} (ha : H a = some (exo a C none)) : Part K H H a C n [] := ⟨Off.refl a H, by rw [ha]; exact nt_exo, .inl ⟨rfl, ha⟩⟩
end Ss
namespace Ss
open PySem L2 PySem.Spec PyProof.Rows
def eNames : List Str := ["BadCount", "BadBook", "Ambiguous", "Unwritable", "Unused", "BadRule", "NoPlace", "NoCase", "Uneven", "Unwritten", "Clash", "Unknown", "TooFew", "NothingToUndo", "Refused", "TooDeep"]
/-- the sixteen error classes: which is which -/
structure ETab (K : PySem.W.Frag) (mg : Str → Option Value) (Cf : Nat → Addr) (S : Addr) : Prop where
  g : ∀ i x, eNames[i]? = some x → mg x = some (.ref (Cf i))
  gS : mg "SlipError" = some (.ref S)
  ec : ∀ i, i < 16 → ∃ ini, EC K (Cf i) ini
  own : ∀ i j, i < 16 → j < 16 → PySem.W.kitOne K (.ref (Cf i)) (.ref (Cf j)) = some (decide (i = j))
  slip : ∀ i, i < 16 → PySem.W.kitOne K (.ref (Cf i)) (.ref S) = some (decide (i < 11))
  val : ∀ i, i < 16 → PySem.W.kitOne K (.ref (Cf i)) (.type "ValueError") = some (decide (i < 11))
  look : ∀ i, i < 16 → PySem.W.kitOne K (.ref (Cf i)) (.type "LookupError") = some (decide (11 ≤ i ∧ i < 14))
  run : ∀ i, i < 16 → PySem.W.kitOne K (.ref (Cf i)) (.type "RuntimeError") = some (decide (14 ≤ i))
  bv : mg "ValueError" = none
  bl : mg "LookupError" = none
  br : mg "RuntimeError" = none
/-- at a: an error of the i-th class -/
def IsE (Cf : Nat → Addr) (H : Hp) (a : Addr) (i : Nat) : Prop := i < 16 ∧ ∃ dd, H a = some (exo a (Cf i) dd) ∧ ∀ d, dd = some d → ∃ fs, H d = some (exd d fs)
theorem IsE.mono {Cf : Nat → Addr} {H H' : Hp} {a : Addr} {i : Nat} (h : IsE Cf H a i) (s : Same H H') : IsE Cf H' a i := by
  obtain ⟨hi, dd, ha, hd⟩ := h
  exact ⟨hi, dd, s _ _ ha, fun d e => let ⟨fs, q⟩ := hd d e; ⟨fs, s _ _ q⟩⟩
section
variable {K : PySem.W.Frag} {mg : Str → Option Value} {Cf : Nat → Addr} {S : Addr} {H : Hp} {a : Addr} {i j : Nat}
theorem rc_isx (Z : ETab K mg Cf S) (h : IsE Cf H a i) {c : V} {cv : Value} {b : Bool} (k : ClsV c cv) (e : PySem.W.kitOne K (.ref (Cf i)) cv = some b) : Evl.RC (rIsX K) [.ref a, c] H (.bl b) := fun H1 s Q q => by
  obtain ⟨hi, dd, ha, hd⟩ := h.mono s
  obtain ⟨ini, T⟩ := Z.ec i hi
  exact ⟨a, Cf i, dd, ini, c, cv, b, rfl, ha, hd, T, k, e, q H1 (Evl.Ex.refl H1)⟩
theorem ev_isx (Z : ETab K mg Cf S) {σ : L2.St} (h0 : σ[0]? = some (some (.ref a))) (h : IsE Cf H a i) (j : Nat) (hj : j < 16) : Evl.Ev (tCB (rIsX K) (tCons (tVar 0) (tCons (tC (.ref (Cf j))) tNil))) σ H (.bl (decide (i = j))) :=
  Evl.ev_cb (Evl.ea_cons (Evl.ev_var h0) (Evl.ea_cons Evl.ev_c Evl.ea_nil)) (rc_isx Z h (.own _) (Z.own i j h.1 hj))
end
theorem el_cat {σ : L2.St} {H : Hp} {ta tb : TE} {l : Addr} {xs ys : List V} (ha : Evl.Ev ta σ H (.ref l)) (hl : H l = some (.lst xs)) (hb : Evl.EvL tb σ H ys) (hz : xs.length + ys.length ≤ 100000) : Evl.EvL (tOp rCat ta tb) σ H (xs ++ ys) := fun H1 e Q q =>
  ha H1 e _ fun H2 e2 => hb H2 (e.trans e2) _ fun p H3 hp e3 h3 => ⟨l, p, xs, ys, rfl, rfl, e3 _ _ (e2 _ _ (e _ _ hl)), h3, Evl.sz_of hz, fun r hr => q r _ (Evl.fresh_back (e2.trans e3) hr) ((e2.trans e3).trans (Evl.Ex.new hr)) upd_same⟩
/-- sixteen answers, the i-th one alone is yes -/
def bl16 (i : Nat) : List V := (List.range 16).map fun k => V.bl (decide (i = k))
/-- lists of truth values as data -/
theorem dp_bools {K : PySem.W.Frag} {H : Hp} : ∀ (bs : List Bool), DpAll K H (bs.map V.bl) (bs.map PyData.bool)
  | [] => .nil
  | b :: bs => .cons (.bl b) (dp_bools bs)
theorem lay_bools : ∀ bs : List Bool, PyData.canLayAll0 (bs.map PyData.bool) = true
  | [] => rfl
  | b :: bs => by
    rw [List.map_cons]
    show (PyData.canLay0 (.bool b) && PyData.canLayAll0 (bs.map PyData.bool)) = true
    rw [lay_bools bs]
    rfl
theorem deep_bools : ∀ bs : List Bool, PyData.depthAll (bs.map PyData.bool) = 0
  | [] => rfl
  | b :: bs => by
    rw [List.map_cons]
    show max (PyData.depth (.bool b)) (PyData.depthAll (bs.map PyData.bool)) = 0
    rw [deep_bools bs]
    rfl
theorem shaped_bools (bs : List Bool) : SeqAt.shaped (.list (bs.map PyData.bool)) = true := by
  show (PyData.canLayAll0 (bs.map PyData.bool) && decide (PyData.depthAll (bs.map PyData.bool) + 1 ≤ 64)) = true
  rw [lay_bools, deep_bools]
  rfl
theorem same_data {d : PyData} (h : SeqAt.shaped d = true) : PyData.eqv d d = true := SeqAt.eqv_refl d (SeqAt.canLay_of_shaped h)
/-- two lists of the same truth values are equal -/
theorem rv_eqb {K : PySem.W.Frag} {H : Hp} {p q : Addr} {bs : List Bool} (h1 : H p = some (.lst (bs.map V.bl))) (h2 : H q = some (.lst (bs.map V.bl))) : Evl.RV (rEqD K) (.ref p) (.ref q) H (.bl true) := fun H1 e Q k =>
  ⟨_, _, .lst (SqL.of (e _ _ h1)) (dp_bools bs), .lst (SqL.of (e _ _ h2)) (dp_bools bs), shaped_bools bs, shaped_bools bs, by rw [same_data (shaped_bools bs)]; exact k H1 (Evl.Ex.refl H1)⟩
theorem rv_neb {K : PySem.W.Frag} {H : Hp} {p q : Addr} {bs : List Bool} (h1 : H p = some (.lst (bs.map V.bl))) (h2 : H q = some (.lst (bs.map V.bl))) : Evl.RV (rNeD K) (.ref p) (.ref q) H (.bl false) := fun H1 e Q k =>
  ⟨_, _, .lst (SqL.of (e _ _ h1)) (dp_bools bs), .lst (SqL.of (e _ _ h2)) (dp_bools bs), shaped_bools bs, shaped_bools bs, by rw [same_data (shaped_bools bs)]; exact k H1 (Evl.Ex.refl H1)⟩
def b16 (i : Nat) : List Bool := (List.range 16).map fun k => decide (i = k)
theorem b16_bl (i : Nat) : (b16 i).map V.bl = bl16 i := by
  unfold b16 bl16
  rw [List.map_map]
  rfl
theorem given_b16 (i : Nat) : Evl.given 16 (fun _ => true) (fun k => V.bl (decide ((V.int (k : Int)) = V.int (i : Int)))) = (b16 i).map V.bl := by
  unfold Evl.given b16
  rw [List.filter_eq_self.mpr (fun _ _ => rfl), List.map_map]
  refine List.map_congr_left fun k _ => ?_
  show V.bl _ = V.bl _
  congr 1
  show decide ((V.int (k : Int)) = V.int (i : Int)) = decide (i = k)
  by_cases h : i = k
  · subst h; simp
  · rw [decide_eq_false h]
    refine decide_eq_false fun e => h ?_
    have q := V.int.inj e
    omega
def spClasses (Cf : Nat → Addr) : Sp := fun vs H Q _ => ∃ (a : Addr) (i : Nat), vs = [.ref a] ∧ IsE Cf H a i ∧ ∀ p H', H p = none → Same H H' → H' p = some (.lst ((b16 i).map V.bl)) → Q (.ref p) H'
def spIs (Cf : Nat → Addr) : Sp := fun vs H Q _ => ∃ (a : Addr) (i : Nat), vs = [.ref a, .int i] ∧ IsE Cf H a i ∧ ∀ H', Same H H' → Q (.bl true) H'
end Ss
namespace Ss
open PySem L2 PySem.Spec PyProof.Rows
theorem EDat.mono {K : PySem.W.Frag} {H H' : Hp} {n : Nat} {xs : List V} {ds : List PyData} (h : EDat K H n xs ds) (s : Same H H') : EDat K H' n xs ds :=
  ⟨h.1, fun i x e => let ⟨d, h1, h2, h3, h4⟩ := h.2 i x e; ⟨d, h1, Dp.mono s h2, h3, Shown.mono s h4⟩⟩
/-- at a: an error of the class at C with the fields fs -/
def Has (K : PySem.W.Frag) (H : Hp) (a C : Addr) (fs : List (Str × PyData)) : Prop := ∃ (dx : Addr) (vs : List (Str × V)), H a = some (exo a C (some dx)) ∧ H dx = some (exd dx vs) ∧ ∀ f d, fs.lookup f = some d → ∃ v, vs.lookup f = some v ∧ Dp K H v d
theorem Has.mono {K : PySem.W.Frag} {H H' : Hp} {a C : Addr} {fs : List (Str × PyData)} (h : Has K H a C fs) (s : Same H H') : Has K H' a C fs := by
  obtain ⟨dx, vs, h1, h2, h3⟩ := h
  exact ⟨dx, vs, s _ _ h1, s _ _ h2, fun f d e => let ⟨v, q1, q2⟩ := h3 f d e; ⟨v, q1, Dp.mono s q2⟩⟩
theorem Has.isE {K : PySem.W.Frag} {H : Hp} {a : Addr} {Cf : Nat → Addr} {i : Nat} {fs : List (Str × PyData)} (h : Has K H a (Cf i) fs) (hi : i < 16) : IsE Cf H a i := by
  obtain ⟨dx, vs, h1, h2, h3⟩ := h
  exact ⟨hi, some dx, h1, fun d e => by cases e; exact ⟨vs, h2⟩⟩
/-! ### what evaluates to data, to an error -/
def EvD (K : PySem.W.Frag) (te : TE) (σ : L2.St) (H : Hp) (d : PyData) : Prop := ∀ H1, Evl.Ex H H1 → ∀ Q : VK, (∀ v H2, Evl.Ex H1 H2 → Dp K H2 v d → Q v H2) → te σ H1 Q
def EvEx (K : PySem.W.Frag) (te : TE) (σ : L2.St) (H : Hp) (C : Addr) (fs : List (Str × PyData)) : Prop := ∀ H1, Evl.Ex H H1 → ∀ Q : VK, (∀ a H2, Evl.Ex H1 H2 → Has K H2 a C fs → Q (.ref a) H2) → te σ H1 Q
section
variable {K : PySem.W.Frag} {σ : L2.St} {H : Hp} {te ta tb : TE} {C : Addr} {fs : List (Str × PyData)} {d : PyData}
theorem evd_var {i : Nat} {x : V} (h : σ[i]? = some (some x)) (hd : Dp K H x d) : EvD K (tVar i) σ H d := fun H1 e Q q => ⟨x, h, q x H1 (Evl.Ex.refl H1) (Dp.mono e hd)⟩
theorem evx_var {i : Nat} {a : Addr} (h : σ[i]? = some (some (.ref a))) (hd : Has K H a C fs) : EvEx K (tVar i) σ H C fs := fun H1 e Q q => ⟨.ref a, h, q a H1 (Evl.Ex.refl H1) (hd.mono e)⟩
theorem evx_make {ta tk : TA} {n m : Nat} {names : List Str} {vs zs : List V} {ds : List PyData} (hv : Evl.EvA ta σ H vs) (hz : Evl.EvA tk σ H zs) (l1 : vs.length = n) (l2 : zs.length = m) (hl : (vs ++ zs).length = names.length) (hp : names ≠ []) (hd : EDat K H 1 (vs ++ zs) ds) :
    EvEx K (tEMk C n m (spErr K C names 1) E0 ta tk) σ H C ((names.zip ds).reverse) := fun H1 e1 Q q => hv H1 e1 _ fun H2 e2 => hz H2 (e1.trans e2) _ fun H3 e3 => ⟨l1, l2, fun a ha => by
      have s3 : Same H H3 := (e1.trans e2).trans e3
      have s4 : Same H (upd H3 a (exo a C none)) := Same.new s3 ha
      refine ⟨a, _, ds, rfl, hl, upd_same, hd.mono s4, fun H4 hP => ⟨rfl, ?_⟩⟩
      obtain ⟨hO, hN, hc⟩ := hP
      have s5 : Same H3 H4 := fun b o hb => hO b o (ne_of_none hb ha) (by rw [upd_ne (ne_of_none hb ha)]; exact hb)
      refine q a H4 ((e2.trans e3).trans s5) ?_
      rcases hc with ⟨hnil, _⟩ | ⟨dx, vs', h1, h2, _, _, _, h3⟩
      · have hz0 : (names.zip ds).length = 0 := by
          have := congrArg List.length hnil
          rwa [List.length_reverse] at this
        rw [List.length_zip] at hz0
        have e1 := hd.1
        have : names.length ≠ 0 := fun z => hp (List.eq_nil_of_length_eq_zero z)
        omega
      · exact ⟨dx, vs', h1, h2, fun f d e => (h3 f d e).2⟩⟩
theorem evd_ef {f : Str} {ini : String} (h : EvEx K te σ H C fs) (T : EC K C ini) (hno : PySem.W.findIn K (.ref C) f = some none) (hl : fs.lookup f = some d) : EvD K (tEF K f te) σ H d := fun H1 e Q q =>
  h H1 e _ fun a H2 e2 hh => by
    obtain ⟨dx, vs, h1, h2, h3⟩ := hh
    obtain ⟨v, q1, q2⟩ := h3 f d hl
    exact ⟨a, C, dx, ini, vs, v, rfl, h1, h2, T, hno, q1, q v H2 e2 q2⟩
theorem et_ned (h1 : EvD K ta σ H d) (h2 : EvD K tb σ H d) (hs : SeqAt.shaped d = true) : Evl.EvT (tTest (tOp (rNeD K) ta tb)) σ H false := fun H1 e Q q =>
  h1 H1 e _ fun v H2 e2 hv => h2 H2 (e.trans e2) _ fun w H3 e3 hw => ⟨d, d, Dp.mono e3 hv, hw, hs, hs, by rw [same_data hs]; exact ⟨false, rfl, q H3 (e2.trans e3)⟩⟩
theorem ev_eqd (h1 : EvD K ta σ H d) (h2 : EvD K tb σ H d) (hs : SeqAt.shaped d = true) : Evl.Ev (tOp (rEqD K) ta tb) σ H (.bl true) := fun H1 e Q q =>
  h1 H1 e _ fun v H2 e2 hv => h2 H2 (e.trans e2) _ fun w H3 e3 hw => ⟨d, d, Dp.mono e3 hv, hw, hs, hs, by rw [same_data hs]; exact q H3 (e2.trans e3)⟩
theorem q_asgX {D : Ends} {tz : TS} {i : Nat} (h : EvEx K te σ H C fs) (k : ∀ a H1, Evl.Ex H H1 → Has K H1 a C fs → tz D (σ.set i (some (.ref a))) H1) : tSeq (tAsg te (gName i)) tz D σ H := h H (Evl.Ex.refl H) _ fun a H1 e hh => k a H1 e hh
theorem ev_is {Cf : Nat → Addr} {a : Addr} {i : Nat} {E : XK} (h0 : σ[j]? = some (some (.ref a))) (h : IsE Cf H a i) : Evl.Ev (tCall (spIs Cf) [] E (tCons (tVar j) (tCons (tC (.int (i : Int))) tNil))) σ H (.bl true) :=
  Evl.ev_call (Evl.ea_cons (Evl.ev_var h0) (Evl.ea_cons Evl.ev_c Evl.ea_nil)) fun H1 e Q q _ => ⟨a, i, rfl, h.mono e, fun H2 s => q H2 s⟩
end
/-- a value that may be put into an error, as data d -/
structure Wth (K : PySem.W.Frag) (H : Hp) (v : V) (d : PyData) : Prop where
  dp : Dp K H v d
  tu : tupD 1 d = true
  sd : SeqAt.shaped d = true
  sn : Shown K H v
theorem Wth.mono {K : PySem.W.Frag} {H H' : Hp} {v : V} {d : PyData} (h : Wth K H v d) (s : Same H H') : Wth K H' v d := ⟨Dp.mono s h.dp, h.tu, h.sd, Shown.mono s h.sn⟩
theorem edat1 {K : PySem.W.Frag} {H : Hp} {v : V} {d : PyData} (h : Wth K H v d) : EDat K H 1 [v] [d] := ⟨rfl, fun i x e => by
  match i with
  | 0 => cases e; exact ⟨d, rfl, h.dp, h.tu, h.sn⟩
  | i + 1 => simp at e⟩
theorem edat2 {K : PySem.W.Frag} {H : Hp} {v v' : V} {d d' : PyData} (h : Wth K H v d) (h' : Wth K H v' d') : EDat K H 1 [v, v'] [d, d'] := ⟨rfl, fun i x e => by
  match i with
  | 0 => cases e; exact ⟨d, rfl, h.dp, h.tu, h.sn⟩
  | 1 => cases e; exact ⟨d', rfl, h'.dp, h'.tu, h'.sn⟩
  | i + 2 => simp at e⟩
theorem edat3 {K : PySem.W.Frag} {H : Hp} {v v' v2 : V} {d d' d2 : PyData} (h : Wth K H v d) (h' : Wth K H v' d') (h2 : Wth K H v2 d2) : EDat K H 1 [v, v', v2] [d, d', d2] := ⟨rfl, fun i x e => by
  match i with
  | 0 => cases e; exact ⟨d, rfl, h.dp, h.tu, h.sn⟩
  | 1 => cases e; exact ⟨d', rfl, h'.dp, h'.tu, h'.sn⟩
  | 2 => cases e; exact ⟨d2, rfl, h2.dp, h2.tu, h2.sn⟩
  | i + 3 => simp at e⟩
/-- the i-th error class, ready: its class, its __init__, its fields -/
structure Er (P : Program) (w : World) (K : PySem.W.Frag) (mg : Str → Option Value) (base : Heap) (Cf : Nat → Addr) (i : Nat) (x : Str) (ini : String) (names : List Str) : Prop where
  d : EDef P w K mg base 3 x (Cf i) ini ("self" :: names) (spErr K (Cf i) names 1)
  ec : EC K (Cf i) ini
  no : ∀ f ∈ names, PySem.W.findIn K (.ref (Cf i)) f = some none
end Ss
namespace Ss
open PySem L2 PySem.Spec PyProof.Rows
theorem lk1 {α : Type} {f : Str} {d : α} : [(f, d)].lookup f = some d := by rw [lookup_hd, if_pos rfl]
theorem lk2a {α : Type} {f g : Str} {d e : α} : [(g, e), (f, d)].lookup g = some e := by rw [lookup_hd, if_pos rfl]
theorem lk2b {α : Type} {f g : Str} {d e : α} (h : ¬ f = g) : [(g, e), (f, d)].lookup f = some d := by rw [lookup_hd, if_neg h]; exact lk1
theorem lk3a {α : Type} {f g k : Str} {d e c : α} : [(k, c), (g, e), (f, d)].lookup k = some c := by rw [lookup_hd, if_pos rfl]
theorem lk3b {α : Type} {f g k : Str} {d e c : α} (h : ¬ g = k) : [(k, c), (g, e), (f, d)].lookup g = some e := by rw [lookup_hd, if_neg h]; exact lk2a
theorem lk3c {α : Type} {f g k : Str} {d e c : α} (h : ¬ f = k) (h2 : ¬ f = g) : [(k, c), (g, e), (f, d)].lookup f = some d := by rw [lookup_hd, if_neg h]; exact lk2b h2
theorem ev_isN {K : PySem.W.Frag} {Cf : Nat → Addr} {σ : L2.St} {H : Hp} {E : XK} {i : Nat} (hi : i < 16) : Evl.Ev (tCall (spIs Cf) [] E (tCons (tEMk (Cf i) 0 0 (spErr K (Cf i) [] 1) E0 tNil tNil) (tCons (tC (.int (i : Int))) tNil))) σ H (.bl true) := fun H1 e Q q =>
  ⟨rfl, rfl, fun a ha => ⟨a, [], [], rfl, rfl, upd_same, ⟨rfl, fun i x e => by simp at e⟩, fun H2 hP => ⟨rfl, a, i, rfl, by
    obtain ⟨hO, hN, hc⟩ := hP
    have s5 : Same H1 H2 := fun b o hb => hO b o (ne_of_none hb ha) (by rw [upd_ne (ne_of_none hb ha)]; exact hb)
    refine ⟨?_, fun H3 s3 => q H3 (s5.trans s3)⟩
    rcases hc with ⟨_, h1⟩ | ⟨dx, vs', h1, h2, _, _, _, h3⟩
    · exact ⟨hi, none, h1, fun d e => by cases e⟩
    · exact ⟨hi, some dx, h1, fun d e => by cases e; exact ⟨vs', h2⟩⟩⟩⟩⟩
end Ss
namespace Ss
open PySem L2 PySem.Spec PyProof.Rows
/-- data lean on tuples alone -/
theorem Dp.tups {K : PySem.W.Frag} {H H' : Hp} (h1 : ∀ b xs, H b = some (.tup xs) → H' b = some (.tup xs)) (h2 : ∀ b o xs, H b = some (.frz o (.tup xs)) → H' b = some (.frz o (.tup xs))) : ∀ (n : Nat) (d : PyData) (v : V), tupD n d = true → Dp K H v d → Dp K H' v d := by
  intro n
  induction n with
  | zero =>
    intro d v ht h
    cases h with
    | non => exact .non
    | bl b => exact .bl b
    | int i => exact .int i
    | str x => exact .str x
    | lst _ _ => exact Bool.noConfusion ht
    | tup _ _ => exact Bool.noConfusion ht
  | succ n ih =>
    intro d v ht h
    cases h with
    | non => exact .non
    | bl b => exact .bl b
    | int i => exact .int i
    | str x => exact .str x
    | lst _ _ => exact Bool.noConfusion ht
    | @tup a xs ds hs ha =>
      have hall := (tupD_all ht).2
      refine .tup (xs := xs) ?_ (DpAll.imp (p := fun d => tupD n d = true) (fun d v hd h => ih d v hd h) ha hall)
      rcases hs with (hs | ⟨q, hs⟩) | hs
      · exact .inl (.inl (h1 _ _ hs))
      · exact .inl (.inr ⟨q, h2 _ _ _ hs⟩)
      · exact .inr hs
/-- raise C(e, ..), C's own __init__ keeping sp: n values -/
def tEMkR (C : Addr) (n : Nat) (sp : Sp) (ta : TA) : L2.St → Hp → XK → Prop := fun σ H Q => ta σ H fun vs H1 => vs.length = n ∧ ∀ a, H1 a = none → sp (.ref a :: vs) (upd H1 a (exo a C none))
  (fun v H2 => v = .non ∧ ∃ (d : Addr) (fs : List (Str × V)), H2 a = some (exo a C (some d)) ∧ H2 d = some (exd d fs) ∧ H1 d = none ∧ Q (.ref C) (some d) (upd (del H2 a) d (.xd fs))) (fun _ _ _ => False)
theorem pmk_ec {X : Cx} {x : Str} {C : Addr} {ini : String} {k j n : Nat} {ps : List Str} {sp : Sp} {e : Expr} {es : List Expr} {ta : TA} {p pos : Pos} (D : EDef X.prog X.w X.K X.mg X.base k x C ini ps sp) (hr : Room j X.A) (ha : PA X (e :: es) ta) (hd : ps.drop (n + 1) = []) (hl : n + 1 ≤ ps.length)
    (hk : k + 1 ≤ j := by decide) (hn : n ≤ 1000 := by decide) (hg : Gl X x := by rfl) (hdb : (x == ("__debug__" : Str)) = false := by decide) (he : starEach (e :: es) X.env = (false, eval e X.env) :: starEach es X.env := by rfl) (hpl : (backTo pos (starEach es X.env)).any (·.1) = false := by rfl) :
    PMk X (.Call (.Name x p) (e :: es) [] pos) (tEMkR C n sp ta) := by
  obtain ⟨fd, M, hm, nb⟩ := D.ex
  have hb : NB fd ps (n + 1) [] := by have q := nb n hl; rw [hd] at q; exact q
  obtain ⟨fI, iC, tI, F1⟩ := M.ex
  intro pins s σ H Q I h
  obtain ⟨B, newId, bmB, nm, q, N, bs, bm, sn, sub, ab, col, dd, k0, k1, k2, k3, k5, F, hC, hT, hbm⟩ := M.ec.cls
  refine wpAny_Call_Name_kw (ld_glob I hg hm ?_ hdb)
  refine PySem.W.callWith_K (h₀ := X.base) I.ok.mod.kin M.ec.kC (thn (ha.run pos pins s σ H _ I h) fun us s1 ⟨vs, H1, I1, r1, hz, q1⟩ => ⟨I1.kIn, ?_⟩) he hpl
  show wpAny _ _ (call (.ref C) us) _ _ _
  obtain ⟨hp, g, dr, tk, os⟩ := s1
  have hsz : hp.objs.size ≤ hp.objs.size + 1 := Nat.le_succ _
  have hq := q1 (hp.objs.size + 1) (I1.hok.fresh hsz)
  have kk : ∀ b o, hp.get? b = some o → ((hp.push (PySem.W.kdv_tup us)).push (PySem.HandSPX.excO C hp.objs.size)).get? b = some o := fun b o e => Heap.get?_push_of_some _ (Heap.get?_push_of_some _ e)
  have hget : ((hp.push (PySem.W.kdv_tup us)).push (PySem.HandSPX.excO C hp.objs.size)).get? (hp.objs.size + 1) = some (PySem.HandSPX.excO C hp.objs.size) := by heap_get
  have I2 : Inv X pins σ (upd H1 (hp.objs.size + 1) (exo (hp.objs.size + 1) C none)) ⟨(hp.push (PySem.W.kdv_tup us)).push (PySem.HandSPX.excO C hp.objs.size), g, dr, tk, os⟩ :=
    I1.laid (t' := tk) (a := hp.objs.size + 1) (o := exo (hp.objs.size + 1) C none) (h' := (hp.push (PySem.W.kdv_tup us)).push (PySem.HandSPX.excO C hp.objs.size)) kk hsz (exo_ok hget)
  have r2 : Vals (V.ref (hp.objs.size + 1) :: vs) (Value.ref (hp.objs.size + 1) :: (us ++ [])) := by rw [List.append_nil]; exact .cons rfl r1
  have e1 : (Value.ref (hp.objs.size + 1) :: us).length = n + 1 := congrArg Nat.succ (r1.length.symm.trans hz)
  have hus : us.length ≤ sizeLine := by
    rw [← r1.length, hz, sizeLine_eq]
    omega
  refine wpAny_call (SsE.call_kw F hT (I1.kIn _ _ hC) (PySem.W.looks_findIn I1.kIn iC) (fun self => PySem.W.bind_fn I1.kIn self tI) hus
    (codeAny_mono (F1.run _ X.stack _ _ ⟨Value.ref (hp.objs.size + 1) :: us, []⟩ (Value.ref (hp.objs.size + 1) :: us ++ []) _ _ (fun _ _ _ => False) ((hr.mono hk).make C us []) (I2.env0.make C us []) (hb.to _ _ [] e1 rfl) r2 hq) fun r s' hq' => ?_))
  cases r with
  | error er => exact False.elim hq'
  | ok fl =>
    cases fl with
    | ret u =>
      obtain ⟨v, H2, os2, bare2, un2, hok2, rv, ev, d, fs, ea, ed, hd1, q2⟩ := hq'
      subst ev
      obtain ⟨h2, g2, d2, t2, os'⟩ := s'
      exact ⟨rv, mk_end (raises_own M.ec.exC M.ec.tyC) I1 hsz kk un2 hok2 os2 bare2 ea ed hd1 q2⟩
    | next => exact False.elim hq'
    | brk => exact False.elim hq'
    | cont => exact False.elim hq'
/-- isinstance(e, c), e the error that the suite holds at a: its class cls, its dict d -/
def rIsS (K : PySem.W.Frag) (a : Addr) (cls : Value) (d : Option Addr) : List V → Hp → VK → Prop := fun xs H Q => ∃ (C : Addr) (ini : String) (dd : Addr) (fs : List (Str × V)) (c : V) (cv : Value) (b : Bool), xs = [.ref a, c] ∧ cls = .ref C ∧ d = some dd ∧ H dd = some (.xd fs) ∧ EC K C ini ∧
  ClsV c cv ∧ PySem.W.kitOne K (.ref C) cv = some b ∧ Q (.bl b) H
theorem call_isS {X : Cx} {a : Addr} {oe : Obj} {cls : Value} {d : Option Addr} {pn : List (Addr × Obj)} (hz : Zc cls d oe) (hf : ∃ vs, oe.data = .fields vs) : CallR (X.suite a ((a, oe) :: pn)) (.builtin "isinstance") (rIsS X.K a cls d) := by
  intro pins s σ H xs us Q I r h
  obtain ⟨C, ini, dd, fs, c, cv, b, rfl, rfl, rfl, ed, T, k, e, q⟩ := h
  obtain ⟨u1, u2, rfl, r1, r2⟩ := vals2 r
  have e2 := k.eq r2
  subst e2
  cases (show u1 = Value.ref a from r1)
  obtain ⟨hget, _⟩ := I.pin (a, oe) (List.mem_append.mpr (.inl List.mem_cons_self))
  obtain ⟨vs, hv⟩ := hf
  obtain ⟨mA, hns, hr⟩ := (show ObjOk X.prog X.w H s.heap dd (.xd fs) from I.hok dd _ ed)
  obtain ⟨od, ho, hl⟩ := lookIn_ns hns
  have J : ∃ od, PySem.W.InstAt s.heap a oe C od := ⟨some od, hget, hz.1, by unfold PySem.W.notCls; rw [hv] <;> rfl, by rw [hz.2]; exact ho⟩
  exact PySem.W.kia_one (PySem.W.ssKit T.ga T.gg T.exC T.hdC T.ha T.hn T.ht T.hm) I.kIn J e (fun z => nomatch z) fun tk => ⟨.bl b, H, I.kept (t' := tk) fun _ _ z => z, rfl, q⟩
theorem EC.xf {K : PySem.W.Frag} {C : Addr} {ini : String} (T : EC K C ini) : XfC K C := ⟨T.ga, T.gg, T.exC, T.hdC⟩
/-- behind the making of a raised error with one field: what was tracked stands, the field holds the data -/
theorem emkr_one {K : PySem.W.Frag} {σ : L2.St} {H : Hp} {C : Addr} {f : Str} {i : Nat} {v : V} {d : PyData} {Q : XK} (hi : σ[i]? = some (some v)) (hw : Wth K H v d)
    (k : ∀ (dd : Addr) (fs : List (Str × V)) (v' : V) (H' : Hp), Same H H' → H' dd = some (.xd fs) → fs.lookup f = some v' → Dp K H' v' d → Q (.ref C) (some dd) H') : tEMkR C 1 (spErr K C [f] 1) (tCons (tVar i) tNil) σ H Q := by
  refine ⟨v, hi, rfl, fun a ha => ?_⟩
  have s4 : Same H (upd H a (exo a C none)) := Same.new (Same.refl H) ha
  refine ⟨a, [v], [d], rfl, rfl, upd_same, edat1 (hw.mono s4), fun H2 hP => ⟨rfl, ?_⟩⟩
  obtain ⟨hO, hN, hc⟩ := hP
  rcases hc with ⟨hnil, _⟩ | ⟨dx, vs', h1, h2, h0, hne, _, h3⟩
  · cases hnil
  have h0x : H dx = none := by rw [upd_ne hne] at h0; exact h0
  obtain ⟨_, v', q1, q2⟩ := h3 f d lk1
  refine ⟨dx, vs', h1, h2, h0x, k dx vs' v' _ (fun b o hb => ?_) upd_same q1 ?_⟩
  · have nba := ne_of_none hb ha
    have nbd := ne_of_none hb h0x
    rw [upd_ne nbd, del_ne nba]
    exact hO b o nba (by rw [upd_ne nba]; exact hb)
  · refine Dp.tups (H := H2) (fun b xs hb => ?_) (fun b o xs hb => ?_) 1 d v' hw.tu q2
    · rw [upd_ne (fun z => by rw [z, h2] at hb; cases hb), del_ne (fun z => by rw [z, h1] at hb; cases hb)]
      exact hb
    · rw [upd_ne (fun z => by rw [z, h2] at hb; cases hb), del_ne (fun z => by rw [z, h1] at hb; cases hb)]
      exact hb
end Ss
namespace Ss
open PySem L2 PyProof.Rows
/-- raise C(e), e any expression whose value may stand in an error -/
theorem emkr_oneE {K : PySem.W.Frag} {σ : L2.St} {H : Hp} {C : Addr} {f : Str} {te : TE} {v : V} {d : PyData} {Q : XK} (he : Evl.Ev te σ H v) (hw : Wth K H v d)
    (k : ∀ (dd : Addr) (fs : List (Str × V)) (v' : V) (H' : Hp), Same H H' → H' dd = some (.xd fs) → fs.lookup f = some v' → Dp K H' v' d → Q (.ref C) (some dd) H') : tEMkR C 1 (spErr K C [f] 1) (tCons te tNil) σ H Q := by
  refine he H (Evl.Ex.refl H) _ fun H1 s1 => ?_
  have q := emkr_one (K := K) (σ := [some v]) (i := 0) (C := C) (f := f) (Q := Q) rfl (hw.mono s1) fun dd fs v' H' s h1 h2 h3 => k dd fs v' H' (s1.trans s) h1 h2 h3
  obtain ⟨v2, e2, q⟩ := q
  cases e2
  exact q
/-! ### tokens -/
def sgC (c : Nat) : Bool := decide (33 ≤ c) && decide (c ≤ 126) && decide (c ≠ 37)
def tokOk (z : Str) : Bool := decide (1 ≤ z.length) && decide (z.length ≤ 4) && z.cps.toList.all sgC
theorem sg_iff : ∀ c : Nat, sgC c = true ↔ c ∈ SGN := by
  intro c
  have h1 : ∀ c, c < 200 → (sgC c = decide (c ∈ SGN)) := by decide +kernel
  by_cases h : c < 200
  · rw [h1 c h, decide_eq_true_eq]
  · constructor
    · intro z
      unfold sgC at z
      simp only [Bool.and_eq_true, decide_eq_true_eq] at z
      omega
    · intro z
      have q : ∀ d ∈ SGN, d < 200 := by decide +kernel
      exact absurd (q c z) h
theorem tok_mk {t : List Nat} (h1 : 1 ≤ t.length) (h2 : t.length ≤ 4) (h : ∀ c ∈ t, c ∈ SGN) : tokOk (mkS t) = true := by
  unfold tokOk
  rw [mkS_len, mkS_cps, decide_eq_true h1, decide_eq_true h2]
  exact List.all_eq_true.mpr fun c hc => (sg_iff c).mpr (h c hc)
def spIsTok : Sp := fun vs H Q _ => ∃ z : Str, vs = [.str z] ∧ z.length ≤ 1000000 ∧ ∀ H', Same H H' → Q (.bl (tokOk z)) H'
/-- a sign in its place -/
theorem le1 (a b : Nat) : (!decide ((⟨#[b]⟩ : Str).cps.toList < (⟨#[a]⟩ : Str).cps.toList)) = decide (a ≤ b) := by
  show (!decide ([b] < [a])) = decide (a ≤ b)
  by_cases h : a ≤ b
  · rw [decide_eq_true h, decide_eq_false]; · rfl
    intro z
    rcases List.cons_lt_cons_iff.mp z with q | ⟨_, q⟩
    · omega
    · exact absurd q (by simp)
  · rw [decide_eq_false h, decide_eq_true]; · rfl
    exact List.cons_lt_cons_iff.mpr (.inl (by omega))
theorem ev_chain {r r' : R2} {σ : L2.St} {H : Hp} {ta tb tc : TE} {x y z : V} {a b : Bool} (ha : Evl.Ev ta σ H x) (hb : Evl.Ev tb σ H y) (h1 : Evl.RV r x y H (.bl a)) (hc : a = true → Evl.Ev tc σ H z ∧ Evl.RV r' y z H (.bl b)) : Evl.Ev (tChain r r' ta tb tc) σ H (.bl (a && b)) := fun H1 e Q q =>
  ha H1 e _ fun H2 e2 => hb H2 (e.trans e2) _ fun H3 e3 => h1 H3 ((e.trans e2).trans e3) _ fun H4 e4 => ⟨a, rfl, by
    have e14 := (e2.trans e3).trans e4
    cases a with
    | true =>
      rw [if_pos rfl]
      obtain ⟨h2, h3⟩ := hc rfl
      exact h2 H4 (e.trans e14) _ fun H5 e5 => h3 H5 ((e.trans e14).trans e5) _ fun H6 e6 => q H6 ((e14.trans e5).trans e6)
    | false => exact q H4 e14⟩
theorem rv_leS {H : Hp} {x y : Str} {a b : Nat} (hx : x = ⟨#[a]⟩) (hy : y = ⟨#[b]⟩) : Evl.RV (fun x y H Q => ∃ i j, x = .str i ∧ y = .str j ∧ Q (.bl (!decide (j.cps.toList < i.cps.toList))) H) (.str x) (.str y) H (.bl (decide (a ≤ b))) := fun H1 _ Q q => by
  subst hx; subst hy
  exact ⟨_, _, rfl, rfl, by rw [le1]; exact q H1 (Evl.Ex.refl H1)⟩
/-! ### rules -/
inductive RK | out | twice | swapped | taken
  deriving DecidableEq
def RK.word : RK → Str
  | .out => "out"
  | .twice => "twice"
  | .swapped => "swapped"
  | .taken => "taken"
def RK.many : RK → Nat
  | .out => 1
  | .twice => 1
  | .swapped => 2
  | .taken => 2
def RK.rem : RK → List Str → List Str
  | .out, [a] => [a]
  | .twice, [a] => [a]
  | .swapped, [a, b] => [a, b]
  | .taken, [a, _] => [a]
  | _, _ => []
def RK.ins : RK → List Str → List Str
  | .out, [_] => []
  | .twice, [a] => [a, a]
  | .swapped, [a, b] => [b, a]
  | .taken, [_, b] => [b]
  | _, _ => []
theorem RK.word_inj : ∀ {a b : RK}, a.word = b.word → a = b := by
  intro a b
  cases a <;> cases b <;> first | exact fun _ => rfl | (intro h; exact absurd h (by decide +kernel))
/-- what is wrong with the tokens of a rule -/
def badOf : List Str → Option Str
  | [a] => if tokOk a = true then none else some a
  | [a, b] => if tokOk a = true then (if tokOk b = true then (if a = b then some a else none) else some b) else some a
  | _ => none
/-- a rule of the class at C -/
def RuleAt (H : Hp) (C p : Addr) (k : RK) (toks : List Str) : Prop := ∃ dx t r i, H p = some (.ins C dx [("tokens", .ref t), ("removed", .ref r), ("inserted", .ref i)]) ∧ H t = some (.tup (toks.map V.str)) ∧
  H r = some (.tup ((k.rem toks).map V.str)) ∧ H i = some (.tup ((k.ins toks).map V.str))
theorem RuleAt.mono {H H' : Hp} {C p : Addr} {k : RK} {toks : List Str} (h : RuleAt H C p k toks) (s : Same H H') : RuleAt H' C p k toks := by
  obtain ⟨dx, t, r, i, h1, h2, h3, h4⟩ := h
  exact ⟨dx, t, r, i, s _ _ h1, s _ _ h2, s _ _ h3, s _ _ h4⟩
theorem RuleAt.own {H : Hp} {C p : Addr} {k : RK} {toks : List Str} (h : RuleAt H C p k toks) : Own H p C := let ⟨dx, t, r, i, h1, _⟩ := h; ⟨dx, _, h1⟩
/-- what the classes of rules have -/
structure RCl (K : PySem.W.Frag) (C : Addr) (w : Str) : Prop where
  cl : Cls K C
  t : NoAttr K C "tokens"
  r : NoAttr K C "removed"
  i : NoAttr K C "inserted"
  word : ∃ u, Con K C "word" (.str w) u
  cla : PySem.W.findIn K (.ref C) "__class__" = some (some (.builtin "object.__class__"))
  hn : PySem.W.specialIn K (.builtin "object.__class__") "__get__" = some (some (.builtin "getset_descriptor.__get__"))
  htk : PySem.W.takesIn K (.builtin "object.__class__") = some true
  clm : PySem.W.mroIn K C (.type "object") = some true
/-- a text that may stand in an error -/
def wordOk (z : Str) : Prop := z.length ≤ 100 ∧ ∀ c ∈ z.cps.toList, c < 1000
theorem wth_str {K : PySem.W.Frag} {H : Hp} {z : Str} (h : wordOk z) : Wth K H (.str z) (.str z) := by
  have e := mkS_of z
  refine ⟨.str z, rfl, ?_, .inl ?_⟩
  · show (PyData.canLay0 (.str z) && decide (0 ≤ 64)) = true
    have q : PyData.canLay0 (.str z) = true := by
      show z.cps.all (fun c => decide (c < 0x110000)) = true
      rw [← Array.all_toList]
      exact List.all_eq_true.mpr fun c hc => decide_eq_true (Nat.lt_of_lt_of_le (h.2 c hc) (by decide))
    rw [q]; rfl
  · exact ⟨by have := h.1; omega, fun c hc => Nat.lt_of_lt_of_le (h.2 c hc) (by decide)⟩
/-- the error of a bad token, behind H -/
def Bad (Cb : Addr) (H : Hp) (z : Str) (E : XK) : Prop := ∀ (dd : Addr) (fs : List (Str × V)) (H' : Hp), Same H H' → H' dd = some (.xd fs) → fs.lookup ("worth" : Str) = some (V.str z) → E (.ref Cb) (some dd) H'
theorem Bad.mono {Cb : Addr} {H H' : Hp} {z : Str} {E : XK} (h : Bad Cb H z E) (s : Same H H') : Bad Cb H' z E := fun dd fs H2 s2 e1 e2 => h dd fs H2 (s.trans s2) e1 e2
/-- Rule.__init__(self, *tokens): t the tuple of the tokens -/
def spRI (Cb : Addr) (K : PySem.W.Frag) : Sp := fun vs H Q E => ∃ (p t C dx : Addr) (toks : List Str), vs = [.ref p, .ref t] ∧ H t = some (.tup (toks.map V.str)) ∧ H p = some (.ins C dx []) ∧ Cls K C ∧ NoAttr K C "tokens" ∧ (toks.length = 1 ∨ toks.length = 2) ∧ (∀ z ∈ toks, wordOk z) ∧
  (badOf toks = none → ∀ H', Same H H' → Q .non (upd H' p (.ins C dx [("tokens", .ref t)]))) ∧ (∀ z, badOf toks = some z → Bad Cb H z E)
/-- the promise of an __init__ of a class of rules -/
def spNew (Cb C : Addr) (k : RK) : Sp := fun vs H Q E => ∃ (p dx : Addr) (toks : List Str), vs = .ref p :: toks.map V.str ∧ toks.length = k.many ∧ H p = some (.ins C dx []) ∧ (∀ z ∈ toks, wordOk z) ∧
  (badOf toks = none → ∀ H', Off p H H' → RuleAt H' C p k toks → Q .non H') ∧ (∀ z, badOf toks = some z → Bad Cb H z E)
theorem putF_tok (x : V) : putF "tokens" x [] = ([("tokens", x)] : List (Str × V)) := rfl
theorem putF_rem (x y : V) : putF "removed" y [("tokens", x)] = ([("tokens", x), ("removed", y)] : List (Str × V)) := by
  unfold putF; rw [if_neg (by decide +kernel)]; rfl
theorem putF_ins (x y z : V) : putF "inserted" z [("tokens", x), ("removed", y)] = ([("tokens", x), ("removed", y), ("inserted", z)] : List (Str × V)) := by
  unfold putF; rw [if_neg (by decide +kernel)]; unfold putF; rw [if_neg (by decide +kernel)]; rfl
/-- the two last stores of an __init__ -/
theorem rule_end {H0 H1 : Hp} {C p dx t r i : Addr} {k : RK} {toks : List Str} {fs0 : List (Str × V)} (hp : H0 p = some (.ins C dx fs0)) (s : Off p H0 H1) (ht : H1 t = some (.tup (toks.map V.str))) (hp1 : H1 p = some (.ins C dx [("tokens", .ref t)])) (hr : H1 r = none)
    (hi : upd (upd H1 r (.tup ((k.rem toks).map V.str))) p (.ins C dx [("tokens", .ref t), ("removed", .ref r)]) i = none) :
    Off p H0 (upd (upd (upd (upd H1 r (.tup ((k.rem toks).map V.str))) p (.ins C dx [("tokens", .ref t), ("removed", .ref r)])) i (.tup ((k.ins toks).map V.str))) p (.ins C dx [("tokens", .ref t), ("removed", .ref r), ("inserted", .ref i)])) ∧
    RuleAt (upd (upd (upd (upd H1 r (.tup ((k.rem toks).map V.str))) p (.ins C dx [("tokens", .ref t), ("removed", .ref r)])) i (.tup ((k.ins toks).map V.str))) p (.ins C dx [("tokens", .ref t), ("removed", .ref r), ("inserted", .ref i)])) C p k toks := by
  have nrp : p ≠ r := ne_of_none hp1 hr
  have ntp : t ≠ p := fun e => by rw [e, hp1] at ht; cases ht
  have ntr : t ≠ r := ne_of_none ht hr
  have nip : i ≠ p := fun e => by rw [e, upd_same] at hi; cases hi
  have nir : i ≠ r := fun e => by rw [e, upd_ne nrp.symm, upd_same] at hi; cases hi
  have nit : t ≠ i := fun e => by rw [← e, upd_ne ntp, upd_ne ntr, ht] at hi; cases hi
  refine ⟨fun a o na ha => ?_, dx, t, r, i, upd_same, ?_, ?_, ?_⟩
  · have h1 := s a o na ha
    have nar : a ≠ r := ne_of_none h1 hr
    have nai : a ≠ i := fun e => by rw [← e, upd_ne na, upd_ne nar, h1] at hi; cases hi
    rw [upd_ne na, upd_ne nai, upd_ne na, upd_ne nar]; exact h1
  · rw [upd_ne ntp, upd_ne nit, upd_ne ntp, upd_ne ntr]; exact ht
  · rw [upd_ne nrp.symm, upd_ne nir.symm, upd_ne nrp.symm, upd_same]
  · rw [upd_ne nip, upd_same]
end Ss
namespace Ss
open PySem L2
def topS (i : Nat) : Stmt := PySem.Challenge.pw_silentslips_k46_signs_between_sets.main.body.getD i (.Pass ⟨0, 0, 0, 0⟩)
abbrev sBag : Stmt := topS 23
theorem scBag : FnScope ["script", "at", "cell", "digits"] ["script", "at"] (defScope sBag) := ⟨rfl, rfl, rfl, by decide +kernel, rfl, by decide +kernel, by decide +kernel⟩
abbrev sTake : Stmt := topS 24
theorem scTake : FnScope ["dice", "many", "digit", "mixed"] ["dice", "many"] (defScope sTake) := ⟨rfl, rfl, rfl, by decide +kernel, rfl, by decide +kernel, by decide +kernel⟩
abbrev sOf : Stmt := topS 25
theorem scOf : FnScope ["dice", "some"] ["dice", "some"] (defScope sOf) := ⟨rfl, rfl, rfl, by decide +kernel, rfl, by decide +kernel, by decide +kernel⟩
abbrev sSigns : Stmt := topS 26
theorem scSigns : FnScope ["some"] [] (defScope sSigns) := ⟨rfl, rfl, rfl, by decide +kernel, rfl, by decide +kernel, by decide +kernel⟩
abbrev sToken : Stmt := topS 27
theorem scToken : FnScope ["dice", "taken", "chars", "made", "turn", "base", "sign"] ["dice", "taken"] (defScope sToken) := ⟨rfl, rfl, rfl, by decide +kernel, rfl, by decide +kernel, by decide +kernel⟩

def spBag (K : PySem.W.Frag) : Sp := fun vs H Q _ => ∃ (a : Addr) (ns : List Int) (i : Nat), vs = [.ref a, .int i] ∧ SqL K H a (ns.map V.int) ∧ ns.length ≤ 63 ∧ i ≤ 63 ∧
  ∀ (p : Addr) (H' : Hp), H p = none → Same H H' → Bag H' p 0 → Q (.ref p) H'
def spTake : Sp := fun vs H Q _ => ∃ (b : Addr) (many : Int) (n : Nat), vs = [.ref b, .int many] ∧ Bag H b n ∧ n ≤ 1000000000 ∧ 1 ≤ many ∧ many < 2 ^ 200 ∧
  ∀ (i : Int) (H' : Hp), 0 ≤ i → i < many → Off b H H' → Bag H' b (n + 1) → Q (.int i) H'
/-- one of some: of a list, a tuple, a text -/
def spOf (K : PySem.W.Frag) : Sp := fun vs H Q _ => ∃ (b : Addr) (n : Nat), Bag H b n ∧ n ≤ 1000000000 ∧
  ((∃ (p : Addr) (xs : List V), vs = [.ref b, .ref p] ∧ p ≠ b ∧ SqL K H p xs ∧ 1 ≤ xs.length ∧ xs.length ≤ 1000000 ∧ ∀ (x : V) (H' : Hp), x ∈ xs → Off b H H' → Bag H' b (n + 1) → Q x H') ∨
   (∃ (z : Str), vs = [.ref b, .str z] ∧ 1 ≤ z.length ∧ z.length ≤ 1000000 ∧ ∀ (c : Nat) (H' : Hp), c ∈ z.cps.toList → Off b H H' → Bag H' b (n + 1) → Q (.str ⟨#[c]⟩) H'))
section
variable {P : Program} {w : World} {K : PySem.W.Frag} {mg : Str → Option Value} {base : Heap}
theorem ok_bag (F : DefAt K mg "_law_bag" sBag) (T : G0 mg) : Dk P w K mg base CX0 1 "_law_bag" ["script", "at"] (spBag K) := by
  obtain ⟨f, fd, F, mf⟩ := F.ex
  refine ⟨f, fd, F.ok scBag (fun vs H Q E h => ?_) (fun cdv A outer s H vs Q E hr h => ?_), mf, F.kp, F.binds fun _ _ _ _ _ _ us hl => match us, hl with | [_, _], _ => rfl⟩
  · obtain ⟨a, ns, i, rfl, _⟩ := h
    rfl
  · obtain ⟨a, ns, i, rfl, hS, hl, hi, k⟩ := h
    refine ⟨_, (Evl.pss_cut (ps_set (i := 2) scBag.nd rfl (Or.inl rfl) (pe_ifExp (pt_cmpR op_lt (pv 1) (pe_callB call_len_seq (by rfl) T.len (by decide +kernel) (pa_cons (pv 0) pa_nil)) (nomark _)) (pe_ix ix_list (pv 0) (pv 1) (fun _ _ => rfl)) pe_int)) (Evl.pss_cut (ps_set (i := 3) scBag.nd rfl (Or.inl rfl) (pe_ifExp (pt_cmpR op_ge (pe_callB call_abs (by rfl) T.abs (by decide +kernel) (pa_cons (pv 2) pa_nil)) (pe_op op_pow pe_int pe_int) (nomark _)) (pe_callB call_abs (by rfl) T.abs (by decide +kernel) (pa_cons (pv 2) pa_nil)) pe_int)) (pss_one (ps_ret (pe_lst (pa_cons (pv 3) (pa_cons (pe_op op_add (pe_op op_add (pe_op op_mul (pe_op op_mod (pe_callTy call_int1 (by rfl) T.int (by decide +kernel) (pa_cons (pv 2) pa_nil)) pe_int) pe_int) (pe_op op_mul pe_int (pv 1))) pe_int) (pa_cons pe_int pa_nil)))))))), ?_⟩
    refine ⟨fun σ' H' => H' = H ∧ ∃ cell : Int, σ' = [some (.ref a), some (.int i), some (.int cell), none], ?_, ?_⟩
    · refine ⟨_, rfl, _, rfl, a, _, rfl, .inl hS, _, _, rfl, rfl, _, rfl, ?_⟩
      refine ite2 (fun c => ?_) (fun c => ?_)
      · have c' : i < ns.length := by
          have q := of_decide_eq_true c
          rw [List.length_map] at q
          omega
        exact ⟨_, rfl, _, rfl, a, _, i, _, rfl, rfl, hS, atI_nat (by rw [List.getElem?_map, List.getElem?_eq_getElem c']; rfl), rfl, _, rfl⟩
      · exact ⟨rfl, 0, rfl⟩
    rintro _ H2 ⟨rfl, cell, rfl⟩
    refine ⟨fun σ' H1 => H1 = H2 ∧ ∃ d : Int, 0 ≤ d ∧ σ' = [some (.ref a), some (.int i), some (.int cell), some (.int d)], ?_, ?_⟩
    · refine ⟨_, rfl, _, rfl, _, _, rfl, rfl, ⟨by decide, by decide, by decide⟩, _, _, rfl, rfl, _, rfl, ?_⟩
      refine ite2 (fun c => ?_) (fun c => ?_)
      · refine ⟨_, rfl, _, rfl, rfl, _, ?_, rfl⟩
        split <;> omega
      · exact ⟨rfl, 0, Int.le_refl _, rfl⟩
    rintro _ _ ⟨rfl, d, hd, rfl⟩
    refine ⟨_, rfl, _, rfl, .inl ⟨_, rfl, _, _, rfl, rfl, (by show (0 : Int) < 2305843009213693951; decide), _, _, rfl, rfl, .inr ⟨by decide, by decide⟩, _, rfl, _, _, rfl, rfl, .inl ⟨by decide, by decide⟩, _, _, rfl, rfl, _, _, rfl, rfl, ?_⟩⟩
    refine ⟨by show 3 ≤ sizeLine; decide, fun p hp => ?_⟩
    have h1 := Int.emod_nonneg cell (show (2305843009213693951 : Int) ≠ 0 by decide)
    have h2 := Int.emod_lt_of_pos cell (show (0 : Int) < 2305843009213693951 by decide)
    refine k p _ hp (fun b o e => ?_) ⟨d, _, 0, upd_same, hd, ?_, ?_, Int.le_refl _, Int.le_refl _⟩
    · rw [upd_ne (ne_of_none e hp)]; exact e
    · omega
    · show _ < (11529215047000000000 : Int)
      omega
theorem ok_take (F : DefAt K mg "_law_take" sTake) (T : G0 mg) : Dk P w K mg base CX0 1 "_law_take" ["dice", "many"] spTake := by
  obtain ⟨f, fd, F, mf⟩ := F.ex
  refine ⟨f, fd, F.ok scTake (fun vs H Q E h => ?_) (fun cdv A outer s H vs Q E hr h => ?_), mf, F.kp, F.binds fun _ _ _ _ _ _ us hl => match us, hl with | [_, _], _ => rfl⟩
  · obtain ⟨b, many, n, rfl, _⟩ := h
    rfl
  · obtain ⟨b, many, n, rfl, ⟨d, m, c, hb, hd, hm, hM, hc, hn⟩, hn9, h1, h2, k⟩ := h
    have hM : m < (11529215047000000000 : Int) := hM
    have hW : CDivW d many := wide_div (b := 200) (by omega) (by omega) (by decide) (by decide)
    refine ⟨_, (pss_cons (ps_if (pt_cmpR op_gt (pe_ix ix_list (pv 0) pe_int (fun _ _ => rfl)) pe_int (nomark _)) (pss_cons (ps_set (i := 2) scTake.nd rfl (Or.inl rfl) (pe_op op_mod (pe_callTy call_int1 (by rfl) T.int (by decide +kernel) (pa_cons (pe_ix ix_list (pv 0) pe_int (fun _ _ => rfl)) pa_nil)) (pv 1))) (pss_cons (ps_asg (pe_op op_fdivW (pe_ix ix_list (pv 0) pe_int (fun _ _ => rfl)) (pv 1)) (pg_sub (pv 0) pe_int set_list)) (pss_one (ps_ret (pv 2))))) pss_nil) (pss_cons (ps_asg (pe_op op_add (pe_ix ix_list (pv 0) pe_int (fun _ _ => rfl)) pe_int) (pg_sub (pv 0) pe_int set_list)) (pss_cons (ps_set (i := 3) scTake.nd rfl (Or.inl rfl) (pe_op op_mod (pe_callTy call_int1 (by rfl) T.int (by decide +kernel) (pa_cons (pe_op op_pow (pe_op op_add (pe_ix ix_list (pv 0) pe_int (fun _ _ => rfl)) (pe_op op_mul pe_int (pe_ix ix_list (pv 0) pe_int (fun _ _ => rfl)))) pe_int) pa_nil)) pe_int)) (pss_cons (ps_set (i := 3) scTake.nd rfl (Or.inl rfl) (pe_op op_mod (pe_callTy call_int1 (by rfl) T.int (by decide +kernel) (pa_cons (pe_op op_pow (pe_op op_add (pv 3) (pe_op op_mul pe_int (pe_ix ix_list (pv 0) pe_int (fun _ _ => rfl)))) pe_int) pa_nil)) pe_int)) (pss_one (ps_ret (pe_op op_mod (pe_callTy call_int1 (by rfl) T.int (by decide +kernel) (pa_cons (pe_op op_fdivW (pv 3) pe_int) pa_nil)) (pv 1)))))))), ?_⟩
    refine ⟨_, rfl, b, _, 0, _, rfl, rfl, SqL.of hb, rfl, _, _, rfl, rfl, _, rfl, ?_⟩
    refine ite2 (fun c0 => ?_) (fun c0 => ?_)
    · refine ⟨_, rfl, b, _, 0, _, rfl, rfl, SqL.of hb, rfl, .inl ⟨_, rfl, _, rfl, _, _, rfl, rfl, (by show (0 : Int) < many; omega), ?_⟩⟩
      refine ⟨_, rfl, b, _, 0, _, rfl, rfl, SqL.of hb, rfl, _, rfl, _, _, rfl, rfl, hW, _, rfl, b, _, _, 0, rfl, rfl, hb, rfl, ?_⟩
      refine ⟨_, rfl, k _ _ (Int.emod_nonneg _ (by omega)) (Int.emod_lt_of_pos _ (by omega)) (Off.upd (Off.refl b H)) ⟨_, m, c, upd_same, ?_, hm, hM, hc, by omega⟩⟩
      exact Int.ediv_nonneg hd (by omega)
    · have x1 := Int.emod_nonneg ((m + 1000081 * (c + 1)) ^ 3) (show (2305843009213693921 : Int) ≠ 0 by decide)
      have x2 := Int.emod_lt_of_pos ((m + 1000081 * (c + 1)) ^ 3) (show (0 : Int) < 2305843009213693921 by decide)
      have e64 : (2 : Nat) ^ 64 = 18446744073709551616 := by decide
      refine ⟨_, rfl, b, _, 2, _, rfl, rfl, SqL.of hb, rfl, _, _, rfl, rfl, _, rfl, b, _, _, 2, rfl, rfl, hb, rfl, ?_⟩
      have hb2 := upd_same (H := H) (a := b) (o := .lst [.int d, .int m, .int (c + 1)])
      refine ⟨_, rfl, b, _, 1, _, rfl, rfl, SqL.of hb2, rfl, _, rfl, b, _, 2, _, rfl, rfl, SqL.of hb2, rfl, _, _, rfl, rfl, .inl ⟨by decide, by decide⟩, _, _, rfl, rfl, ?_⟩
      refine ⟨_, _, rfl, rfl, ⟨by decide, by decide, ?_⟩, .inl ⟨_, rfl, _, _, rfl, rfl, (by show (0 : Int) < 2305843009213693921; decide), ?_⟩⟩
      · rw [e64]; omega
      refine ⟨_, rfl, _, rfl, b, _, 2, _, rfl, rfl, SqL.of hb2, rfl, _, _, rfl, rfl, .inl ⟨by decide, by decide⟩, _, _, rfl, rfl, ?_⟩
      refine ⟨_, _, rfl, rfl, ⟨by decide, by decide, ?_⟩, .inl ⟨_, rfl, _, _, rfl, rfl, (by show (0 : Int) < 2305843009213693951; decide), ?_⟩⟩
      · rw [e64]
        show Int.natAbs ((m + 1000081 * (c + 1)) ^ 3 % 2305843009213693921 + 32452867 * (c + 1)) < _
        omega
      refine ⟨_, rfl, _, _, rfl, rfl, ⟨by decide, by decide⟩, .inl ⟨_, rfl, _, rfl, _, _, rfl, rfl, (by show (0 : Int) < many; omega), ?_⟩⟩
      refine k _ _ (Int.emod_nonneg _ (by omega)) (Int.emod_lt_of_pos _ (by omega)) (Off.upd (Off.refl b H)) ⟨d, m, c + 1, upd_same, hd, hm, hM, by omega, by omega⟩
theorem ok_of (F : DefAt K mg "_law_of" sOf) (T : G0 mg) (D_law_take : Dk P w K mg base CX0 1 "_law_take" ["dice", "many"] spTake) : Dk P w K mg base CX0 2 "_law_of" ["dice", "some"] (spOf K) := by
  obtain ⟨f, fd, F, mf⟩ := F.ex
  refine ⟨f, fd, F.ok scOf (fun vs H Q E h => ?_) (fun cdv A outer s H vs Q E hr h => ?_), mf, F.kp, F.binds fun _ _ _ _ _ _ us hl => match us, hl with | [_, _], _ => rfl⟩
  · obtain ⟨b, n, _, _, ⟨p, xs, rfl, _⟩ | ⟨z, rfl, _⟩⟩ := h <;> rfl
  · refine ⟨_, (pss_one (ps_ret (pe_ix ix_seq (pv 1) (pe_cd D_law_take hr pass0 (pa_cons (pv 0) (pa_cons (pe_callB call_len (by rfl) T.len (by decide +kernel) (pa_cons (pv 1) pa_nil)) pa_nil))) (fun _ _ => rfl)))), ?_⟩
    have e200 : (1000000 : Int) < 2 ^ 200 := by decide
    obtain ⟨b, n, hB, hn, ⟨p, xs, rfl, hpb, hS, h1, h2, k⟩ | ⟨z, rfl, h1, h2, k⟩⟩ := h
    · refine ⟨_, rfl, _, rfl, _, rfl, .ref p, xs.length, rfl, .inl ⟨xs, hS, rfl⟩, ?_⟩
      refine ⟨b, _, n, rfl, hB, hn, by omega, by omega, fun i H' i0 i1 hO hB' => ?_⟩
      have hi : i.toNat < xs.length := by omega
      exact .inl ⟨p, xs, i, xs[i.toNat], rfl, rfl, hO.seq hpb hS, atI_int i0 hi, k _ _ (List.getElem_mem hi) hO hB'⟩
    · have hz : z.cps.toList.length = z.length := by rw [Array.length_toList]; rfl
      refine ⟨_, rfl, _, rfl, _, rfl, .str z, z.length, rfl, ?_, ?_⟩
      · exact ⟨Nat.le_trans h2 (by decide), rfl⟩
      refine ⟨b, _, n, rfl, hB, hn, by omega, by omega, fun i H' i0 i1 hO hB' => ?_⟩
      have hi : i.toNat < z.cps.toList.length := by omega
      exact .inr (.inr ⟨z, i, z.cps.toList[i.toNat], rfl, rfl, Nat.le_trans h2 (by decide), atI_int i0 hi, k _ _ (List.getElem_mem hi) hO hB'⟩)
def spSigns : Sp := fun vs H Q _ => vs = [] ∧ Q (.str (mkS SGN)) H
theorem ok_signs (F : DefAt K mg "_law_signs" sSigns) : Dk P w K mg base CX0 1 "_law_signs" [] spSigns := by
  obtain ⟨f, fd, F, mf⟩ := F.ex
  refine ⟨f, fd, F.ok scSigns (fun vs H Q E h => ?_) (fun cdv A outer s H vs Q E hr h => ?_), mf, F.kp, F.binds fun _ _ _ _ _ _ us hl => match us, hl with | [], _ => rfl⟩
  · obtain ⟨rfl, _⟩ := h; rfl
  · obtain ⟨rfl, k⟩ := h
    refine ⟨_, (pss_cons (ps_set (i := 0) scSigns.nd rfl (Or.inl rfl) pe_str) (pss_one (ps_ret (pe_op op_add_str (pv 0) pe_str)))), ?_⟩
    refine ⟨_, rfl, _, _, rfl, rfl, (by decide +kernel), ?_⟩
    refine cast (congrArg (fun z => Q (.str z) H) ?_) k
    decide +kernel
/-- a text t of the letters L, of 1 to m letters, that is not among xs -/
def spWord (K : PySem.W.Frag) (L : List Nat) (m : Nat) : Sp := fun vs H Q _ => ∃ (b p : Addr) (n : Nat) (xs : List Str), vs = [.ref b, .ref p] ∧ Bag H b n ∧ n ≤ 900000000 ∧ p ≠ b ∧ SqL K H p (xs.map V.str) ∧ xs.length < L.length ∧
  ∀ (t : List Nat) (H' : Hp), 1 ≤ t.length → t.length ≤ m → (∀ c ∈ t, c ∈ L) → mkS t ∉ xs → Off b H H' → Bag H' b (n + 1 + m) → Q (.str (mkS t)) H'
theorem ok_token (F : DefAt K mg "_law_token" sToken) (T : G0 mg) (D_law_of : Dk P w K mg base CX0 2 "_law_of" ["dice", "some"] (spOf K)) (D_law_signs : Dk P w K mg base CX0 1 "_law_signs" [] spSigns) :
    Dk P w K mg base CX0 3 "_law_token" ["dice", "taken"] (spWord K SGN 4) := by
  obtain ⟨f, fd, F, mf⟩ := F.ex
  refine ⟨f, fd, F.ok scToken (fun vs H Q E h => ?_) (fun cdv A outer s H vs Q E hr h => ?_), mf, F.kp, F.binds fun _ _ _ _ _ _ us hl => match us, hl with | [_, _], _ => rfl⟩
  · obtain ⟨b, p, n, xs, rfl, _⟩ := h; rfl
  · obtain ⟨b, p, n, xs, rfl, hB, hn, hpb, hS, hl, k⟩ := h
    refine ⟨_, (pss_cons (ps_par (by rfl) scToken.nd rfl rfl (by decide) rfl rfl (pa_cons (pe_cd0 D_law_signs hr pass0) (pa_cons pe_str pa_nil)) (by rfl) (i := 2) (j := 3)) (pss_cons (ps_for PassesOwn.never rfl (pi_range1 (by rfl) T.range (pa_cons (pe_cd D_law_of hr pass0 (pa_cons (pv 0) (pa_cons (pe_lst (pa_cons pe_int (pa_cons pe_int (pa_cons pe_int (pa_cons pe_int (pa_cons pe_int (pa_cons pe_int pa_nil))))))) pa_nil))) pa_nil)) (pg_name (i := 4) scToken.nd rfl (.inl rfl)) (pss_one (ps_set (i := 3) scToken.nd rfl (Or.inl rfl) (pe_op op_add_str (pv 3) (pe_cd D_law_of hr pass0 (pa_cons (pv 0) (pa_cons (pv 2) pa_nil))))))) (pss_cons (ps_set (i := 5) scToken.nd rfl (Or.inl rfl) (pe_slice sl_str (pv 3) po_none (po_some pe_int))) (pss_cons (ps_for PassesOwn.never rfl (pi_str (pv 2)) (pg_name (i := 6) scToken.nd rfl (.inl rfl)) (pss_one (ps_if (pt_cmpR op_in_seq (pv 3) (pv 1) (by rfl)) (pss_one (ps_set (i := 3) scToken.nd rfl (Or.inl rfl) (pe_op op_add_str (pv 5) (pv 6)))) pss_nil))) (pss_one (ps_ret (pv 3))))))), ?_⟩
    refine ⟨rfl, _, _, rfl, ?_⟩
    refine ⟨_, rfl, by show 6 ≤ sizeLine; decide, fun q hq => ?_⟩
    refine ⟨b, n, hB.new hq, by omega, .inl ⟨q, _, rfl, (hB.ne hq).symm, SqL.of upd_same, by show 1 ≤ 6; decide, by show 6 ≤ 1000000; decide, fun x H1 hx hO hB1 => ?_⟩⟩
    obtain ⟨j, hj1, hj4, rfl⟩ : ∃ j : Nat, 1 ≤ j ∧ j ≤ 4 ∧ x = .int j := by
      simp only [List.mem_cons, List.not_mem_nil, or_false] at hx
      rcases hx with rfl | rfl | rfl | rfl | rfl | rfl
      · exact ⟨1, by decide, by decide, rfl⟩
      · exact ⟨1, by decide, by decide, rfl⟩
      · exact ⟨1, by decide, by decide, rfl⟩
      · exact ⟨2, by decide, by decide, rfl⟩
      · exact ⟨3, by decide, by decide, rfl⟩
      · exact ⟨4, by decide, by decide, rfl⟩
    have O1 : Off b H H1 := ((Off.refl b H).new hq).trans hO
    refine ⟨j, rfl, by omega, by omega, ?_⟩
    rw [Int.toNat_natCast]
    refine for_range (lo := 0) (n := j) (fun i σ H' => ∃ (m : List Nat) (v : Option V), σ = [some (.ref b), some (.ref p), some (.str (mkS SGN)), some (.str (mkS m)), v, none, none] ∧ m.length = i ∧ (∀ c ∈ m, c ∈ SGN) ∧ Off b H H' ∧ Bag H' b (n + 1 + i))
      ⟨[], none, by rw [← mkS_nil]; rfl, rfl, (fun _ h => by cases h), O1, hB1⟩ ?_ ?_
    · rintro i σ H' hi ⟨m, v, rfl, hm, hc, hO', hB'⟩
      refine ⟨_, rfl, _, rfl, _, rfl, b, n + 1 + i, hB', by omega, .inr ⟨mkS SGN, rfl, by decide +kernel, by decide +kernel, fun c H2 hcs hO2 hB2 => ?_⟩⟩
      rw [mkS_cps] at hcs
      refine ⟨_, _, rfl, rfl, ?_, ?_⟩
      · rw [mkS_len]; exact Nat.le_trans (show _ ≤ 10 by rw [hm]; show i + 1 ≤ 10; omega) (by decide)
      · refine ⟨m ++ [c], some (.int (0 + i)), ?_, by rw [List.length_append, hm]; rfl, fun d hd => ?_, hO'.trans hO2, hB2⟩
        · rw [mkS_one, mkS_app]; rfl
        · rcases List.mem_append.mp hd with hd | hd
          · exact hc d hd
          · rw [List.mem_singleton.mp hd]; exact hcs
    · rintro σ H' ⟨m, v, rfl, hm, hc, hO', hB'⟩
      refine ⟨_, rfl, 3, rfl, _, rfl, ?_, ?_⟩
      · rw [mkS_len]; exact Nat.le_trans (show _ ≤ 10 by omega) (by decide)
      rw [show cutS (mkS m) none (some (3 : Int)) = mkS (m.take 3) from cut_to m 3]
      refine ⟨_, rfl, _, rfl, for_it walk_str (fun i σ H2 => H2 = H' ∧ ∃ u : Option V, σ = [some (.ref b), some (.ref p), some (.str (mkS SGN)), some (.str (mkS ((SGN.take i).foldl (more1 xs (m.take 3)) m))), v, some (.str (mkS (m.take 3))), u])
        ⟨rfl, none, rfl⟩ (fun _ _ _ _ _ => trivial) ?_ ?_⟩
      · rintro i x σ H2 H3 hi ⟨rfl, u, rfl⟩ ⟨rfl, c, hc', rfl⟩
        have hs : SGN[i]? = some c := by
          have q : (mkS SGN).cps.toList[i]? = some c := by rw [Array.getElem?_toList]; exact hc'
          rw [mkS_cps] at q
          exact q
        refine ⟨_, rfl, _, rfl, p, _, rfl, .inl (hO'.seq hpb hS), rfl, flat_strs xs, _, rfl, ?_⟩
        show if inV (.str _) (xs.map V.str) = true then _ else _
        rw [inV_str]
        have et : SGN.take (i + 1) = SGN.take i ++ [c] := by
          rw [List.take_add_one, hs]; rfl
        have ef : (SGN.take (i + 1)).foldl (more1 xs (m.take 3)) m = more1 xs (m.take 3) ((SGN.take i).foldl (more1 xs (m.take 3)) m) c := by
          rw [et, List.foldl_append]; rfl
        refine ite2 (fun q => ?_) (fun q => ?_)
        · refine ⟨_, rfl, _, rfl, _, _, rfl, rfl, ?_, rfl, some (.str ⟨#[c]⟩), ?_⟩
          · rw [mkS_len]; exact Nat.le_trans (show _ ≤ 10 by rw [List.length_take]; show _ + 1 ≤ 10; omega) (by decide)
          · rw [ef, more_yes (of_decide_eq_true q), mkS_one, mkS_app]
            rfl
        · refine ⟨rfl, some (.str ⟨#[c]⟩), ?_⟩
          rw [ef, more_no (fun z => q (decide_eq_true z))]
          rfl
      · rintro σ H2 ⟨rfl, u, rfl⟩
        have es : (mkS SGN).cps.size = SGN.length := by rw [← Array.length_toList, mkS_cps]
        rw [es, List.take_length]
        refine ⟨_, rfl, ?_⟩
        have sh : ∀ c, c ∈ SGN → (fun t : List Nat => 1 ≤ t.length ∧ t.length ≤ 4 ∧ ∀ d ∈ t, d ∈ SGN) (m.take 3 ++ [c]) := fun c hcs => by
          refine ⟨by rw [List.length_append]; exact Nat.le_add_left _ _, ?_, fun d hd => ?_⟩
          · rw [List.length_append, List.length_take]; show min 3 m.length + 1 ≤ 4; omega
          · rcases List.mem_append.mp hd with hd | hd
            · exact hc d (List.mem_of_mem_take hd)
            · rw [List.mem_singleton.mp hd]; exact hcs
        obtain ⟨s1, s2, s3⟩ := more_shape (xs := xs) (bs := m.take 3) (cs := SGN) (S := fun t : List Nat => 1 ≤ t.length ∧ t.length ≤ 4 ∧ ∀ d ∈ t, d ∈ SGN) sh (m := m) ⟨by omega, by omega, hc⟩
        exact k _ _ s1 s2 s3 (more_new sgn_nd hl) hO' (hB'.mono (by omega))
abbrev sKept : Stmt := topS 2
theorem scKept : FnScope ["value", "part"] ["value"] (defScope sKept) := ⟨rfl, rfl, rfl, by decide +kernel, rfl, by decide +kernel, by decide +kernel⟩

theorem ok_kept (F : DefAt K mg "kept" sKept) (T : G0 mg) : ∀ n : Nat, Dk P w K mg base CX0 (n + 1) "kept" ["value"] (spKept K n) := by
  obtain ⟨f, fd, F0, mf⟩ := F.ex
  have bb : ∀ f fd, Fun K "kept" "kept" sKept f fd → Binds K fd ["value"] [] := fun f fd F => F.binds fun _ _ _ _ _ _ us hl => match us, hl with | [_], _ => rfl
  -- the flat ones, any promise of the inner calls
  have step : ∀ (n k : Nat) (sp : Sp), Dk P w K mg base CX0 k "kept" ["value"] sp → (∀ m, n = m + 1 → sp = spKept K m) → Dk P w K mg base CX0 (k + 1) "kept" ["value"] (spKept K n) := by
    intro n k sp Dk0 hsp
    refine ⟨f, fd, F0.ok scKept (fun vs H Q E h => ?_) (fun cdv A outer s H vs Q E hr h => ?_), mf, F0.kp, bb f fd F0⟩
    · obtain ⟨v, d, rfl, _⟩ := h
      rfl
    · obtain ⟨v, d, rfl, hd, ht, kk⟩ := h
      have hr : Room k _ := hr
      have hkk : k ≤ k := Nat.le_refl k
      refine ⟨_, (pss_cons (ps_if (pt_val (pe_callB call_isi (by rfl) T.isinstance (by decide +kernel) (pa_cons (pv 0) (pa_cons (pe_bltn (v := .ty "list") (u := .type "list") (by rfl) T.list (by decide +kernel) rfl) pa_nil)))) (pss_one (ps_ret (pe_lc (own := [("part", 1)]) (g := gName 1) rfl scKept.nd (pi_list (pv 0)) (blkOk_by (N := ["value", "part"]) (sc := defScope sKept) (by decide +kernel)) (fun _ _ _ _ _ => (pg_name (i := 1) scKept.nd rfl (.inl rfl))) (fun _ _ _ _ _ => pts_nil) (fun _ _ _ _ _ => (pe_cd Dk0 hr pass0 (pa_cons (pv 1) pa_nil) (hk := Nat.le_refl _)))))) pss_nil) (pss_cons (ps_if (pt_val (pe_callB call_isi (by rfl) T.isinstance (by decide +kernel) (pa_cons (pv 0) (pa_cons (pe_bltn (v := .ty "tuple") (u := .type "tuple") (by rfl) T.tuple (by decide +kernel) rfl) pa_nil)))) (pss_one (ps_ret (pe_callTy call_tuple_of (by rfl) T.tuple (by decide +kernel) (pa_cons (pe_lc (own := [("part", 1)]) (g := gName 1) rfl scKept.nd (pi_tup (pv 0)) (blkOk_by (N := ["value", "part"]) (sc := defScope sKept) (by decide +kernel)) (fun _ _ _ _ _ => (pg_name (i := 1) scKept.nd rfl (.inl rfl))) (fun _ _ _ _ _ => pts_nil) (fun _ _ _ _ _ => (pe_cd Dk0 hr pass0 (pa_cons (pv 1) pa_nil) (hk := Nat.le_refl _)))) pa_nil)))) pss_nil) (pss_one (ps_ret (pv 0))))), ?_⟩
      have ty := dp_ty hd (fun ds e => by subst e; cases n <;> exact Bool.noConfusion ht)
      cases d with
      | none => exact ⟨_, rfl, _, .ty "list", _, _, false, rfl, .ty _, ty, kit_ty (show kitB "NoneType" "list" = some false by decide +kernel), false, rfl, iteF ⟨_, rfl, _, .ty "tuple", _, _, false, rfl, .ty _, ty, kit_ty (show kitB "NoneType" "tuple" = some false by decide +kernel), false, rfl, iteF ⟨_, rfl, kk _ H (Same.refl H) hd⟩⟩⟩
      | bool b => exact ⟨_, rfl, _, .ty "list", _, _, false, rfl, .ty _, ty, kit_ty (show kitB "bool" "list" = some false by decide +kernel), false, rfl, iteF ⟨_, rfl, _, .ty "tuple", _, _, false, rfl, .ty _, ty, kit_ty (show kitB "bool" "tuple" = some false by decide +kernel), false, rfl, iteF ⟨_, rfl, kk _ H (Same.refl H) hd⟩⟩⟩
      | int i => exact ⟨_, rfl, _, .ty "list", _, _, false, rfl, .ty _, ty, kit_ty (show kitB "int" "list" = some false by decide +kernel), false, rfl, iteF ⟨_, rfl, _, .ty "tuple", _, _, false, rfl, .ty _, ty, kit_ty (show kitB "int" "tuple" = some false by decide +kernel), false, rfl, iteF ⟨_, rfl, kk _ H (Same.refl H) hd⟩⟩⟩
      | str x => exact ⟨_, rfl, _, .ty "list", _, _, false, rfl, .ty _, ty, kit_ty (show kitB "str" "list" = some false by decide +kernel), false, rfl, iteF ⟨_, rfl, _, .ty "tuple", _, _, false, rfl, .ty _, ty, kit_ty (show kitB "str" "tuple" = some false by decide +kernel), false, rfl, iteF ⟨_, rfl, kk _ H (Same.refl H) hd⟩⟩⟩
      | list ds => cases n <;> exact Bool.noConfusion ht
      | dict kvs => cases n <;> exact Bool.noConfusion ht
      | tuple ds =>
        cases n with
        | zero => exact Bool.noConfusion ht
        | succ m =>
        obtain rfl := hsp m rfl
        obtain ⟨hlen, hall⟩ := tupD_all ht
        cases hd with
        | @tup a xs ds hs ha =>
          have hxl := DpAll.len ha
          refine ⟨_, rfl, _, .ty "list", _, _, false, rfl, .ty _, ty, kit_ty (show kitB "tuple" "list" = some false by decide +kernel), false, rfl, iteF ?_⟩
          refine ⟨_, rfl, _, .ty "tuple", _, _, true, rfl, .ty _, ty, kit_ty (show kitB "tuple" "tuple" = some true by decide +kernel), true, rfl, iteT ?_⟩
          refine ⟨_, rfl, a, rfl, ⟨_, hs⟩, fun D hD => lc_tup (xs := xs) (fun i H' => ∃ ys, H' D = some (.lst ys) ∧ ys.length = i ∧ DpAll K H' ys (ds.take i) ∧ Same H H') ⟨[], upd_same, rfl, .nil, Same.new (Same.refl H) hD⟩ (fun i H' _ ⟨_, _, _, _, s⟩ => Evl.ex_t s hs) ?_ ?_⟩
          · rintro i x H' hi ⟨ys, hD', hyl, hys, s⟩
            obtain ⟨d, hdi, hdx⟩ := DpAll.get ha hi
            have hmem : d ∈ ds := List.mem_of_getElem? hdi
            have hi2 : i < ds.length := (List.getElem?_eq_some_iff.mp hdi).1
            refine ⟨rfl, x, rfl, x, d, rfl, Dp.mono s hdx, hall d hmem, fun v' H2 s2 hv' => ⟨ys, s2 _ _ hD', ?_, ys ++ [v'], upd_same, ?_, ?_, fun b o hb => ?_⟩⟩
            · rw [hyl]; exact Nat.lt_of_lt_of_le (show i < 1000 by omega) (by decide)
            · rw [List.length_append, hyl]; rfl
            · have et : ds.take (i + 1) = ds.take i ++ [d] := by rw [List.take_add_one, hdi]; rfl
              rw [et]
              have o2 : Off D H2 (upd H2 D (.lst (ys ++ [v']))) := (Off.refl D H2).upd
              have n2 : NotTup (H2 D) := by rw [s2 _ _ hD']; exact trivial
              exact DpAll.snoc (DpAll.off (n := m) o2 n2 (fun d hd => hall d (List.mem_of_mem_take hd)) (DpAll.mono s2 hys)) (Dp.off o2 n2 m _ _ (hall d hmem) hv')
            · rw [upd_ne (ne_of_none hb hD)]
              exact s2 _ _ (s _ _ hb)
          · rintro H' ⟨ys, hD', hyl, hys, s⟩
            rw [hxl, List.take_length] at hys
            refine ⟨D, ys, rfl, .inl ⟨SqL.of hD', fun p hp => kk _ _ (Same.new s hp) ?_⟩⟩
            exact .tup (.inl (.inl upd_same)) (DpAll.mono (Same.new (Same.refl H') hp) hys)
  intro n
  induction n with
  | zero => exact step 0 0 _ (Dk.never F bb) (fun m e => by cases e)
  | succ n ih => exact step (n + 1) (n + 1) _ ih (fun m e => by cases e; rfl)
abbrev sBadRule : Stmt := inClass (topS 4) 0
theorem scBadRule : FnScope ["self", "worth"] ["self", "worth"] (defScope sBadRule) := ⟨rfl, rfl, rfl, by decide +kernel, rfl, by decide +kernel, by decide +kernel⟩
theorem ok_BadRule {C S : Addr} (D : EAtop K mg "BadRule" "BadRule.__init__" C "ValueError.__init__" ["worth"] sBadRule) (B : SlipB K mg S) (Dkept : Dk P w K mg base CX0 2 "kept" ["value"] (spKept K 1)) : EDef P w K mg base 3 "BadRule" C "ValueError.__init__" ["self", "worth"] (spErr K C ["worth"] 1) := by
  obtain ⟨T, hm, ⟨f, fd, iC, tI, F⟩, hno⟩ := D
  refine ⟨fd, ⟨T, f, iC, tI, F.ok scBadRule (fun vs H Q E h => ?_) (fun cdv A outer s H vs Q E hr h => ?_)⟩, hm, fun n hn => ⟨fun s us ws h1 h2 => ?_⟩⟩
  · obtain ⟨a, xs, ds, rfl, hl, _⟩ := h
    rw [List.length_cons, hl]
    all_goals rfl
  · obtain ⟨a, xs, ds, rfl, hl, ha, ⟨hL, hD⟩, k⟩ := h
    obtain ⟨x1, rfl⟩ := one_of hl
    obtain ⟨d1, rfl⟩ := one_of (hL.symm.trans hl)
    obtain ⟨e1, q1, hd1, ht1, sh1⟩ := hD 0 x1 rfl
    cases q1
    refine ⟨_, (pss_cons (ps_expr (pe_einitO rfl B.gS B.rd B.ga B.vV (by decide +kernel) (pa_cons (pv 0) (pa_cons (pe_joined (PJ.cons pe_str (PJ.cons (pe_fmtX hr (pv 1)) PJ.nil))) pa_nil)))) (pss_one (ps_est "ValueError.__init__" (pv 0) (pe_cd Dkept hr pass0 (pa_cons (pv 1) pa_nil))))), ?_⟩
    refine ⟨_, rfl, parts_run (K := K) (n := 0) (fun t ht => ?_) (Nat.zero_le _) (by show 0 + 2 ≤ 12; decide) fun z => ⟨a, C, [.str z], rfl, by show 1 ≤ 1000; decide, T, ha, ?_⟩⟩
    · simp only [List.mem_cons, List.not_mem_nil, or_false] at ht
      rcases ht with rfl | rfl
      · exact part_c (by decide +kernel)
      · exact part_v rfl sh1
    refine est_turn T (hno "worth" (by simp)) rfl rfl (part0 ha) hd1 ht1 (by show 0 ≤ 900; decide) fun H1 hp1 => ?_
    exact k _ hp1
  · obtain ⟨oc, od, kV, doc, pm, an, cdv, ct, osl, rfl, lk, hcd⟩ := F.ex
    match n, hn, us, ws, h1, h2 with
    | 0, _, [_], [_], _, _ => exact .of_eq rfl
    | 1, _, [_, _], [], _, _ => exact .of_eq rfl
abbrev sNoPlace : Stmt := inClass (topS 5) 0
theorem scNoPlace : FnScope ["self", "place"] ["self", "place"] (defScope sNoPlace) := ⟨rfl, rfl, rfl, by decide +kernel, rfl, by decide +kernel, by decide +kernel⟩
theorem ok_NoPlace {C S : Addr} (D : EAtop K mg "NoPlace" "NoPlace.__init__" C "ValueError.__init__" ["place"] sNoPlace) (B : SlipB K mg S) (Dkept : Dk P w K mg base CX0 2 "kept" ["value"] (spKept K 1)) : EDef P w K mg base 3 "NoPlace" C "ValueError.__init__" ["self", "place"] (spErr K C ["place"] 1) := by
  obtain ⟨T, hm, ⟨f, fd, iC, tI, F⟩, hno⟩ := D
  refine ⟨fd, ⟨T, f, iC, tI, F.ok scNoPlace (fun vs H Q E h => ?_) (fun cdv A outer s H vs Q E hr h => ?_)⟩, hm, fun n hn => ⟨fun s us ws h1 h2 => ?_⟩⟩
  · obtain ⟨a, xs, ds, rfl, hl, _⟩ := h
    rw [List.length_cons, hl]
    all_goals rfl
  · obtain ⟨a, xs, ds, rfl, hl, ha, ⟨hL, hD⟩, k⟩ := h
    obtain ⟨x1, rfl⟩ := one_of hl
    obtain ⟨d1, rfl⟩ := one_of (hL.symm.trans hl)
    obtain ⟨e1, q1, hd1, ht1, sh1⟩ := hD 0 x1 rfl
    cases q1
    refine ⟨_, (pss_cons (ps_expr (pe_einitO rfl B.gS B.rd B.ga B.vV (by decide +kernel) (pa_cons (pv 0) (pa_cons (pe_joined (PJ.cons pe_str (PJ.cons (pe_fmtX hr (pv 1)) PJ.nil))) pa_nil)))) (pss_one (ps_est "ValueError.__init__" (pv 0) (pe_cd Dkept hr pass0 (pa_cons (pv 1) pa_nil))))), ?_⟩
    refine ⟨_, rfl, parts_run (K := K) (n := 0) (fun t ht => ?_) (Nat.zero_le _) (by show 0 + 2 ≤ 12; decide) fun z => ⟨a, C, [.str z], rfl, by show 1 ≤ 1000; decide, T, ha, ?_⟩⟩
    · simp only [List.mem_cons, List.not_mem_nil, or_false] at ht
      rcases ht with rfl | rfl
      · exact part_c (by decide +kernel)
      · exact part_v rfl sh1
    refine est_turn T (hno "place" (by simp)) rfl rfl (part0 ha) hd1 ht1 (by show 0 ≤ 900; decide) fun H1 hp1 => ?_
    exact k _ hp1
  · obtain ⟨oc, od, kV, doc, pm, an, cdv, ct, osl, rfl, lk, hcd⟩ := F.ex
    match n, hn, us, ws, h1, h2 with
    | 0, _, [_], [_], _, _ => exact .of_eq rfl
    | 1, _, [_, _], [], _, _ => exact .of_eq rfl

end
end Ss
namespace Ss
open PySem L2
section
variable {P : Program} {w : World} {K : PySem.W.Frag} {mg : Str → Option Value} {base : Heap}
abbrev sIstok : Stmt := topS 9
theorem scIstok : FnScope ["text", "sign"] ["text"] (defScope sIstok) := ⟨rfl, rfl, rfl, by decide +kernel, rfl, by decide +kernel, by decide +kernel⟩
theorem ok_istok (F : DefAt K mg "is_token" sIstok) (T : G0 mg) (ha : mg "all" = none) (ho : mg "ord" = none) (hMS : ∃ t, mg "MOST_SIGNS" = some (.int 4 t)) (hPC : ∃ t, mg "PERCENT" = some (.int 37 t)) : Dk P w K mg base CX0 1 "is_token" ["text"] spIsTok := by
  obtain ⟨f, fd, F, mf⟩ := F.ex
  obtain ⟨tMS, hMS⟩ := hMS
  obtain ⟨tPC, hPC⟩ := hPC
  refine ⟨f, fd, F.ok scIstok (fun vs H Q E h => ?_) (fun cdv A outer s H vs Q E hr h => ?_), mf, F.kp, F.binds fun _ _ _ _ _ _ us hl => match us, hl with | [_], _ => rfl⟩
  · obtain ⟨z, rfl, _⟩ := h; rfl
  · obtain ⟨z, rfl, hz, k⟩ := h
    refine ⟨_, (pss_cons (ps_if (pt_not (pt_chain op_le op_le pe_int (pe_callB call_len_str (by rfl) T.len (by decide +kernel) (pa_cons (pv 0) pa_nil)) (pe_glob (v := .int 4) rfl hMS ⟨_, rfl⟩))) (pss_one (ps_ret pe_bl)) pss_nil) (pss_one (ps_ret (pe_callB (cr_all rfl) (by rfl) ha (by decide +kernel) (pa_cons (pe_lc (own := [("sign", 1)]) (g := gName 1) rfl scIstok.nd (pi_str (pv 0)) (blkOk_by (N := ["text", "sign"]) (sc := defScope sIstok) (by decide +kernel)) (fun _ _ _ _ _ => (pg_name (i := 1) scIstok.nd rfl (.inl rfl))) (fun _ _ _ _ _ => pts_nil) (fun _ _ _ _ _ => (pe_and (pe_chain op_le_str op_le_str pe_str (pv 1) pe_str) (pe_one (pe_cmpR op_ne (pe_callB call_ord (by rfl) ho (by decide +kernel) (pa_cons (pv 1) pa_nil)) (pe_glob (v := .int 37) rfl hPC ⟨_, rfl⟩) (nomark _)))))) pa_nil))))), ?_⟩
    have hzs : z.length ≤ sizeLine := Nat.le_trans hz (by decide)
    refine Evl.q_when (b := !(decide (1 ≤ z.length) && decide (z.length ≤ 4))) (Evl.et_not (Evl.et_is (Evl.et_test (ev_chain (a := decide ((1 : Int) ≤ (z.length : Int))) (b := decide ((z.length : Int) ≤ 4)) Evl.ev_c (Evl.ev_cb (Evl.ea_cons (Evl.ev_var rfl) Evl.ea_nil) (fun H1 s Q q => ⟨z, rfl, hzs, q H1 (Evl.Ex.refl H1)⟩)) Evl.rv_I0 fun _ => ⟨Evl.ev_c, Evl.rv_I0⟩)) (by
      congr 1
      · exact decide_eq_decide.mpr (by omega)
      · exact decide_eq_decide.mpr (by omega)))) (fun e H1 s1 => ?_) (fun e H1 s1 => ?_)
    · have q : tokOk z = false := by
        unfold tokOk
        rw [Bool.not_eq_true'] at e
        rw [e]; rfl
      exact Evl.s_ret (v := .bl false) Evl.ev_c fun H2 s2 => by
        have := k H2 (s1.trans s2)
        rw [q] at this
        exact this
    · have e4 : decide (1 ≤ z.length) = true ∧ decide (z.length ≤ 4) = true := by
        rw [Bool.not_eq_false', Bool.and_eq_true] at e
        exact e
      have h4 := of_decide_eq_true e4.2
      have hsz : z.cps.size = z.length := rfl
      have q : tokOk z = (z.cps.toList.map sgC).all id := by
        unfold tokOk
        rw [e4.1, e4.2, List.all_map]; rfl
      refine ⟨_, rfl, _, rfl, fun D hD => lc_it (walk_str (z := z)) (fun i H' => H' D = some (.lst ((z.cps.toList.take i).map fun c => V.bl (sgC c))) ∧ Same H1 H') ⟨upd_same, Same.new (Same.refl H1) hD⟩ (fun _ _ _ _ => trivial) ?_ ?_⟩
      · rintro i x H2 H3 hi ⟨h1, h2⟩ ⟨rfl, c, hc, rfl⟩
        have hc' : z.cps.toList[i]? = some c := by rw [Array.getElem?_toList]; exact hc
        have e33 : ("!" : Str) = ⟨#[33]⟩ := by decide +kernel
        have e126 : ("~" : Str) = ⟨#[126]⟩ := by decide +kernel
        refine ⟨rfl, ?_⟩
        refine (Evl.ev_is (Evl.ev_andV (a := decide (33 ≤ c) && decide (c ≤ 126)) (b := decide (c ≠ 37)) (ev_chain Evl.ev_c (Evl.ev_var rfl) (rv_leS e33 rfl) fun _ => ⟨Evl.ev_c, rv_leS rfl e126⟩) fun _ => Evl.ev_is (Evl.ev_op (Evl.ev_cb (Evl.ea_cons (Evl.ev_var rfl) Evl.ea_nil) (fun H1 s Q q => ⟨⟨#[c]⟩, rfl, rfl, q H1 (Evl.Ex.refl H1)⟩)) Evl.ev_c (Evl.rv_ne rfl)) (by
          show V.bl (!decide (V.int ((c : Nat) : Int) = V.int 37)) = V.bl (decide (c ≠ 37))
          congr 1
          by_cases h : c = 37
          · subst h; rfl
          · rw [decide_eq_true h, decide_eq_false (fun z => h (by injection z with z; omega))]; rfl)) rfl) _ (Evl.Ex.refl _) _ fun H4 s4 => ⟨_, s4 _ _ h1, ?_, ?_, fun a o ha => ?_⟩
        · rw [List.length_map, List.length_take]; exact Nat.lt_of_le_of_lt (Nat.min_le_left _ _) (Nat.lt_of_lt_of_le (show i < 5 by omega) (by decide))
        · have et : z.cps.toList.take (i + 1) = z.cps.toList.take i ++ [c] := by rw [List.take_add_one, hc']; rfl
          rw [upd_same, et, List.map_append]; rfl
        · have nD : H1 D = none := hD
          rw [upd_ne (ne_of_none ha nD)]
          exact s4 _ _ (h2 a o ha)
      · rintro H2 ⟨h1, h2⟩
        have et : z.cps.toList.take z.cps.size = z.cps.toList := by rw [← Array.length_toList, List.take_length]
        rw [et] at h1
        have e5 : (z.cps.toList.map fun c => V.bl (sgC c)) = (z.cps.toList.map sgC).map V.bl := by rw [List.map_map]; rfl
        rw [e5] at h1
        refine ⟨D, _, rfl, SqL.of h1, ?_⟩
        have := k H2 (s1.trans h2)
        rw [q] at this
        exact this
end
end Ss
namespace Ss
open PySem L2
section
variable {P : Program} {w : World} {K : PySem.W.Frag} {mg : Str → Option Value} {base : Heap}
abbrev sRinit : Stmt := inClass (topS 15) 2
theorem scRinit : FnScope ["self", "tokens", "token"] ["self", "tokens"] (defScope sRinit) := ⟨rfl, rfl, rfl, by decide +kernel, rfl, by decide +kernel, by decide +kernel⟩
theorem ok_Rinit {f Cb : Addr} {fd : FuncData} (F : Fun K "__init__" "Rule.__init__" sRinit f fd) (T : G0 mg) (Dtok : Dk P w K mg base CX0 1 "is_token" ["text"] spIsTok) (DBadRule : EDef P w K mg base 3 "BadRule" Cb "ValueError.__init__" ["self", "worth"] (spErr K Cb ["worth"] 1)) :
    FnR P w K mg base (L2.CX P w) 5 f (fun vs H Q E => ∃ ws rest, vs = ws ++ rest ∧ ws.length = 1 ∧ rest.length ≤ sizeLine ∧ ∀ p, H p = none → spRI Cb K (ws ++ [V.ref p]) (upd H p (.tup rest)) Q E) := by
  obtain ⟨oc, od, kV, doc, pm, an, cdv, ct, osl, rfl, lk, hcd⟩ := F.ex
  refine StX.fn_star (ps := ["self"]) (pv := "tokens") (sp := spRI Cb K) lk hcd scRinit StX.cxUp (StX.bind_star1 (B := fun l => bindArgs (PySem.W.fnOf "__init__" "Rule.__init__" (defArgs sRinit) (defBody sRinit) (defScope sRinit) .none kV doc pm an cdv ct) ⟨l, []⟩) (p1 := "self") (pv := "tokens") (fun a => rfl) (fun a r rs => rfl)) (fun A outer s H vs Q E hr h => ?_)
  obtain ⟨p, t, C, dx, toks, rfl, ht, hp, cl, na, hl, hw, k1, k2⟩ := h
  refine ⟨_, (pss_cons (ps_for (passes_of rfl) rfl (pi_tup (pv 1)) (pg_name (i := 2) scRinit.nd rfl (.inl rfl)) (pss_one (ps_if (pt_not (pt_val (pe_cd Dtok hr pass0 (pa_cons (pv 2) pa_nil)))) (pss_one (ps_raise rfl (takes_of rfl rfl rfl rfl) (pmk_ec (n := 1) DBadRule hr (pa_cons (pv 2) pa_nil) rfl (by decide)))) pss_nil))) (pss_cons (ps_if (PW.pt (pw_and (pt_cmpR op_gt (pe_callB call_len_seq (by rfl) T.len (by decide +kernel) (pa_cons (pv 1) pa_nil)) pe_int (nomark _)) (pw_and1 (pt_cmpR op_eq (pe_ix ix_tup (pv 1) pe_int (fun _ _ => rfl)) (pe_ix ix_tup (pv 1) pe_int (fun _ _ => rfl)) (nomark _))))) (pss_one (ps_raise rfl (takes_of rfl rfl rfl rfl) (pmk_ec (n := 1) DBadRule hr (pa_cons (pe_ix ix_tup (pv 1) pe_int (fun _ _ => rfl)) pa_nil) rfl (by decide)))) pss_nil) (pss_one (ps_fld (pv 0) (pv 1) rfl)))), ?_⟩
  refine ⟨_, rfl, t, rfl, ⟨_, SqT.of ht⟩, for_it (walk_tup (xs := toks.map V.str)) (fun i σ H' => ∃ v : Option V, σ = [some (.ref p), some (.ref t), v] ∧ Same H H' ∧ ∀ (j : Nat) (z : Str), j < i → toks[j]? = some z → tokOk z = true) ⟨none, rfl, Same.refl H, fun j z hj => absurd hj (Nat.not_lt_zero _)⟩
    (fun i σ H' _ h => by obtain ⟨_, _, s, _⟩ := h; exact Evl.ex_t s (SqT.of ht)) ?_ ?_⟩
  · rintro i x σ H1 H2 hi ⟨v, rfl, s1, ok⟩ ⟨rfl, hx⟩
    obtain ⟨z, hz, rfl⟩ : ∃ z, toks[i]? = some z ∧ x = V.str z := by
      rw [List.getElem?_map] at hx
      cases e : toks[i]? with
      | none => rw [e] at hx; cases hx
      | some y => rw [e] at hx; cases hx; exact ⟨y, rfl, rfl⟩
    have hwz := hw z (List.mem_of_getElem? hz)
    refine ⟨_, rfl, z, rfl, Nat.le_trans hwz.1 (by decide), fun H3 s3 => ⟨_, rfl, ?_⟩⟩
    refine ite2 (fun c => ?_) (fun c => ?_)
    · have hb : badOf toks = some z := by
        have c : tokOk z = false := by simpa using c
        match toks, hl, i, hz, ok with
        | [a], _, 0, hz, _ => cases hz; show (if tokOk z = true then _ else _) = _; rw [c]; rfl
        | [a, b], _, 0, hz, _ => cases hz; show (if tokOk z = true then _ else _) = _; rw [c]; rfl
        | [a, b], _, 1, hz, ok =>
          cases hz
          have := ok 0 a (by decide) rfl
          show (if tokOk a = true then (if tokOk z = true then _ else _) else _) = _
          rw [if_pos this, c]; rfl
      refine emkr_one (i := 2) rfl (wth_str hwz) fun dd fs v' H' s h1 h2 h3 => ?_
      cases h3
      exact k2 z hb dd fs H' ((s1.trans s3).trans s) h1 h2
    · have c : tokOk z = true := by simpa using c
      refine ⟨_, rfl, s1.trans s3, fun j y hj hy => ?_⟩
      by_cases e : j = i
      · subst e; rw [hz] at hy; cases hy; exact c
      · exact ok j y (by omega) hy
  · rintro σ H1 ⟨v, rfl, s1, ok⟩
    rw [List.length_map] at ok
    have ht1 := SqT.of (K := K) (s1 _ _ ht)
    have hp1 := s1 _ _ hp
    have all : ∀ z ∈ toks, tokOk z = true := fun z hz => by
      obtain ⟨j, hj, e⟩ := List.getElem_of_mem hz
      exact ok j z hj (by rw [List.getElem?_eq_getElem hj, e])
    have il : (toks.map V.str).length = toks.length := List.length_map _
    have it : ∀ (H2 : Hp) (s2 : Same H1 H2) (i : Nat) (z : Str) (_ : toks[i]? = some z) (σ : L2.St) (_ : σ[1]? = some (some (.ref t))), Evl.Ev (tOp (rIxT K) (tVar 1) (tC (.int (i : Nat)))) σ H2 (.str z) := fun H2 s2 i z hz σ h1 =>
      Evl.ev_op (Evl.ev_var h1) Evl.ev_c (Evl.rv_ixT (SqT.of (s2 _ _ (s1 _ _ ht))) (atI_nat (by rw [List.getElem?_map, hz]; rfl)))
    dsimp only
    match toks, hl, ht, hw, k1, k2, all, il, it with
    | [a], _, ht, hw, k1, k2, all, il, it =>
      refine Evl.q_when (b := false) (Evl.et_is (Evl.et_and (a := decide ((1 : Int) < (([a] : List Str).length : Int))) (b := false) (Evl.et_test (Evl.ev_op (Evl.ev_cb (Evl.ea_cons (Evl.ev_var rfl) Evl.ea_nil) (fun H1 s Q q => ⟨t, _, rfl, .inr (SqT.of (s _ _ (s1 _ _ ht))), q H1 (Evl.Ex.refl H1)⟩)) Evl.ev_c Evl.rv_I0)) (fun z => by cases z)) rfl) (fun z => Bool.noConfusion z) fun _ H2 s2 => ?_
      refine ⟨_, rfl, _, rfl, p, C, dx, [], rfl, s2 _ _ hp1, cl, na, by decide, ?_⟩
      exact k1 (by show (if tokOk a = true then none else some a) = none; rw [if_pos (all a (by simp))]) H2 (s1.trans s2)
    | [a, b], _, ht, hw, k1, k2, all, il, it =>
      have ta := all a (by simp)
      have tb := all b (by simp)
      refine Evl.q_when (b := decide (a = b)) (Evl.et_is (Evl.et_and (a := decide ((1 : Int) < (([a, b] : List Str).length : Int))) (b := decide (V.str a = V.str b)) (Evl.et_test (Evl.ev_op (Evl.ev_cb (Evl.ea_cons (Evl.ev_var rfl) Evl.ea_nil) (fun H1 s Q q => ⟨t, _, rfl, .inr (SqT.of (s _ _ (s1 _ _ ht))), q H1 (Evl.Ex.refl H1)⟩)) Evl.ev_c Evl.rv_I0)) (fun _ => Evl.et_test (Evl.ev_op (it H1 (Same.refl H1) 0 a rfl [some (.ref p), some (.ref t), v] rfl) (it H1 (Same.refl H1) 1 b rfl [some (.ref p), some (.ref t), v] rfl) (Evl.rv_eq rfl)))) (by
        show (true && _) = _
        rw [Bool.true_and]
        exact decide_eq_decide.mpr ⟨fun z => by injection z, fun z => by rw [z]⟩)) (fun e H2 s2 => ?_) (fun e H2 s2 => ?_)
      · have e : a = b := of_decide_eq_true e
        have hb : badOf [a, b] = some a := by show (if tokOk a = true then (if tokOk b = true then (if a = b then some a else none) else some b) else some a) = _; rw [if_pos ta, if_pos tb, if_pos e]
        refine emkr_oneE (it _ s2 0 a rfl _ rfl) (wth_str (hw a (by simp))) fun dd fs v' H' s h1 h2 h3 => ?_
        cases h3
        exact k2 a hb dd fs H' ((s1.trans s2).trans s) h1 h2
      · have e : ¬ a = b := of_decide_eq_false e
        have hb : badOf [a, b] = none := by show (if tokOk a = true then (if tokOk b = true then (if a = b then some a else none) else some b) else some a) = _; rw [if_pos ta, if_pos tb, if_neg e]
        refine ⟨_, rfl, _, rfl, p, C, dx, [], rfl, s2 _ _ hp1, cl, na, by decide, ?_⟩
        exact k1 hb H2 (s1.trans s2)
    | [], hl, _, _, _, _, _, _, _ => exact absurd hl (by decide)
    | _ :: _ :: _ :: _, hl, _, _, _, _, _, _, _ => exact absurd hl (by simp)
end
end Ss
namespace Ss
open PySem L2
section
variable {P : Program} {w : World} {K : PySem.W.Frag} {mg : Str → Option Value} {base : Heap}
abbrev sOinit : Stmt := inClass (topS 16) 1
theorem scOinit : FnScope ["self", "token"] ["self", "token"] (defScope sOinit) := ⟨rfl, rfl, rfl, by decide +kernel, rfl, by decide +kernel, by decide +kernel⟩
theorem ok_Oinit {f g R C Cb : Addr} {fd : FuncData} (F : Fun K "__init__" "Out.__init__" sOinit f fd) (Rd : ClsRd K mg "Rule" R) (fv : PySem.W.findCls K (.ref R) (.type "type") "__init__" = some (.val (.ref g))) (kp : PySem.W.keepIn K (.ref g) = true) (c : RCl K C (RK.word .out))
    (Fr : FnR P w K mg base (L2.CX P w) 5 g (fun vs H Q E => ∃ ws rest, vs = ws ++ rest ∧ ws.length = 1 ∧ rest.length ≤ sizeLine ∧ ∀ p, H p = none → spRI Cb K (ws ++ [V.ref p]) (upd H p (.tup rest)) Q E)) :
    FnOk P w K mg base (L2.CX P w) 6 f fd ["self", "token"] (spNew Cb C .out) := by
  refine F.okX scOinit (fun vs H Q E h => ?_) (fun cdv A outer s H vs Q E hr h => ?_)
  · obtain ⟨p, dx, toks, rfl, hl, _⟩ := h
    rw [List.length_cons, List.length_map, hl]; rfl
  · obtain ⟨p, dx, toks, rfl, hl, hp, hw, k1, k2⟩ := h
    match toks, hl, hw, k1, k2 with
    | [a], _, hw, k1, k2 =>
      refine ⟨_, (pss_cons (ps_expr (pe_clsfn Rd Fr fv kp hr (passes_call (takes_of rfl rfl rfl rfl) (fun _ _ _ _ h => h)) (pa_cons (pv 0) (pa_cons (pv 1) pa_nil)))) (pss_cons (ps_fld (pv 0) (pe_tup (pa_cons (pv 1) pa_nil)) rfl) (pss_one (ps_fld (pv 0) (pe_tup pa_nil) rfl)))), ?_⟩
      refine ⟨_, rfl, _, rfl, [.ref p], [.str a], rfl, rfl, by show 1 ≤ sizeLine; decide, fun t ht => ⟨p, t, C, dx, [a], rfl, upd_same, ?_, c.cl, c.t, .inl rfl, hw, fun hb H1 s1 => ?_, fun z hz => (k2 z hz).mono (Same.new (Same.refl H) ht)⟩⟩
      · rw [upd_ne (ne_of_none hp ht)]; exact hp
      have ntp : p ≠ t := ne_of_none hp ht
      have hpx : upd H1 p (.ins C dx [("tokens", .ref t)]) p = some (.ins C dx [("tokens", .ref t)]) := upd_same
      have htx : upd H1 p (.ins C dx [("tokens", .ref t)]) t = some (.tup (([a] : List Str).map V.str)) := by rw [upd_ne ntp.symm]; exact s1 _ _ upd_same
      have off : Off p H (upd H1 p (.ins C dx [("tokens", .ref t)])) := fun a o na ha => by rw [upd_ne na]; exact s1 _ _ (by rw [upd_ne (ne_of_none ha ht)]; exact ha)
      refine ⟨_, rfl, by show 1 ≤ sizeLine; decide, fun r hr => ⟨_, rfl, p, C, dx, _, rfl, by rw [upd_ne (ne_of_none hpx hr)]; exact hpx, c.cl, c.r, by show 1 < 1000; decide, ?_⟩⟩
      rw [putF_rem]
      refine ⟨by show 0 ≤ sizeLine; decide, fun i hi => ⟨_, rfl, p, C, dx, _, rfl, by rw [upd_ne (ne_of_none upd_same hi)]; exact upd_same, c.cl, c.i, by show 2 < 1000; decide, ?_⟩⟩
      rw [putF_ins]
      obtain ⟨q1, q2⟩ := rule_end (k := .out) (toks := [a]) hp off htx hpx hr hi
      exact k1 hb _ q1 q2
abbrev sWinit : Stmt := inClass (topS 17) 1
theorem scWinit : FnScope ["self", "token"] ["self", "token"] (defScope sWinit) := ⟨rfl, rfl, rfl, by decide +kernel, rfl, by decide +kernel, by decide +kernel⟩
theorem ok_Winit {f g R C Cb : Addr} {fd : FuncData} (F : Fun K "__init__" "Twice.__init__" sWinit f fd) (Rd : ClsRd K mg "Rule" R) (fv : PySem.W.findCls K (.ref R) (.type "type") "__init__" = some (.val (.ref g))) (kp : PySem.W.keepIn K (.ref g) = true) (c : RCl K C (RK.word .twice))
    (Fr : FnR P w K mg base (L2.CX P w) 5 g (fun vs H Q E => ∃ ws rest, vs = ws ++ rest ∧ ws.length = 1 ∧ rest.length ≤ sizeLine ∧ ∀ p, H p = none → spRI Cb K (ws ++ [V.ref p]) (upd H p (.tup rest)) Q E)) :
    FnOk P w K mg base (L2.CX P w) 6 f fd ["self", "token"] (spNew Cb C .twice) := by
  refine F.okX scWinit (fun vs H Q E h => ?_) (fun cdv A outer s H vs Q E hr h => ?_)
  · obtain ⟨p, dx, toks, rfl, hl, _⟩ := h
    rw [List.length_cons, List.length_map, hl]; rfl
  · obtain ⟨p, dx, toks, rfl, hl, hp, hw, k1, k2⟩ := h
    match toks, hl, hw, k1, k2 with
    | [a], _, hw, k1, k2 =>
      refine ⟨_, (pss_cons (ps_expr (pe_clsfn Rd Fr fv kp hr (passes_call (takes_of rfl rfl rfl rfl) (fun _ _ _ _ h => h)) (pa_cons (pv 0) (pa_cons (pv 1) pa_nil)))) (pss_cons (ps_fld (pv 0) (pe_tup (pa_cons (pv 1) pa_nil)) rfl) (pss_one (ps_fld (pv 0) (pe_tup (pa_cons (pv 1) (pa_cons (pv 1) pa_nil))) rfl)))), ?_⟩
      refine ⟨_, rfl, _, rfl, [.ref p], [.str a], rfl, rfl, by show 1 ≤ sizeLine; decide, fun t ht => ⟨p, t, C, dx, [a], rfl, upd_same, ?_, c.cl, c.t, .inl rfl, hw, fun hb H1 s1 => ?_, fun z hz => (k2 z hz).mono (Same.new (Same.refl H) ht)⟩⟩
      · rw [upd_ne (ne_of_none hp ht)]; exact hp
      have ntp : p ≠ t := ne_of_none hp ht
      have hpx : upd H1 p (.ins C dx [("tokens", .ref t)]) p = some (.ins C dx [("tokens", .ref t)]) := upd_same
      have htx : upd H1 p (.ins C dx [("tokens", .ref t)]) t = some (.tup (([a] : List Str).map V.str)) := by rw [upd_ne ntp.symm]; exact s1 _ _ upd_same
      have off : Off p H (upd H1 p (.ins C dx [("tokens", .ref t)])) := fun a o na ha => by rw [upd_ne na]; exact s1 _ _ (by rw [upd_ne (ne_of_none ha ht)]; exact ha)
      refine ⟨_, rfl, by show 1 ≤ sizeLine; decide, fun r hr => ⟨_, rfl, p, C, dx, _, rfl, by rw [upd_ne (ne_of_none hpx hr)]; exact hpx, c.cl, c.r, by show 1 < 1000; decide, ?_⟩⟩
      rw [putF_rem]
      refine ⟨_, rfl, _, rfl, by show 2 ≤ sizeLine; decide, fun i hi => ⟨_, rfl, p, C, dx, _, rfl, by rw [upd_ne (ne_of_none upd_same hi)]; exact upd_same, c.cl, c.i, by show 2 < 1000; decide, ?_⟩⟩
      rw [putF_ins]
      obtain ⟨q1, q2⟩ := rule_end (k := .twice) (toks := [a]) hp off htx hpx hr hi
      exact k1 hb _ q1 q2
abbrev sSinit : Stmt := inClass (topS 18) 2
theorem scSinit : FnScope ["self", "first", "second"] ["self", "first", "second"] (defScope sSinit) := ⟨rfl, rfl, rfl, by decide +kernel, rfl, by decide +kernel, by decide +kernel⟩
theorem ok_Sinit {f g R C Cb : Addr} {fd : FuncData} (F : Fun K "__init__" "Swapped.__init__" sSinit f fd) (Rd : ClsRd K mg "Rule" R) (fv : PySem.W.findCls K (.ref R) (.type "type") "__init__" = some (.val (.ref g))) (kp : PySem.W.keepIn K (.ref g) = true) (c : RCl K C (RK.word .swapped))
    (Fr : FnR P w K mg base (L2.CX P w) 5 g (fun vs H Q E => ∃ ws rest, vs = ws ++ rest ∧ ws.length = 1 ∧ rest.length ≤ sizeLine ∧ ∀ p, H p = none → spRI Cb K (ws ++ [V.ref p]) (upd H p (.tup rest)) Q E)) :
    FnOk P w K mg base (L2.CX P w) 6 f fd ["self", "first", "second"] (spNew Cb C .swapped) := by
  refine F.okX scSinit (fun vs H Q E h => ?_) (fun cdv A outer s H vs Q E hr h => ?_)
  · obtain ⟨p, dx, toks, rfl, hl, _⟩ := h
    rw [List.length_cons, List.length_map, hl]; rfl
  · obtain ⟨p, dx, toks, rfl, hl, hp, hw, k1, k2⟩ := h
    match toks, hl, hw, k1, k2 with
    | [a, b], _, hw, k1, k2 =>
      refine ⟨_, (pss_cons (ps_expr (pe_clsfn Rd Fr fv kp hr (passes_call (takes_of rfl rfl rfl rfl) (fun _ _ _ _ h => h)) (pa_cons (pv 0) (pa_cons (pv 1) (pa_cons (pv 2) pa_nil))))) (pss_cons (ps_fld (pv 0) (pe_tup (pa_cons (pv 1) (pa_cons (pv 2) pa_nil))) rfl) (pss_one (ps_fld (pv 0) (pe_tup (pa_cons (pv 2) (pa_cons (pv 1) pa_nil))) rfl)))), ?_⟩
      refine ⟨_, rfl, _, rfl, _, rfl, [.ref p], [.str a, .str b], rfl, rfl, by show 2 ≤ sizeLine; decide, fun t ht => ⟨p, t, C, dx, [a, b], rfl, upd_same, ?_, c.cl, c.t, .inr rfl, hw, fun hb H1 s1 => ?_, fun z hz => (k2 z hz).mono (Same.new (Same.refl H) ht)⟩⟩
      · rw [upd_ne (ne_of_none hp ht)]; exact hp
      have ntp : p ≠ t := ne_of_none hp ht
      have hpx : upd H1 p (.ins C dx [("tokens", .ref t)]) p = some (.ins C dx [("tokens", .ref t)]) := upd_same
      have htx : upd H1 p (.ins C dx [("tokens", .ref t)]) t = some (.tup (([a, b] : List Str).map V.str)) := by rw [upd_ne ntp.symm]; exact s1 _ _ upd_same
      have off : Off p H (upd H1 p (.ins C dx [("tokens", .ref t)])) := fun a o na ha => by rw [upd_ne na]; exact s1 _ _ (by rw [upd_ne (ne_of_none ha ht)]; exact ha)
      refine ⟨_, rfl, _, rfl, by show 2 ≤ sizeLine; decide, fun r hr => ⟨_, rfl, p, C, dx, _, rfl, by rw [upd_ne (ne_of_none hpx hr)]; exact hpx, c.cl, c.r, by show 1 < 1000; decide, ?_⟩⟩
      rw [putF_rem]
      refine ⟨_, rfl, _, rfl, by show 2 ≤ sizeLine; decide, fun i hi => ⟨_, rfl, p, C, dx, _, rfl, by rw [upd_ne (ne_of_none upd_same hi)]; exact upd_same, c.cl, c.i, by show 2 < 1000; decide, ?_⟩⟩
      rw [putF_ins]
      obtain ⟨q1, q2⟩ := rule_end (k := .swapped) (toks := [a, b]) hp off htx hpx hr hi
      exact k1 hb _ q1 q2
abbrev sKinit : Stmt := inClass (topS 19) 1
theorem scKinit : FnScope ["self", "first", "second"] ["self", "first", "second"] (defScope sKinit) := ⟨rfl, rfl, rfl, by decide +kernel, rfl, by decide +kernel, by decide +kernel⟩
theorem ok_Kinit {f g R C Cb : Addr} {fd : FuncData} (F : Fun K "__init__" "Taken.__init__" sKinit f fd) (Rd : ClsRd K mg "Rule" R) (fv : PySem.W.findCls K (.ref R) (.type "type") "__init__" = some (.val (.ref g))) (kp : PySem.W.keepIn K (.ref g) = true) (c : RCl K C (RK.word .taken))
    (Fr : FnR P w K mg base (L2.CX P w) 5 g (fun vs H Q E => ∃ ws rest, vs = ws ++ rest ∧ ws.length = 1 ∧ rest.length ≤ sizeLine ∧ ∀ p, H p = none → spRI Cb K (ws ++ [V.ref p]) (upd H p (.tup rest)) Q E)) :
    FnOk P w K mg base (L2.CX P w) 6 f fd ["self", "first", "second"] (spNew Cb C .taken) := by
  refine F.okX scKinit (fun vs H Q E h => ?_) (fun cdv A outer s H vs Q E hr h => ?_)
  · obtain ⟨p, dx, toks, rfl, hl, _⟩ := h
    rw [List.length_cons, List.length_map, hl]; rfl
  · obtain ⟨p, dx, toks, rfl, hl, hp, hw, k1, k2⟩ := h
    match toks, hl, hw, k1, k2 with
    | [a, b], _, hw, k1, k2 =>
      refine ⟨_, (pss_cons (ps_expr (pe_clsfn Rd Fr fv kp hr (passes_call (takes_of rfl rfl rfl rfl) (fun _ _ _ _ h => h)) (pa_cons (pv 0) (pa_cons (pv 1) (pa_cons (pv 2) pa_nil))))) (pss_cons (ps_fld (pv 0) (pe_tup (pa_cons (pv 1) pa_nil)) rfl) (pss_one (ps_fld (pv 0) (pe_tup (pa_cons (pv 2) pa_nil)) rfl)))), ?_⟩
      refine ⟨_, rfl, _, rfl, _, rfl, [.ref p], [.str a, .str b], rfl, rfl, by show 2 ≤ sizeLine; decide, fun t ht => ⟨p, t, C, dx, [a, b], rfl, upd_same, ?_, c.cl, c.t, .inr rfl, hw, fun hb H1 s1 => ?_, fun z hz => (k2 z hz).mono (Same.new (Same.refl H) ht)⟩⟩
      · rw [upd_ne (ne_of_none hp ht)]; exact hp
      have ntp : p ≠ t := ne_of_none hp ht
      have hpx : upd H1 p (.ins C dx [("tokens", .ref t)]) p = some (.ins C dx [("tokens", .ref t)]) := upd_same
      have htx : upd H1 p (.ins C dx [("tokens", .ref t)]) t = some (.tup (([a, b] : List Str).map V.str)) := by rw [upd_ne ntp.symm]; exact s1 _ _ upd_same
      have off : Off p H (upd H1 p (.ins C dx [("tokens", .ref t)])) := fun a o na ha => by rw [upd_ne na]; exact s1 _ _ (by rw [upd_ne (ne_of_none ha ht)]; exact ha)
      refine ⟨_, rfl, by show 1 ≤ sizeLine; decide, fun r hr => ⟨_, rfl, p, C, dx, _, rfl, by rw [upd_ne (ne_of_none hpx hr)]; exact hpx, c.cl, c.r, by show 1 < 1000; decide, ?_⟩⟩
      rw [putF_rem]
      refine ⟨_, rfl, by show 1 ≤ sizeLine; decide, fun i hi => ⟨_, rfl, p, C, dx, _, rfl, by rw [upd_ne (ne_of_none upd_same hi)]; exact upd_same, c.cl, c.i, by show 2 < 1000; decide, ?_⟩⟩
      rw [putF_ins]
      obtain ⟨q1, q2⟩ := rule_end (k := .taken) (toks := [a, b]) hp off htx hpx hr hi
      exact k1 hb _ q1 q2
end
end Ss
namespace Ss
open PySem L2 PyProof.Rows
/-! ### tuples and lists of texts, compared -/
theorem eqvAll_strs : ∀ a b : List Str, PyData.eqvAll (a.map PyData.str) (b.map PyData.str) = decide (a = b)
  | [], [] => rfl
  | [], _ :: _ => rfl
  | _ :: _, [] => rfl
  | x :: a, y :: b => by
    show ((x == y) && PyData.eqvAll (a.map PyData.str) (b.map PyData.str)) = _
    rw [eqvAll_strs a b]
    by_cases h : x = y
    · subst h
      by_cases q : a = b
      · subst q; simp
      · have e : decide (x :: a = x :: b) = false := decide_eq_false fun z => q (List.cons.inj z).2
        rw [decide_eq_false q, e, Bool.and_false]
    · have e : decide (x :: a = y :: b) = false := decide_eq_false fun z => h (List.cons.inj z).1
      rw [beq_eq_false_iff_ne.mpr h, e, Bool.false_and]
theorem shapedT_strs {ts : List Str} (h : ts.all okS = true) : SeqAt.shaped (.tuple (ts.map PyData.str)) = true := by
  show (PyData.canLayAll0 (ts.map PyData.str) && decide (PyData.depthAll (ts.map PyData.str) + 1 ≤ 64)) = true
  rw [lay_strs ts h, deep_strs]
  rfl
theorem rv_eqT {K : PySem.W.Frag} {H : Hp} {p q : Addr} {a b : List Str} (ha : a.all okS = true) (hb : b.all okS = true) (h1 : SqT K H p (a.map V.str)) (h2 : SqT K H q (b.map V.str)) : Evl.RV (rEqD K) (.ref p) (.ref q) H (.bl (decide (a = b))) := fun H1 e Q k =>
  ⟨_, _, .tup (Evl.ex_t e h1) (dp_strs a), .tup (Evl.ex_t e h2) (dp_strs b), shapedT_strs ha, shapedT_strs hb, by
    show Q (.bl (PyData.eqvAll _ _)) H1
    rw [eqvAll_strs]; exact k H1 (Evl.Ex.refl H1)⟩
theorem rv_neT {K : PySem.W.Frag} {H : Hp} {p q : Addr} {a b : List Str} (ha : a.all okS = true) (hb : b.all okS = true) (h1 : SqT K H p (a.map V.str)) (h2 : SqT K H q (b.map V.str)) : Evl.RV (rNeD K) (.ref p) (.ref q) H (.bl (!decide (a = b))) := fun H1 e Q k =>
  ⟨_, _, .tup (Evl.ex_t e h1) (dp_strs a), .tup (Evl.ex_t e h2) (dp_strs b), shapedT_strs ha, shapedT_strs hb, by
    show Q (.bl (!PyData.eqvAll _ _)) H1
    rw [eqvAll_strs]; exact k H1 (Evl.Ex.refl H1)⟩
theorem rv_neLs {K : PySem.W.Frag} {H : Hp} {p q : Addr} {a b : List Str} (ha : a.all okS = true) (hb : b.all okS = true) (h1 : SqL K H p (a.map V.str)) (h2 : SqL K H q (b.map V.str)) : Evl.RV (rNeD K) (.ref p) (.ref q) H (.bl (!decide (a = b))) := fun H1 e Q k =>
  ⟨_, _, .lst (Evl.ex_l e h1) (dp_strs a), .lst (Evl.ex_l e h2) (dp_strs b), shaped_strs ha, shaped_strs hb, by
    show Q (.bl (!PyData.eqvAll _ _)) H1
    rw [eqvAll_strs]; exact k H1 (Evl.Ex.refl H1)⟩
theorem okS_word {z : Str} (h : wordOk z) : okS z = true := by
  show z.cps.all (fun c => decide (c < 0x110000)) = true
  rw [← Array.all_toList]
  exact List.all_eq_true.mpr fun c hc => decide_eq_true (Nat.lt_of_lt_of_le (h.2 c hc) (by decide))
theorem okS_words {ts : List Str} (h : ∀ z ∈ ts, wordOk z) : ts.all okS = true := List.all_eq_true.mpr fun z hz => okS_word (h z hz)
theorem RK.word_ok (k : RK) : wordOk k.word := by cases k <;> exact ⟨by decide +kernel, by decide +kernel⟩
/-! ### the classes of rules beside each other -/
def RK.cls : RK → Str
  | .out => "Out"
  | .twice => "Twice"
  | .swapped => "Swapped"
  | .taken => "Taken"
structure RTab (K : PySem.W.Frag) (mg : Str → Option Value) (Cf : RK → Addr) (R : Addr) : Prop where
  cl : ∀ k, RCl K (Cf k) k.word
  g : ∀ k, mg k.cls = some (.ref (Cf k))
  gR : mg "Rule" = some (.ref R)
  own : ∀ a b, PySem.W.kitOne K (.ref (Cf a)) (.ref (Cf b)) = some (decide (a = b))
  base : ∀ a, PySem.W.kitOne K (.ref (Cf a)) (.ref R) = some true
  tup : PySem.W.kitOne K (.type "tuple") (.ref R) = some false
  nf : ∀ a b, PySem.W.notFirst K (Cf a) (.ref (Cf b)) = true
  nt : ∀ a, PySem.W.notFirst K (Cf a) (.type "tuple") = true
section
variable {K : PySem.W.Frag} {mg : Str → Option Value} {Cf : RK → Addr} {R : Addr} {H : Hp} {p : Addr} {k : RK} {toks : List Str} {σ : L2.St} {te : TE}
theorem rc_isR (Z : RTab K mg Cf R) (h : RuleAt H (Cf k) p k toks) {D : Addr} {b : Bool} (e : PySem.W.kitOne K (.ref (Cf k)) (.ref D) = some b) : Evl.RC (rIsi K) [.ref p, .ref D] H (.bl b) := fun H1 s Q q => by
  obtain ⟨dx, t, r, i, h1, _⟩ := h.mono s
  have c := Z.cl k
  exact ⟨.ref p, .ref D, .ref (Cf k), .ref D, b, rfl, .own D, .base (.ins h1 c.cl c.cla c.hn c.htk c.clm), e, q H1 (Evl.Ex.refl H1)⟩
theorem lk_word (t r i : V) : ([("tokens", t), ("removed", r), ("inserted", i)] : List (Str × V)).lookup ("word" : Str) = none := by
  rw [lookup_hd, if_neg (by decide +kernel), lookup_hd, if_neg (by decide +kernel), lookup_hd, if_neg (by decide +kernel)]
  rfl
/-- r.word, r.tokens -/
theorem ev_word (Z : RTab K mg Cf R) (h : RuleAt H (Cf k) p k toks) (he : Evl.Ev te σ H (.ref p)) : Evl.Ev (tCon K te "word") σ H (.str k.word) := fun H1 s Q q => he H1 s _ fun H2 s2 => by
  obtain ⟨dx, t, r, i, h1, _⟩ := h.mono (s.trans s2)
  obtain ⟨u, cu⟩ := (Z.cl k).word
  exact ⟨p, Cf k, dx, _, _, u, rfl, h1, (Z.cl k).cl, cu, by
    show (([("tokens", V.ref t), ("removed", V.ref r), ("inserted", V.ref i)] : List (Str × V))).lookup ("word" : Str) = none
    rw [lookup_hd, if_neg (by decide +kernel), lookup_hd, if_neg (by decide +kernel), lookup_hd, if_neg (by decide +kernel)]
    rfl, q H2 s2⟩
end
/-- a call of what raises nothing here -/
theorem passN {X : Cx} : Passes (L2.CX X.prog X.w) X (fun _ _ _ => False) := fun _ _ _ _ _ _ _ h => by
  obtain ⟨a, B, H', cls, d, h1, h2, h3, h4, h5, h6, h7, h8⟩ := h
  exact h8.elim
/-- the constant of a class of rules, read by the class's name -/
structure RNm (K : PySem.W.Frag) (mg : Str → Option Value) (k : RK) (C : Addr) : Prop where
  rd : ClsRd K mg k.cls C
  ex : ∃ u, PySem.W.findCls K (.ref C) (.type "type") "word" = some (.val u) ∧ RelV (.str k.word) u ∧ PySem.W.handedIn u = true
/-- a drawn rule: of tokens of the list at p -/
def spRule (K : PySem.W.Frag) : Sp := fun vs H Q _ => ∃ (b p : Addr) (n : Nat) (ws : List Str), vs = [.ref b, .ref p] ∧ Bag H b n ∧ n ≤ 800000000 ∧ p ≠ b ∧ SqL K H p (ws.map V.str) ∧ 2 ≤ ws.length ∧ ws.length ≤ 1000 ∧ ws.Nodup ∧
  ∀ (q : Addr) (k : RK) (toks : List Str) (H' : Hp), Off b H H' → Bag H' b (n + 3) → H q = none → H' q = some (.tup ((k.word :: toks).map V.str)) → toks.length = k.many → (∀ z ∈ toks, z ∈ ws) → toks.Nodup → Q (.ref q) H'
def spIsR (K : PySem.W.Frag) : Sp := fun vs H Q _ => ∃ (q : Addr) (k : RK) (toks : List Str), vs = [.ref q] ∧ H q = some (.tup ((k.word :: toks).map V.str)) ∧ toks.length = k.many ∧ (∀ z ∈ toks, wordOk z) ∧ badOf toks = none ∧ ∀ H', Same H H' → Q (.bl true) H'
def spOdd : Sp := fun vs H Q _ => ∃ (token more bad other : Str), vs = [.str token, .str more, .str bad, .str other] ∧ wordOk token ∧ wordOk more ∧ wordOk bad ∧ wordOk other ∧ tokOk token = true ∧ tokOk more = true ∧ tokOk bad = false ∧ token ≠ more ∧ ∀ H', Same H H' → Q (.bl true) H'
/-- str of a rule -/
def strR (k : RK) (toks : List Str) : Str := Txt.join " " (k.word :: toks)
theorem sum_small {ts : List Str} (h : ∀ z ∈ ts, wordOk z) : (ts.map (·.length)).sum ≤ 100 * ts.length := by
  induction ts with
  | nil => exact Nat.le_refl _
  | cons t ts ih =>
    have h1 := (h t List.mem_cons_self).1
    have h2 := ih fun z hz => h z (List.mem_cons_of_mem _ hz)
    rw [List.map_cons, List.sum_cons, List.length_cons]
    omega
def spRStr (Cf : RK → Addr) : Sp := fun vs H Q _ => ∃ (p : Addr) (k : RK) (toks : List Str), vs = [.ref p] ∧ RuleAt H (Cf k) p k toks ∧ toks.length ≤ 2 ∧ (∀ z ∈ toks, wordOk z) ∧ ∀ H', Same H H' → Q (.str (strR k toks)) H'
def spREq (K : PySem.W.Frag) (Cf : RK → Addr) : Sp := fun vs H Q _ => ∃ (p q : Addr) (k : RK) (toks : List Str), vs = [.ref p, .ref q] ∧ RuleAt H (Cf k) p k toks ∧ (∀ z ∈ toks, wordOk z) ∧
  ((∃ (k2 : RK) (toks2 : List Str), RuleAt H (Cf k2) q k2 toks2 ∧ (∀ z ∈ toks2, wordOk z) ∧ ∀ H', Same H H' → Q (.bl (decide (k = k2 ∧ toks = toks2))) H') ∨ (∃ xs, H q = some (.tup xs) ∧ ∀ H', Same H H' → Q (.bl false) H'))
/-- the law's way to a rule -/
def spRuled (K : PySem.W.Frag) (Cb : Addr) (Cf : RK → Addr) : Sp := fun vs H Q E => ∃ (q : Addr) (k : RK) (toks : List Str), vs = [.ref q] ∧ SqT K H q ((k.word :: toks).map V.str) ∧ toks.length = k.many ∧ (∀ z ∈ toks, wordOk z) ∧
  (badOf toks = none → ∀ (p : Addr) (H' : Hp), Same H H' → H p = none → RuleAt H' (Cf k) p k toks → Q (.ref p) H') ∧ (∀ z, badOf toks = some z → Bad Cb H z E)
def spWrong (K : PySem.W.Frag) : Sp := fun vs H Q _ => ∃ (q : Addr) (k : RK) (toks : List Str), vs = [.ref q] ∧ SqT K H q ((k.word :: toks).map V.str) ∧ toks.length = k.many ∧ (∀ z ∈ toks, wordOk z) ∧
  ∀ H', Same H H' → Q (match badOf toks with | none => V.non | some z => .str z) H'
section
variable {K : PySem.W.Frag} {σ : L2.St} {H : Hp} {ta : TA} {te : TE} {k : RK} {toks : List Str} {E : XK}
/-- what the law's try answers -/
def wrongV (toks : List Str) : V := match badOf toks with | none => V.non | some z => .str z
theorem ev_wrong (ha : Evl.EvA ta σ H ((k.word :: toks).map V.str)) (hl : toks.length = k.many) (hw : ∀ z ∈ toks, wordOk z) : Evl.Ev (tCall (spWrong K) [] E (tCons (tTup ta) tNil)) σ H (wrongV toks) := fun H1 s1 Q q =>
  (Evl.eu_tup ha (by rw [List.length_map, List.length_cons, hl]; cases k <;> decide)) H1 s1 (fun x H2 => spWrong K [x] H2 Q E) fun p H2 np s2 hp => ⟨p, k, toks, rfl, SqT.of hp, hl, hw, fun H' s' => q H' (s2.trans s')⟩
theorem ev_notN {x : V} (h : Evl.Ev te σ H x) : Evl.Ev (tNotN te) σ H (.bl (!decide (x = .non))) := fun H1 s Q q => h H1 s _ fun H2 s2 => q H2 s2
/-- != of texts -/
theorem et_neS {tb : TE} {a b : Str} {c : Bool} (h1 : Evl.Ev te σ H (.str a)) (h2 : Evl.Ev tb σ H (.str b)) (e : (!decide (a = b)) = c) : Evl.EvT (tTest (tOp rNe te tb)) σ H c :=
  Evl.et_is (Evl.et_test (Evl.ev_op h1 h2 (Evl.rv_ne rfl))) (by rw [← e]; congr 1; exact decide_eq_decide.mpr ⟨fun z => by injection z, fun z => by rw [z]⟩)
end
/-- == and str, whichever class of rules -/
theorem op_eqF {X : Cx} {CX : CXT} {Cf : RK → Addr} {k j : Nat} {ps : List Str} {sp : Sp} {E : XK} (D : ∀ c, Mm X.prog X.w X.K X.mg X.base CX (Cf c) k "__eq__" ps sp) (hr : Room j X.A) (hx : Passes CX X E) (hk : k ≤ j := by decide) : OpR X (compareOp .Eq) (fun x y H Q => ∃ c, rEqO X.K (Cf c) sp E x y H Q) := by
  intro pins s σ H x y v u Q I rx ry h
  obtain ⟨c, h⟩ := h
  exact op_eqO (D c) hr hx hk pins s σ H x y v u Q I rx ry h
theorem call_strF {X : Cx} {CX : CXT} {Cf : RK → Addr} {k j : Nat} {ps : List Str} {sp : Sp} {E : XK} (D : ∀ c, Mm X.prog X.w X.K X.mg X.base CX (Cf c) k "__str__" ps sp) (hr : Room j X.A) (hx : Passes CX X E) (hk : k + 2 ≤ j := by decide) : CallR X (.type "str") (fun xs H Q => ∃ c, rStrO (Cf c) sp E xs H Q) := by
  intro pins s σ H xs us Q I r h
  obtain ⟨c, h⟩ := h
  exact call_strO (D c) hr hx hk pins s σ H xs us Q I r h
theorem ix_tupK {X : Cx} {K : PySem.W.Frag} (h : X.K = K) : IxR X (rIxT K) := by subst h; exact ix_tup
theorem bad_1 {a : Str} (h : tokOk a = false) : badOf [a] = some a := by show (if tokOk a = true then none else some a) = _; rw [h]; rfl
theorem bad_1n {a : Str} (h : tokOk a = true) : badOf [a] = none := by show (if tokOk a = true then none else some a) = _; rw [h]; rfl
theorem bad_2a {a b : Str} (h : tokOk a = false) : badOf [a, b] = some a := by show (if tokOk a = true then _ else some a) = _; rw [h]; rfl
theorem bad_2b {a b : Str} (h : tokOk a = true) (g : tokOk b = false) : badOf [a, b] = some b := by show (if tokOk a = true then (if tokOk b = true then _ else some b) else some a) = _; rw [h, g]; rfl
theorem bad_2e {a : Str} (h : tokOk a = true) : badOf [a, a] = some a := by show (if tokOk a = true then (if tokOk a = true then (if a = a then some a else none) else some a) else some a) = _; rw [h, if_pos rfl, if_pos rfl, if_pos rfl]
theorem bad_2n {a b : Str} (h : tokOk a = true) (g : tokOk b = true) (n : a ≠ b) : badOf [a, b] = none := by show (if tokOk a = true then (if tokOk b = true then (if a = b then some a else none) else some b) else some a) = _; rw [h, g, if_pos rfl, if_pos rfl, if_neg n]
theorem wrong_s {toks : List Str} {z : Str} (h : badOf toks = some z) : wrongV toks = .str z := by unfold wrongV; rw [h]
theorem wrong_n {toks : List Str} (h : badOf toks = none) : wrongV toks = .non := by unfold wrongV; rw [h]
/-- a drawn token -/
def TokS (z : Str) : Prop := ∃ t : List Nat, z = mkS t ∧ 1 ≤ t.length ∧ t.length ≤ 4 ∧ ∀ c ∈ t, c ∈ SGN
theorem TokS.ok {z : Str} (h : TokS z) : tokOk z = true := by
  obtain ⟨t, rfl, h1, h2, h3⟩ := h
  exact tok_mk h1 h2 h3
theorem wordOk_mk {t : List Nat} (h1 : t.length ≤ 100) (h : ∀ c ∈ t, c < 1000) : wordOk (mkS t) := ⟨by rw [mkS_len]; exact h1, by rw [mkS_cps]; exact h⟩
theorem sgn_lt : ∀ c ∈ SGN, c < 1000 := by decide +kernel
theorem TokS.word {z : Str} (h : TokS z) : wordOk z := by
  obtain ⟨t, rfl, h1, h2, h3⟩ := h
  exact wordOk_mk (by omega) fun c hc => sgn_lt c (h3 c hc)
/-- a drawn rule at q -/
structure RT (H : Hp) (q : Addr) (k : RK) (toks : List Str) : Prop where
  at_ : H q = some (.tup ((k.word :: toks).map V.str))
  len : toks.length = k.many
  tok : ∀ z ∈ toks, TokS z
  nd : toks.Nodup
theorem RT.mono {H H' : Hp} {q : Addr} {k : RK} {toks : List Str} (h : RT H q k toks) (e : H' q = H q) : RT H' q k toks := ⟨e.trans h.at_, h.len, h.tok, h.nd⟩
theorem RT.off {H H' : Hp} {q b : Addr} {k : RK} {toks : List Str} {n : Nat} (h : RT H q k toks) (B : Bag H b n) (o : Off b H H') : RT H' q k toks := ⟨o q _ (fun e => by
  obtain ⟨d, m, c, hb, _⟩ := B
  rw [← e, h.at_] at hb; cases hb) h.at_, h.len, h.tok, h.nd⟩
theorem RT.same {H H' : Hp} {q : Addr} {k : RK} {toks : List Str} (h : RT H q k toks) (s : Same H H') : RT H' q k toks := ⟨s _ _ h.at_, h.len, h.tok, h.nd⟩
theorem RT.words {H : Hp} {q : Addr} {k : RK} {toks : List Str} (h : RT H q k toks) : ∀ z ∈ toks, wordOk z := fun z hz => (h.tok z hz).word
theorem RT.good {H : Hp} {q : Addr} {k : RK} {toks : List Str} (h : RT H q k toks) : badOf toks = none := by
  have hl := h.len
  have h12 : toks.length = 1 ∨ toks.length = 2 := by rw [hl]; cases k <;> simp [RK.many]
  match toks, h12, h.tok, h.nd with
  | [a], _, ht, _ => exact bad_1n (ht a (by simp)).ok
  | [a, b], _, ht, nd => exact bad_2n (ht a (by simp)).ok (ht b (by simp)).ok (by simpa using nd)
  | [], h, _, _ => exact absurd h (by decide)
  | _ :: _ :: _ :: _, h, _, _ => exact absurd h (by simp)
theorem RT.neb {H : Hp} {q b : Addr} {k : RK} {toks : List Str} {n : Nat} (h : RT H q k toks) (B : Bag H b n) : q ≠ b := fun e => by
  obtain ⟨d, m, c, hb, _⟩ := B
  rw [← e, h.at_] at hb; cases hb
/-- strings that are no tokens -/
theorem bad_tok {t : List Nat} (h : t.length = 0 ∨ 4 < t.length ∨ ∃ c ∈ t, c < 33) : tokOk (mkS t) = false := by
  cases e : tokOk (mkS t) with
  | false => rfl
  | true =>
    unfold tokOk at e
    rw [mkS_len, mkS_cps] at e
    simp only [Bool.and_eq_true, decide_eq_true_eq, List.all_eq_true] at e
    obtain ⟨⟨h1, h2⟩, h3⟩ := e
    rcases h with h | h | ⟨c, hc, h⟩
    · omega
    · omega
    · have q := h3 c hc
      unfold sgC at q
      simp only [Bool.and_eq_true, decide_eq_true_eq] at q
      omega
theorem joinL_one : ∀ t : List Nat, TL.joinL [] (t.map fun c => [c]) = t
  | [] => rfl
  | [c] => rfl
  | c :: d :: t => by
    show [c] ++ ([] ++ TL.joinL [] ((d :: t).map fun c => [c])) = _
    rw [joinL_one (d :: t)]
    rfl
theorem join_chars (t : List Nat) : Txt.join "" (t.map fun c => (⟨#[c]⟩ : Str)) = mkS t := by
  have h := TL.tl_join "" (t.map fun c => (⟨#[c]⟩ : Str))
  rw [← TL.join_eq, List.map_map] at h
  have e1 : TL.tl ("" : Str) = [] := by decide +kernel
  have e2 : (TL.tl ∘ fun c => (⟨#[c]⟩ : Str)) = fun c : Nat => [c] := rfl
  rw [e1, e2, joinL_one] at h
  have q := mkS_of (Txt.join "" (t.map fun c => (⟨#[c]⟩ : Str)))
  rw [q]
  exact congrArg mkS h
/-- a string that is no token, drawn -/
structure Odd (x : V) : Prop where
  ex : ∃ u : List Nat, x = .str (mkS u) ∧ u.length ≤ 100 ∧ (∀ c ∈ u, c < 1000) ∧ (u.length = 0 ∨ 4 < u.length ∨ ∃ c ∈ u, c < 33)
theorem odd_all {L s : List Nat} (hL : 4 < L.length ∧ L.length ≤ 10 ∧ ∀ c ∈ L, c ∈ SGN) (hs : s.length ≤ 1 ∧ ∀ c ∈ s, c ∈ SGN) : ∀ x ∈ ([V.str "", V.str (mkS L), V.str " ", V.str (mkS s ++ " "), V.str (" " ++ mkS s), V.str (mkS s ++ "\n"), V.str "\n", V.str (mkS s ++ " b"), V.str "\t", V.str (mkS s ++ "\t")] : List V), Odd x := by
  have e0 : ("" : Str) = mkS [] := by decide +kernel
  have e1 : (" " : Str) = mkS [32] := by decide +kernel
  have e2 : ("\n" : Str) = mkS [10] := by decide +kernel
  have e3 : (" b" : Str) = mkS [32, 98] := by decide +kernel
  have e4 : ("\t" : Str) = mkS [9] := by decide +kernel
  have sl : ∀ (v : List Nat) (c : Nat), (∀ d ∈ v, d < 1000) → v.length ≤ 5 → c ∈ v → c < 33 → Odd (.str (mkS (s ++ v))) := fun v c h1 h2 h3 h4 =>
    ⟨s ++ v, rfl, by rw [List.length_append]; have := hs.1; omega, fun d hd => (List.mem_append.mp hd).elim (fun z => sgn_lt d (hs.2 d z)) (h1 d), .inr (.inr ⟨c, List.mem_append_right _ h3, h4⟩)⟩
  intro x hx
  simp only [List.mem_cons, List.not_mem_nil, or_false] at hx
  rcases hx with rfl | rfl | rfl | rfl | rfl | rfl | rfl | rfl | rfl | rfl
  · exact ⟨[], by rw [e0], by decide, by simp, .inl rfl⟩
  · exact ⟨L, rfl, by have := hL.2.1; omega, fun c hc => sgn_lt c (hL.2.2 c hc), .inr (.inl hL.1)⟩
  · exact ⟨[32], by rw [e1], by decide, by decide, .inr (.inr ⟨32, by decide, by decide⟩)⟩
  · rw [e1, mkS_app]; exact sl [32] 32 (by decide) (by decide) (by decide) (by decide)
  · rw [e1, mkS_app]; exact ⟨[32] ++ s, rfl, by rw [List.length_append]; have := hs.1; show 1 + s.length ≤ 100; omega, fun d hd => (List.mem_append.mp hd).elim (fun z => by rw [List.mem_singleton.mp z]; decide) (fun z => sgn_lt d (hs.2 d z)), .inr (.inr ⟨32, List.mem_append_left _ (by decide), by decide⟩)⟩
  · rw [e2, mkS_app]; exact sl [10] 10 (by decide) (by decide) (by decide) (by decide)
  · exact ⟨[10], by rw [e2], by decide, by decide, .inr (.inr ⟨10, by decide, by decide⟩)⟩
  · rw [e3, mkS_app]; exact sl [32, 98] 32 (by decide) (by decide) (by decide) (by decide)
  · exact ⟨[9], by rw [e4], by decide, by decide, .inr (.inr ⟨9, by decide, by decide⟩)⟩
  · rw [e4, mkS_app]; exact sl [9] 9 (by decide) (by decide) (by decide) (by decide)
theorem sum_one : ∀ t : List Nat, ((t.map fun c => (⟨#[c]⟩ : Str)).map (·.length)).sum = t.length
  | [] => rfl
  | c :: t => by
    rw [List.map_cons, List.map_cons, List.sum_cons, sum_one t, List.length_cons]
    show 1 + t.length = t.length + 1
    omega
end Ss
namespace Ss
open PySem L2
section
variable {P : Program} {w : World} {K : PySem.W.Frag} {mg : Str → Option Value} {base : Heap}
abbrev sRstr : Stmt := inClass (topS 15) 3
theorem scRstr : FnScope ["self"] ["self"] (defScope sRstr) := ⟨rfl, rfl, rfl, by decide +kernel, rfl, by decide +kernel, by decide +kernel⟩
theorem ok_Rstr {f : Addr} {fd : FuncData} {Cf : RK → Addr} {R : Addr} (F : Fun K "__str__" "Rule.__str__" sRstr f fd) (Z : RTab K mg Cf R) : FnOk P w K mg base CX0 1 f fd ["self"] (spRStr Cf) := by
  refine F.ok scRstr (fun vs H Q E h => ?_) (fun cdv A outer s H vs Q E hr h => ?_)
  · obtain ⟨p, k, toks, rfl, _⟩ := h; rfl
  · obtain ⟨p, k, toks, rfl, hR, hl, hw, kk⟩ := h
    refine ⟨_, (pss_one (ps_ret (pe_bm PySem.F.plainAttrs_str PySem.F.slot_str_join PySem.F.type_str_join mt_join pe_str (pa_cons (pe_lst (pa_cons (pe_con (pv 0) rfl) (StX.pa_star (pe_fld (pv 0) rfl) pa_nil))) pa_nil)))), ?_⟩
    obtain ⟨dx, t, r, i, h1, h2, h3, h4⟩ := hR
    obtain ⟨u, cu⟩ := (Z.cl k).word
    refine ⟨rfl, _, rfl, p, Cf k, dx, _, _, u, rfl, h1, (Z.cl k).cl, cu, lk_word _ _ _, ?_⟩
    refine ⟨_, rfl, p, Cf k, dx, _, _, rfl, h1, (Z.cl k).cl, (Z.cl k).t, rfl, t, _, rfl, .inl (SqT.of h2), ?_, fun l hl1 => ?_⟩
    · show (toks.map V.str ++ []).length + 1 ≤ sizeLine
      rw [List.append_nil, List.length_map]; exact Nat.le_trans (show _ ≤ 3 by omega) (by decide)
    refine ⟨" ", l, k.word :: toks, rfl, rfl, .inl (SqL.of (by rw [List.append_nil]; exact upd_same)), ?_, kk _ (Evl.Ex.new hl1)⟩
    have q := sum_small hw
    have q2 := (RK.word_ok k).1
    have q3 : (" " : Str).length = 1 := by decide +kernel
    rw [List.map_cons, List.sum_cons, List.length_cons, q3]
    omega
abbrev sReq : Stmt := inClass (topS 15) 4
theorem scReq : FnScope ["self", "other"] ["self", "other"] (defScope sReq) := ⟨rfl, rfl, rfl, by decide +kernel, rfl, by decide +kernel, by decide +kernel⟩
theorem ok_Req {f : Addr} {fd : FuncData} {Cf : RK → Addr} {R : Addr} (F : Fun K "__eq__" "Rule.__eq__" sReq f fd) (T : G0 mg) (Z : RTab K mg Cf R) : FnOk P w K mg base CX0 1 f fd ["self", "other"] (spREq K Cf) := by
  refine F.ok scReq (fun vs H Q E h => ?_) (fun cdv A outer s H vs Q E hr h => ?_)
  · obtain ⟨p, q, k, toks, rfl, _⟩ := h; rfl
  · obtain ⟨p, q, k, toks, rfl, hR, hw, hy⟩ := h
    refine ⟨_, (pss_one (ps_ret (pe_and (pe_callB call_isi (by rfl) T.isinstance (by decide +kernel) (pa_cons (pv 1) (pa_cons (pe_glob (v := .ref R) rfl Z.gR rfl) pa_nil))) (pe_and (pe_cmpR op_eq (pe_con (pv 0) rfl) (pe_con (pv 1) rfl) (nomark _)) (pe_one (pe_cmpR (op_eqD hr.units) (pe_fld (pv 0) rfl) (pe_fld (pv 1) rfl) (nomark _))))))), ?_⟩
    rcases hy with ⟨k2, toks2, hR2, hw2, kk⟩ | ⟨xs, hq, kk⟩
    · refine Evl.s_ret (v := .bl (decide (k = k2 ∧ toks = toks2))) (Evl.ev_is (Evl.ev_andV (a := true) (b := decide (V.str k.word = V.str k2.word) && decide (toks = toks2)) (Evl.ev_cb (Evl.ea_cons (Evl.ev_var rfl) (Evl.ea_cons Evl.ev_c Evl.ea_nil)) (rc_isR Z hR2 (Z.base k2))) fun _ =>
        Evl.ev_andV (Evl.ev_op (ev_word Z hR (Evl.ev_var rfl)) (ev_word Z hR2 (Evl.ev_var rfl)) (Evl.rv_eq rfl)) fun _ => ?_) ?_) kk
      · obtain ⟨dx, t, r, i, h1, h2, h3, h4⟩ := hR
        obtain ⟨dx', t', r', i', h1', h2', h3', h4'⟩ := hR2
        exact Evl.ev_op (fun H1 s1 Q1 q1 => ⟨_, rfl, p, Cf k, dx, _, _, rfl, s1 _ _ h1, (Z.cl k).cl, (Z.cl k).t, rfl, q1 H1 (Evl.Ex.refl H1)⟩) (fun H1 s1 Q1 q1 => ⟨_, rfl, q, Cf k2, dx', _, _, rfl, s1 _ _ h1', (Z.cl k2).cl, (Z.cl k2).t, rfl, q1 H1 (Evl.Ex.refl H1)⟩)
          (rv_eqT (okS_words hw) (okS_words hw2) (SqT.of h2) (SqT.of h2'))
      · congr 1
        rw [Bool.true_and]
        by_cases e : k = k2
        · subst e
          by_cases e2 : toks = toks2
          · subst e2; simp
          · simp [e2]
        · have n : ¬ V.str k.word = V.str k2.word := fun z => e (RK.word_inj (by injection z))
          simp [e, n]
    · exact Evl.s_ret (v := .bl false) (Evl.ev_is (Evl.ev_andV (a := false) (b := false) (Evl.ev_cb (Evl.ea_cons (Evl.ev_var rfl) (Evl.ea_cons Evl.ev_c Evl.ea_nil)) (fun H1 s1 Q1 q1 => ⟨.ref q, .ref R, .type "tuple", .ref R, false, rfl, .own R, .base (.tup (s1 _ _ hq)), Z.tup, q1 H1 (Evl.Ex.refl H1)⟩)) fun z => Bool.noConfusion z) rfl) kk
end
end Ss
set_option maxHeartbeats 1000000
/-! sorted(xs, key=f), told by a word over the state -/
namespace SoG
open PySem PySem.W PySem.Calls PyProof.Rows
/-- all but what stands at c -/
theorem hide_ne {h : Heap} {c b : Addr} (ne : b ≠ c) {o : Obj} (e : h.get? b = some o) : (hideAll h [c]).get? b = some o := hideAll_get _ e fun m => ne (List.mem_singleton.mp m)
theorem hide_at {h : Heap} {c : Addr} : (hideAll h [c]).get? c = none := hideAll_none [c] (List.mem_singleton.mpr rfl)
theorem of_hide {h : Heap} {c b : Addr} {o : Obj} (e : (hideAll h [c]).get? b = some o) : h.get? b = some o := of_hideAll [c] e
section
variable {prog : Program} {w : World} {A : Around} {E : Value → Shared → Prop} {f : Value} {vals : List Value} {ds : List PyData} {R2 : PySem.Fin → Shared → Prop}
theorem keys_made {z : Shared} {a kS : Addr} {ep : Nat} (J : Nat → List Value → Shared → Prop) (j0 : J 0 [] z) (atK : z.heap.get? kS = some (seqObj "list" #[] 0)) (atA : z.heap.get? a = some (seqObj "list" #[] ep)) (dif : kS ≠ a)
    (same : ds.length = vals.length) (short : vals.length ≤ sizeLine) (aa : AllAlike ds) (so : Sortable ds) (room : ∀ d, d ∈ ds → A.units + d.depth < cLine) (few : ∀ i kl y, J i kl y → kl.length = i)
    (each : ∀ (i : Nat) (v : Value), vals[i]? = some v → ∀ (kl : List Value) (e : Nat) (y : Shared), J i kl y → y.heap.get? kS = some (seqObj "list" kl.toArray e) → y.heap.get? a = some (seqObj "list" #[] ep) →
      wpAny (model prog w) A (call f [v]) (fun r y2 => y2.heap.get? kS = some (seqObj "list" kl.toArray e) ∧ y2.heap.get? a = some (seqObj "list" #[] ep) ∧ ∀ g t, Heap.SameBut kS y2.heap g → J (i + 1) (kl ++ [r]) { y2 with heap := g, toks := t }) (fun _ _ => False) y)
    (read : ∀ kl y, J vals.length kl y → EachIs (fun v k => ∃ as, Reads y.heap v k as) kl ds)
    (after : ∀ kl (y : Shared), J vals.length kl y → ∀ g t c out, (∀ b o, b ≠ kS → b ≠ a → y.heap.get? b = some o → g.get? b = some o) → g.get? a = some (seqObj "list" (List.toArray out) c) → KeyedOut false ds vals out → R2 (.done (.ret .none)) { y with heap := g, toks := t }) :
    wpAny (model prog w) A (ksk_rest a f false vals.toArray ep (.ref kS)) R2 E z := by
  unfold ksk_rest
  refine (wpAny_bind (wpAny_rule ?loop))
  case loop =>
    first
      | rw [List.forIn_toArray]
      | (rw [← Array.forIn_toList]; simp only [List.toList_toArray])
      | rw [← Array.forIn_toList]
    refine wpAny_bind (ksk_fold (fun i y => ∃ kl e, J i kl y ∧ y.heap.get? kS = some (seqObj "list" kl.toArray e) ∧ y.heap.get? a = some (seqObj "list" #[] ep)) vals 0 z ⟨[], 0, j0, atK, atA⟩ ?one ?all)
    case one =>
      rintro j x y hx ⟨kl, e, jy, k1, a1⟩
      simp only [Nat.zero_add] at jy ⊢
      have lt : j < vals.length := (List.getElem?_eq_some_iff.mp hx).1
      have le : kl.toArray.size ≤ vals.length := by rw [List.size_toArray, few _ _ _ jy]; omega
      refine wpAny_bind (wpAny_attempt (wpAny_mono (each j x hx kl e y jy k1 a1) (fun r y2 got => ?_) fun _ _ no => no.elim))
      obtain ⟨k2, a2, nxt⟩ := got
      try dsimp only
      have sb := Heap.SameBut.update y2.heap kS (Obj.mapSeq (·.push r))
      obtain ⟨c2, e2⟩ : ∃ c2, (y2.heap.update kS (Obj.mapSeq (·.push r))).get? kS = some (seqObj "list" (kl.toArray.push r) c2) := ⟨_, get?_update_seq k2 (·.push r)⟩
      have grown : kl.toArray.push r = (kl ++ [r]).toArray := by simp
      rw [grown] at e2
      refine wpAny_bind (listUpdate_at k2 rfl ?_ (Nat.le_trans le short) (Nat.le_trans (Nat.le_of_eq (Array.size_push ..)) (Nat.succ_le_succ (Nat.le_trans le short))))
      exact wpAny_pure ⟨rfl, kl ++ [r], c2, nxt _ _ sb, e2, (sb.2 a dif.symm).trans a2⟩
    case all =>
      rintro y ⟨kl, e, jy, k1, a1⟩
      rw [Nat.zero_add] at jy
      have full := read kl y jy
      have sz : kl.toArray.size = vals.length := by rw [List.size_toArray, few _ _ _ jy]
      try dsimp only
      refine (wpAny_bind (listItems_at k1 rfl ?fin))
      case fin =>
        refine keyH_end (κ := dataKind y.heap ds) (h₁ := hideAll y.heap [kS]) (fun b o _ eo => of_hide eo) hide_at k1 a1 dif (SortsAt.data (by simpa using full) aa so room) sz short fun g t c kg ag => ?_
        refine after kl y jy g t c _ (fun b o n1 n2 eo => kg b o n2 (hide_ne n1 eo)) ag ?_
        exact ⟨y.heap, kl, aa, by simp, full⟩
theorem list_made {z : Shared} {a : Addr} {n : Nat} (J : Nat → List Value → Shared → Prop) (at_ : z.heap.get? a = some (seqObj "list" vals.toArray n)) (j0 : J 0 [] { z with heap := sortingHeap z.heap a vals })
    (same : ds.length = vals.length) (short : vals.length ≤ sizeLine) (aa : AllAlike ds) (so : Sortable ds) (room : ∀ d, d ∈ ds → A.units + d.depth < cLine) (few : ∀ i kl y, J i kl y → kl.length = i)
    (each : ∀ (ep i : Nat) (v : Value), vals[i]? = some v → ∀ (kl : List Value) (e : Nat) (y : Shared), J i kl y → y.heap.get? (z.heap.objs.size + 1) = some (seqObj "list" kl.toArray e) → y.heap.get? a = some (seqObj "list" #[] ep) →
      wpAny (model prog w) A (call f [v]) (fun r y2 => y2.heap.get? (z.heap.objs.size + 1) = some (seqObj "list" kl.toArray e) ∧ y2.heap.get? a = some (seqObj "list" #[] ep) ∧ ∀ g t, Heap.SameBut (z.heap.objs.size + 1) y2.heap g → J (i + 1) (kl ++ [r]) { y2 with heap := g, toks := t }) (fun _ _ => False) y)
    (read : ∀ kl y, J vals.length kl y → EachIs (fun v k => ∃ as, Reads y.heap v k as) kl ds)
    (after : ∀ kl (y : Shared), J vals.length kl y → ∀ g t c out, (∀ b o, b ≠ z.heap.objs.size + 1 → b ≠ a → y.heap.get? b = some o → g.get? b = some o) → g.get? a = some (seqObj "list" (List.toArray out) c) → KeyedOut false ds vals out → R2 (.done (.ret .none)) { y with heap := g, toks := t }) :
    wpAny (model prog w) A (ksk_tree a f false) R2 E z := by
  have lt : a < z.heap.objs.size := Heap.lt_size at_
  obtain ⟨ep, at1⟩ : ∃ ep, (z.heap.update a (Obj.mapSeq fun _ => (#[] : Array Value))).get? a = some (seqObj "list" #[] ep) := ⟨_, get?_update_seq at_ fun _ => #[]⟩
  have sz : ((z.heap.update a (Obj.mapSeq fun _ => (#[] : Array Value))).push (seqObj "tuple" vals.toArray 0)).objs.size = z.heap.objs.size + 1 := by rw [size_push', Heap.size_update]
  unfold ksk_tree
  refine (wpAny_bind (listItems_at at_ rfl ?s1))
  case s1 =>
    refine wpAny_bind (listUpdate_at at_ rfl ?s2 (by rw [List.size_toArray]; exact short) (Nat.zero_le _))
    case s2 =>
      refine (wpAny_bind (seqEpoch_at at1 rfl ?s3))
      case s3 =>
        refine wpAny_bind (wpAny_newTuple ?s4 (by show vals.length ≤ _; exact short))
        case s4 =>
          refine wpAny_bind (wpAny_newList ?s5 (Nat.zero_le _))
          case s5 =>
            refine wpAny_holding ?_
            have kk : ((z.heap.update a (Obj.mapSeq fun _ => (#[] : Array Value))).push (seqObj "tuple" vals.toArray 0)).objs.size = z.heap.objs.size + 1 := sz
            have g := keys_made (prog := prog) (w := w) (A := A) (E := E) (f := f) (R2 := R2) (z := { z with heap := sortingHeap z.heap a vals }) (a := a) (kS := z.heap.objs.size + 1) (ep := ep) J j0 (by rw [← kk]; exact Heap.get?_push_size _ rfl) (Heap.get?_push_of_some _ (Heap.get?_push_of_some _ at1)) (Nat.ne_of_gt (Nat.lt_succ_of_lt lt)) same short aa so room few (each ep) read after
            rw [← kk] at g
            exact g
end
end SoG
set_option maxHeartbeats 1000000
/-! sorted(e, key=f), f an own def -/
namespace Ss
open PySem PySem.Spec PyProof.Rows L2
/-- e: a list of the values xs; the def makes of each the data ds, by new tuples alone -/
def rSortBy (K : PySem.W.Frag) (sp : Sp) : List V → Hp → VK → Prop := fun vs H Q => ∃ (a : Addr) (bs : List (V × PyData)), vs = [V.ref a] ∧ SqL K H a (bs.map (·.1)) ∧ PySem.W.AllAlike (bs.map (·.2)) ∧ PySem.W.Sortable (bs.map (·.2)) ∧ (∀ b ∈ bs, b.2.depth ≤ 10) ∧
  (∀ b ∈ bs, ∀ H1, Same H H1 → ∀ Q' : VK, (∀ v H2, Same H1 H2 → Dp K H2 v b.2 → Q' v H2) → sp [b.1] H1 Q' (fun _ _ _ => False)) ∧
  ∀ p H2, H p = none → Same H H2 → H2 p = none → Q (.ref p) (upd H2 p (.lst ((bs.mergeSort (PySem.W.dataLe false (·.2))).map (·.1))))
theorem each_vals {R : Value → V × PyData → Prop} (hR : ∀ v b, R v b → RelV b.1 v) : ∀ {us : List Value} {bs : List (V × PyData)}, PySem.W.EachIs R us bs → Vals (bs.map (·.1)) us
  | _, _, .nil => .nil
  | _, _, .cons a r => .cons (hR _ _ a) (each_vals hR r)
theorem vals_each : ∀ {us : List Value} {bs : List (V × PyData)}, Vals (bs.map (·.1)) us → PySem.W.EachIs (fun v b => RelV b.1 v) us bs
  | _, [], .nil => .nil
  | _, _ :: _, .cons a r => .cons a (vals_each r)
section
variable {X : Cx} {CX : CXT}
theorem call_sortBy {k j : Nat} {f : Addr} {fd : FuncData} {ps : List Str} {sp : Sp} {pins : List (Addr × Obj)} {σ : L2.St} {H : Hp} {s : Shared} {vs : List V} {us : List Value} {Q : VK} (F : FnOk X.prog X.w X.K X.mg X.base CX0 k f fd ps sp) (hb : Binds X.K fd ps []) (hr : Room j X.A) (hk : k + 2 ≤ j)
    (I : Inv X pins σ H s) (r : Vals vs us) (h : rSortBy X.K sp vs H Q) : wpAny (model X.prog X.w) X.A (call (.builtin "sorted") us [(Str.ofString "key", .ref f)]) (EP X pins σ Q) X.xe s := by
  obtain ⟨a, bs, rfl, hsq, aa, so, hd, hsp, hq⟩ := h
  obtain ⟨u, rfl, ru⟩ := vals1 r
  obtain rfl : u = Value.ref a := ru
  obtain ⟨its, rv, hl, hz⟩ := I.list hsq
  have eb := vals_each rv
  have lb : bs.length = its.length := by rw [← List.length_map (f := (·.1)) (as := bs)]; exact rv.length
  have hz2 : its.length ≤ sizeLine := by rw [← rv.length]; exact hz
  have na : H (s.heap.objs.size + 1) = none := I.hok.fresh (Nat.le_succ _)
  have szc : (PySem.W.copyHeap s.heap its).objs.size = s.heap.objs.size + 2 := by
    unfold PySem.W.copyHeap
    rw [PyProof.Rows.size_push', Heap.size_update, PyProof.Rows.size_push']
  have nk : H (s.heap.objs.size + 2 + 1) = none := I.hok.fresh (by omega)
  refine PySem.W.sorted_of_sort hl.isList hz2 (PyProof.Rows.ksk_s1 _ _) (fun _ => PyProof.Rows.ksk_l1 _ _) fun E' => ?_
  rw [PyProof.Rows.ksk_t1]
  refine SoG.list_made (z := { s with heap := PySem.W.copyHeap s.heap its }) (a := s.heap.objs.size + 1) (vals := its) (ds := bs.map (·.2))
    (fun i kl y => ∃ H' kvs, Inv X pins σ H' y ∧ Same H H' ∧ H' (s.heap.objs.size + 1) = none ∧ H' (s.heap.objs.size + 2 + 1) = none ∧ kl.length = i ∧ Vals kvs kl ∧ DpAll X.K H' kvs ((bs.map (·.2)).take i))
    (PySem.W.copyHeap_at s.heap its) ⟨H, [], I.kept (t' := s.toks) fun b o e => PySem.W.sortingHeap_old (Nat.ne_of_lt (Nat.lt_succ_of_lt (Heap.lt_size e))) (PySem.W.copyHeap_old e), Same.refl H, na, nk, rfl, .nil, .nil⟩
    (by rw [List.length_map]; exact lb) hz2 aa so (fun d hd' => ?_) (fun i kl y h => let ⟨_, _, _, _, _, _, e, _⟩ := h; e) ?_ ?_ ?_
  · obtain ⟨b, hb', rfl⟩ := List.mem_map.mp hd'
    have h1 := hd b hb'
    have h2 := (hr.mono hk).un
    show X.A.units + 1 + 1 + b.2.depth < cLine
    omega
  · rw [szc]
    rintro ep i v hv kl e y ⟨H', kvs, I', sm, na', nk', ln, vk, dk⟩ k1 a1
    have lt : i < bs.length := by rw [lb]; exact (List.getElem?_eq_some_iff.mp hv).1
    obtain ⟨b, hbi⟩ : ∃ b, bs[i]? = some b := ⟨_, List.getElem?_eq_getElem lt⟩
    have mem := List.mem_of_getElem? hbi
    have rb : RelV b.1 v := by
      obtain ⟨v', e1, e2⟩ := rv.get (i := i) (x := b.1) (by rw [List.getElem?_map, hbi]; rfl)
      rw [hv] at e1
      cases e1
      exact e2
    have fk := I.fpOk (H' := H') (b := s.heap.objs.size + 2 + 1) (by omega) nk'
    have fa := I.fpOk (H' := H') (b := s.heap.objs.size + 1) (by omega) na'
    have stk : ∀ c, FpOk X pins H' c → c ∉ frs X.stack := fun c f m => by
      rcases List.mem_cons.mp (I'.stkSub c m) with q | q
      · exact f.2.1 q
      · exact f.2.2.1 q
    have hl1 : ([v] : List Value).length = ps.length := by
      have := F.len _ _ _ _ (hsp b mem H' sm (fun v H2 => Same H' H2 ∧ Dp X.K H2 v b.2) fun v H2 s2 d2 => ⟨s2, d2⟩)
      simpa using this
    refine wpAny_call (codeAny_mono (F.run X.A.in1.in1 X.stack y H' ⟨[v], []⟩ [v] [b.1] (fun v H2 => Same H' H2 ∧ Dp X.K H2 v b.2) (fun _ _ _ => False) ((hr.mono hk).in1.in1) I'.env0.in1.in1 (by
      have q := hb y [v] I'.kIn (by rw [List.append_nil]; exact hl1)
      rwa [List.append_nil] at q) (.cons rb .nil) (hsp b mem H' sm _ fun v H2 s2 d2 => ⟨s2, d2⟩)) fun r y2 hq2 => ?_)
    cases r with
    | error er => exact hq2.elim
    | ok fl =>
      cases fl with
      | next => exact hq2.elim
      | brk => exact hq2.elim
      | cont => exact hq2.elim
      | ret u =>
        obtain ⟨v', H2, os, bare, un, hok, rv', s2, d2⟩ := hq2
        have I2 : Inv X pins σ H2 y2 := I'.call' (ch := []) os un hok bare (fun b hb => by cases hb)
        refine ⟨un.keep _ _ k1 nk' (stk _ fk) (by simp), un.keep _ _ a1 na' (stk _ fa) (by simp), fun g t sb => ?_⟩
        have nk2 := un.free _ _ k1 nk' (by simp)
        have na2 := un.free _ _ a1 na' (by simp)
        refine ⟨H2, kvs ++ [v'], I2.turnedL (ch := [s.heap.objs.size + 2 + 1]) (fun c o hc e => (sb.2 c fun z => hc (List.mem_singleton.mpr z)).trans e) (fun c hc => by rw [List.mem_singleton.mp hc]; exact I.fpOk (by omega) nk2), sm.trans s2, na2, nk2, by rw [List.length_append, ln]; rfl, vk.append (.cons rv' .nil), ?_⟩
        have et : (bs.map (·.2)).take (i + 1) = (bs.map (·.2)).take i ++ [b.2] := by rw [List.take_add_one, List.getElem?_map, hbi]; rfl
        rw [et]
        exact DpAll.snoc (DpAll.mono s2 dk) d2
  · rintro kl y ⟨H', kvs, I', sm, na', nk', ln, vk, dk⟩
    have e3 : (bs.map (·.2)).take its.length = bs.map (·.2) := List.take_of_length_le (by rw [List.length_map, lb]; exact Nat.le_refl _)
    rw [e3] at dk
    obtain ⟨as, ra⟩ := Dp.readsAll I' _ _ _ dk vk
    exact PySem.W.readsAll_each (fun d => d) (by rw [List.map_id']; exact ra)
  · rw [szc]
    rintro kl y ⟨H', kvs, I', sm, na', nk', ln, vk, dk⟩ g t c out kg ag ko
    refine ⟨rfl, ?_⟩
    have fk := I.fpOk (H' := H') (b := s.heap.objs.size + 2 + 1) (by omega) nk'
    have fa := I.fpOk (H' := H') (b := s.heap.objs.size + 1) (by omega) na'
    have I3 : Inv X pins σ H' { y with heap := g, toks := t } := I'.turnedL (ch := [s.heap.objs.size + 2 + 1, s.heap.objs.size + 1]) (fun b o hc e => kg b o (fun z => hc (by rw [z]; exact List.mem_cons_self)) (fun z => hc (by rw [z]; exact List.mem_cons_of_mem _ List.mem_cons_self)) e) (fun b hc => by
      rcases List.mem_cons.mp hc with rfl | hc
      · exact fk
      · rw [List.mem_singleton.mp hc]; exact fa)
    have eo := PySem.W.keyedOut_each (·.2) ko eb
    have vo := each_vals (fun _ _ h => h) eo
    have I4 := I3.take (it := s.heap.objs.size + 1) (h' := g) (t' := t) (o := .lst ((bs.mergeSort (PySem.W.dataLe false (·.2))).map (·.1))) (fun b o _ e => e) fa ⟨by rw [List.length_map, List.length_mergeSort, lb]; exact hz2, out, c, vo, ag⟩
    exact ⟨.ref (s.heap.objs.size + 1), _, I4, rfl, hq _ _ na sm na'⟩
/-- sorted(e, key=f), f a def of the module -/
theorem pe_sortedBy {k j : Nat} {x y : Str} {ps : List Str} {sp : Sp} {e : Expr} {t : TA} {p pos q kp : Pos} (D : Dk X.prog X.w X.K X.mg X.base CX0 k y ps sp) (hr : Room j X.A) (hs : x = "sorted") (gs : Gl X x) (ms : X.mg x = none) (gl : Gl X y) (ha : PA X [e] t) (hk : k + 2 ≤ j := by decide) (hdb : (y == ("__debug__" : Str)) = false := by decide)
    (he : backTo pos (starEach [e] X.env) = (false, eval e X.env) :: backTo pos (starEach [] X.env) := by rfl) (hpl : (backTo pos (starEach [e] X.env)).any (·.1) = false := by rfl) :
    PE X (.Call (.Name x p) [e] [⟨some "key", .Name y q, kp⟩] pos) (tCB (rSortBy X.K sp) t) := by
  obtain ⟨f, fd, F, mf, kf, hb⟩ := D.ex
  subst hs
  refine ⟨fun pins s σ H Q I h => ?_⟩
  refine wpAny_Call_Name_kw (ld_blt I gs ms boot_sorted ?_)
  refine callWith_kw (thn (ha.run pos pins s σ H _ I h) fun us s1 ⟨vs, H1, I1, r1, q1⟩ => ?_) he hpl
  refine kws_cons (ld_glob I1 gl mf (kws_nil ?_) hdb)
  exact call_sortBy F hb hr hk I1 r1 q1
end
end Ss
namespace Ss
open PySem PySem.Spec L2 PyProof.Rows
/-! ### x, *rest = a list -/
section
variable {prog : Program} {w : World} {A : Around} {E : Value → Shared → Prop} {s : Shared}
theorem shiftS {I : Addr} {fp wr : List Addr} {G : Array GenState → Array GenState → Prop} {n : Nat} {P : Nat → Value → Prop} {St : Nat → Shared → Prop} (W : WalksS prog w A I fp wr G (n + 1) P St) :
    WalksS prog w A I fp wr G n (fun i v => P (i + 1) v) (fun i s => St (i + 1) s) where
  sub := W.sub
  grefl := W.grefl
  gtrans := W.gtrans
  frame := fun i => W.frame (i + 1)
  item := fun i s Q E hi => W.item (i + 1) s Q E (by omega)
  done := W.done
  self := fun i => W.self (i + 1)
theorem items_eq {x : Value} {xs : List Value} {acc : Array Value} (h : ItemsOf (fun i v => (x :: xs)[i + 1]? = some v) acc xs.length) : acc.toList = xs := by
  refine List.ext_getElem? fun i => ?_
  rw [Array.getElem?_toList]
  by_cases hi : i < acc.size
  · have e := h.2 i acc[i] (by simp [hi])
    rw [Array.getElem?_eq_getElem hi, ← e]
    simp
  · rw [Array.getElem?_eq_none (by omega), List.getElem?_eq_none (by have := h.1; omega)]
theorem unpackItems_star {l : Addr} {x : Value} {xs : List Value} {Q : List Value → Shared → Prop} (hh : A.handled = none) (hl : s.heap.IsList l (x :: xs).toArray) (hz : xs.length ≤ sizeLine)
    (hQ : ∀ (h' : Heap) (tk : Nat), (∀ b o, s.heap.get? b = some o → h'.get? b = some o) → s.toks ≤ tk → Q [x, .ref h'.objs.size] { s with heap := h'.push (seqObj "list" xs.toArray 0), toks := tk }) : wpAny (model prog w) A (unpackItems (.ref l) 2 (some 1)) Q E s := by
  have hlt : l ≠ s.heap.objs.size := by obtain ⟨o, ho, _⟩ := hl; exact Nat.ne_of_lt (Heap.lt_size ho)
  unfold unpackItems
  refine wpAny_bind ?_
  unfold notIterableAtAll
  refine wpAny_bind (wpAny_specialOf hl.typeIs slot_list_iter.lookup ?_)
  refine wpAny_pure ?_
  simp only [Bool.false_eq_true, if_false]
  refine wpAny_bind (wpAny_holding (wpAny_pyIter_list hl ?_))
  refine wpAny_bind (wpAny_holding (PySem.W.kun_draw hlt 1 0 _ _ ⟨_, Heap.get?_push_size _ rfl, rfl, rfl⟩ (hl.push _) (by simp) fun h₁ hit₁ hs₁ => ?_))
  have hl₁ : h₁.IsList l (x :: xs).toArray := (hl.push _).extBut hs₁.extBut hlt
  have hk1 : ∀ b o, s.heap.get? b = some o → h₁.get? b = some o := fun b o e => hs₁.extBut b o (Nat.ne_of_lt (Heap.lt_size e)) (Heap.get?_push_of_some _ e)
  rw [if_neg (by simp)]
  have W := shiftS (n := xs.length) (by have q := (Walks.list (prog := prog) (w := w) (A := A.in1) hh s.heap.objs.size l hlt (x :: xs).toArray).toS; simpa using q)
  refine wpAny_bind (wpAny_holding (wpAny_collect_iter (s := { s with heap := h₁ }) (T := "list_iterator") (.inr (.inr (.inl rfl))) W (fun i s' h => Heap.IsListIter.typeIs h.1) ⟨hit₁, hl₁⟩ (fun b hb => ?_) (List.mem_cons_self) (fun s' acc mv hacc => ?_) hz))
  · rcases List.mem_cons.mp hb with e | hb
    · subst e
      obtain ⟨o, ho, _⟩ := hit₁
      exact Heap.lt_size ho
    · obtain rfl := List.mem_singleton.mp hb
      obtain ⟨o, ho, _⟩ := hl₁
      exact Heap.lt_size ho
  · rw [items_eq hacc]
    simp only [Nat.sub_self, Nat.not_lt_zero, if_false, List.length_cons, Nat.sub_zero, List.take_length, List.drop_length, List.append_nil]
    refine wpAny_bind (wpAny_newList ?_ hz)
    refine wpAny_pure ?_
    rw [Moved.eq_with mv]
    refine hQ s'.heap s'.toks (fun b o e => ?_) ?_
    · refine mv.heap b o (fun hm => ?_) (hk1 b o e)
      obtain rfl := List.mem_singleton.mp hm
      exact absurd (Heap.lt_size e) (Nat.lt_irrefl _)
    · exact mv.toks
end
section
variable {X : Cx} {pos p : Pos}
/-- x, *rest = a list of one or more -/
def gStar1 (K : PySem.W.Frag) (t : TGs) : TG := fun v σ H Q => ∃ a x xs, v = .ref a ∧ SqL K H a (x :: xs) ∧ ∀ q, H q = none → t [x, .ref q] σ (upd H q (.lst xs)) Q
theorem pg_star1 {e1 e2 : Expr} {k : Nat} {t : TGs} (hc : X.calm = true) (h : PGs X [e1, e2] t) (hs : assignEach [e1, .Starred e2 p] X.env = [(false, assign e1 X.env), (true, assign e2 X.env)] := by rfl)
    (h2 : (assignEach [e1, e2] X.env).map (·.2) = [assign e1 X.env, assign e2 X.env] := by rfl) : PG X (.Tuple [e1, .Starred e2 p] k pos) (gStar1 X.K t) := by
  refine ⟨fun pins s σ H v u Q I r hw => ?_⟩
  obtain ⟨a, x, xs, e1', hq, hw⟩ := hw
  subst e1'
  cases r
  obtain ⟨its, rv, pl, hz⟩ := I.list hq
  cases rv with
  | cons rx rxs =>
    rename_i y ys
    rw [PyProof.Rows.assign_Tuple]
    refine wpAny_bind (wpAny_standAt ?_)
    unfold unpack
    rw [hs]
    refine wpAny_bind (wpAny_holding (unpackItems_star (I.ok.hd hc) pl.isList (by rw [← rxs.length]; simp at hz; omega) fun h' tk hk ht => ?_))
    have I1 : Inv X pins σ H { s with heap := h', toks := tk } := I.kept (t' := tk) hk
    have hp := I1.hok.fresh (Nat.le_refl _)
    have I2 : Inv X pins σ (upd H h'.objs.size (.lst xs)) { s with heap := h'.push (seqObj "list" ys.toArray 0), toks := tk } :=
      I1.laid (fun b u q => Heap.get?_push_of_some _ q) (Nat.le_refl _) ⟨by simp at hz; omega, ys, 0, rxs, Heap.get?_push_size _ rfl⟩
    have q := h.run pins _ σ _ [x, .ref h'.objs.size] [y, .ref h'.objs.size] Q I2 (.cons rx (.cons rfl .nil)) (hw _ hp)
    rw [h2] at q
    exact q
end
end Ss
namespace Ss
open PySem L2 PyProof.Rows
/-! ### the text of a rule, read back -/
/-- the rule of a word and its tokens -/
def kindOf (w : Str) (toks : List Str) : Option RK :=
  if toks.all tokOk = true then
    match toks with
    | [_] => if w = "out" then some .out else if w = "twice" then some .twice else none
    | [a, b] => if a = b then none else if w = "swapped" then some .swapped else if w = "taken" then some .taken else none
    | _ => none
  else none
def readOf (z : Str) : Option (RK × List Str) := match Txt.split z " " with
  | [] => none
  | w :: toks => (kindOf w toks).map fun k => (k, toks)
theorem kind_some {w : Str} {toks : List Str} {k : RK} (h : kindOf w toks = some k) : w = k.word ∧ toks.length = k.many ∧ badOf toks = none ∧ (∀ z ∈ toks, tokOk z = true) := by
  unfold kindOf at h
  split at h
  · rename_i ha
    have ha := List.all_eq_true.mp ha
    match toks, h, ha with
    | [a], h, ha =>
      dsimp only at h
      split at h
      · rename_i e; cases h; exact ⟨e, rfl, bad_1n (ha a (by simp)), ha⟩
      · split at h
        · rename_i e; cases h; exact ⟨e, rfl, bad_1n (ha a (by simp)), ha⟩
        · cases h
    | [a, b], h, ha =>
      dsimp only at h
      split at h
      · cases h
      · rename_i n
        split at h
        · rename_i e; cases h; exact ⟨e, rfl, bad_2n (ha a (by simp)) (ha b (by simp)) n, ha⟩
        · split at h
          · rename_i e; cases h; exact ⟨e, rfl, bad_2n (ha a (by simp)) (ha b (by simp)) n, ha⟩
          · cases h
    | [], h, _ => cases h
    | _ :: _ :: _ :: _, h, _ => cases h
  · cases h
theorem kind_of {k : RK} {toks : List Str} (hl : toks.length = k.many) (ht : ∀ z ∈ toks, tokOk z = true) (nd : toks.Nodup) : kindOf k.word toks = some k := by
  unfold kindOf
  rw [if_pos (List.all_eq_true.mpr ht)]
  match k, toks, hl, nd with
  | .out, [a], _, _ => rfl
  | .twice, [a], _, _ => show (if RK.word .twice = "out" then _ else _) = _; rw [if_neg (by decide +kernel)]; rfl
  | .swapped, [a, b], _, nd => show (if a = b then none else _) = _; rw [if_neg (by simpa using nd)]; rfl
  | .taken, [a, b], _, nd => show (if a = b then none else if RK.word .taken = "swapped" then _ else _) = _; rw [if_neg (by simpa using nd), if_neg (by decide +kernel)]; rfl
theorem split_ne (z : Str) : Txt.split z " " ≠ [] := fun e => by
  have h := congrArg List.length (TL.split_spl z " " (by decide +kernel) (TL.kind_ok (by decide +kernel)))
  rw [List.length_map, e] at h
  have q : ∀ (L acc : List Nat), TL.spl (TL.tl " ") 0 acc L ≠ [] := by
    intro L
    induction L with
    | nil => intro acc; rw [TL.spl_nil]; simp
    | cons c r ih =>
      intro acc
      cases hp : TL.pre (TL.tl " ") (c :: r) with
      | true => rw [TL.spl_hit hp]; simp
      | false => rw [TL.spl_miss hp]; exact ih _
  exact q _ _ (List.length_eq_zero_iff.mp h.symm)
theorem read_some {z : Str} {k : RK} {toks : List Str} (h : readOf z = some (k, toks)) : Txt.split z " " = k.word :: toks ∧ toks.length = k.many ∧ badOf toks = none ∧ strR k toks = z := by
  unfold readOf at h
  split at h
  · cases h
  · rename_i w ts e
    rw [Option.map_eq_some_iff] at h
    obtain ⟨k', h1, h2⟩ := h
    cases h2
    obtain ⟨e1, e2, e3, _⟩ := kind_some h1
    subst e1
    refine ⟨e, e2, e3, ?_⟩
    unfold strR
    rw [← e, TL.join_eq]
    exact StrLaws.join_split z " "
theorem read_split {z w : Str} {toks : List Str} (h : Txt.split z " " = w :: toks) : readOf z = (kindOf w toks).map fun k => (k, toks) := by
  unfold readOf; rw [h]
theorem tok_no32 {z : Str} (h : tokOk z = true) : 32 ∉ TL.tl z := fun m => by
  unfold tokOk at h
  simp only [Bool.and_eq_true, List.all_eq_true] at h
  exact absurd (h.2 32 m) (by decide)
theorem word_no32 (k : RK) : 32 ∉ TL.tl k.word := by cases k <;> decide +kernel
theorem split_strR {k : RK} {toks : List Str} (ht : ∀ z ∈ toks, tokOk z = true) : Txt.split (strR k toks) " " = k.word :: toks := by
  refine TL.split_join (s := 32) (S := []) (by decide +kernel) (by decide +kernel) (by simp) fun p hp => ?_
  rcases List.mem_cons.mp hp with rfl | hp
  · exact word_no32 k
  · exact tok_no32 (ht p hp)
theorem read_join {k : RK} {toks : List Str} (hl : toks.length = k.many) (ht : ∀ z ∈ toks, tokOk z = true) (nd : toks.Nodup) : readOf (strR k toks) = some (k, toks) := by
  rw [read_split (split_strR ht), kind_of hl ht nd]; rfl
/-! ### small texts -/
/-- a text of at most n plain signs -/
def TX (n : Nat) (z : Str) : Prop := ∃ u : List Nat, z = mkS u ∧ u.length ≤ n ∧ ∀ c ∈ u, c < 128
theorem TX.mono {n m : Nat} {z : Str} (h : TX n z) (e : n ≤ m) : TX m z := let ⟨u, a, b, c⟩ := h; ⟨u, a, Nat.le_trans b e, c⟩
theorem TX.cat {n m : Nat} {a b : Str} (h : TX n a) (g : TX m b) : TX (n + m) (a ++ b) := by
  obtain ⟨u, rfl, h1, h2⟩ := h
  obtain ⟨v, rfl, g1, g2⟩ := g
  refine ⟨u ++ v, mkS_app u v, by rw [List.length_append]; omega, fun c hc => ?_⟩
  rcases List.mem_append.mp hc with q | q
  · exact h2 c q
  · exact g2 c q
theorem TX.lit {n : Nat} {z : Str} (h : (decide (z.length ≤ n) && z.cps.toList.all fun c => decide (c < 128)) = true) : TX n z := by
  simp only [Bool.and_eq_true, decide_eq_true_eq, List.all_eq_true] at h
  refine ⟨z.cps.toList, mkS_of z, ?_, h.2⟩
  have q := mkS_len z.cps.toList
  rw [← mkS_of z] at q
  omega
theorem TX.word {z : Str} (h : TX 100 z) : wordOk z := by
  obtain ⟨u, rfl, h1, h2⟩ := h
  exact wordOk_mk h1 fun c hc => Nat.lt_trans (h2 c hc) (by decide)
theorem TX.len {n : Nat} {z : Str} (h : TX n z) : z.length ≤ n := by
  obtain ⟨u, rfl, h1, _⟩ := h
  rw [mkS_len]; exact h1
theorem TokS.tx {z : Str} (h : TokS z) : TX 4 z := by
  obtain ⟨t, rfl, _, h2, h3⟩ := h
  exact ⟨t, rfl, h2, fun c hc => (show ∀ d ∈ SGN, d < 128 from by decide +kernel) c (h3 c hc)⟩
theorem RK.tx (k : RK) : TX 7 k.word := TX.lit (by cases k <;> decide +kernel)
theorem joinL_tx {n : Nat} : ∀ {ws : List (List Nat)}, (∀ u ∈ ws, u.length ≤ n ∧ ∀ c ∈ u, c < 128) → (TL.joinL [32] ws).length ≤ ws.length * (n + 1) ∧ ∀ c ∈ TL.joinL [32] ws, c < 128
  | [], _ => ⟨Nat.zero_le _, fun c hc => by cases hc⟩
  | [u], h => by
    have q := h u (by simp)
    refine ⟨?_, q.2⟩
    show u.length ≤ 1 * (n + 1)
    omega
  | u :: v :: r, h => by
    have q := h u (by simp)
    have ih := joinL_tx (ws := v :: r) fun x hx => h x (List.mem_cons_of_mem _ hx)
    have e : TL.joinL [32] (u :: v :: r) = u ++ ([32] ++ TL.joinL [32] (v :: r)) := rfl
    rw [e]
    refine ⟨?_, fun c hc => ?_⟩
    · rw [List.length_append, List.length_append, List.length_cons (a := u), Nat.add_mul (v :: r).length]
      have := ih.1
      show u.length + (1 + _) ≤ _
      omega
    · rcases List.mem_append.mp hc with m | m
      · exact q.2 c m
      · rcases List.mem_append.mp m with m | m
        · rw [List.mem_singleton.mp m]; decide
        · exact ih.2 c m
theorem TX.join {n m : Nat} {ws : List Str} (h : ∀ z ∈ ws, TX n z) (hm : ws.length * (n + 1) ≤ m) : TX m (Txt.join " " ws) := by
  have e := TL.tl_join " " ws
  rw [← TL.join_eq] at e
  have e1 : TL.tl " " = [32] := by decide +kernel
  rw [e1] at e
  have q := joinL_tx (n := n) (ws := ws.map TL.tl) fun u hu => by
    obtain ⟨z, hz, rfl⟩ := List.mem_map.mp hu
    obtain ⟨v, rfl, h1, h2⟩ := h z hz
    have e2 : TL.tl (mkS v) = v := mkS_cps v
    rw [e2]; exact ⟨h1, h2⟩
  rw [List.length_map] at q
  refine ⟨TL.tl (Txt.join " " ws), mkS_of _, ?_, ?_⟩
  · rw [e]; exact Nat.le_trans q.1 hm
  · rw [e]; exact q.2
theorem repl_one (a : Nat) (ys : List Nat) : ∀ L : List Nat, PySem.StrLaws.replL [a] ys L = L.flatMap fun c => if c = a then ys else [c]
  | [] => PySem.StrLaws.replL_nil
  | c :: r => by
    rw [List.flatMap_cons, ← repl_one a ys r]
    by_cases h : c = a
    · subst h
      rw [if_pos rfl, PySem.StrLaws.replL_hit (by simp) rfl]
      rfl
    · rw [if_neg h, PySem.StrLaws.replL_miss (by show ¬ (c :: r).take 1 = [a]; simpa using h)]
      rfl
theorem flat_len {a : Nat} {ys : List Nat} {n : Nat} (h1 : 1 ≤ n) (h : ys.length ≤ n) : ∀ L : List Nat, (L.flatMap fun c => if c = a then ys else [c]).length ≤ n * L.length
  | [] => Nat.zero_le _
  | c :: r => by
    rw [List.flatMap_cons, List.length_append, List.length_cons, Nat.mul_add]
    have := flat_len (a := a) h1 h r
    split
    · omega
    · simp only [List.length_cons, List.length_nil]; omega
theorem TX.repl {n k a : Nat} {z y x : Str} {ys : List Nat} (h : TX n z) (hy : y = mkS [a]) (hx : x = mkS ys) (h1 : 1 ≤ k) (hk : ys.length ≤ k) (hc : ∀ c ∈ ys, c < 128) : TX (k * n) (Txt.replace z y x) := by
  obtain ⟨u, rfl, h1', h2⟩ := h
  subst hy; subst hx
  have e := PySem.StrLaws.replace_list (x := mkS u) (y := mkS [a]) (z := mkS ys) (by rw [mkS_len]; exact Nat.le_refl 1)
  rw [mkS_cps, mkS_cps, mkS_cps, repl_one] at e
  refine ⟨_, mkS_of _, ?_, ?_⟩
  · rw [e]; exact Nat.le_trans (flat_len h1 hk u) (Nat.mul_le_mul_left k h1')
  · rw [e]
    intro c hc2
    obtain ⟨d, hd, hm⟩ := List.mem_flatMap.mp hc2
    split at hm
    · exact hc c hm
    · rw [List.mem_singleton.mp hm]; exact h2 d hd
theorem TX.upper {n : Nat} {z : Str} (h : TX n z) : TX n (Txt.upper z) := by
  obtain ⟨u, rfl, h1, h2⟩ := h
  have e : Txt.upper (mkS u) = mkS (u.map PyProof.Rows.up1) := SX.upper_S (List.all_eq_true.mpr fun c hc => decide_eq_true (h2 c hc))
  refine ⟨_, e, by rw [List.length_map]; exact h1, fun c hc => ?_⟩
  obtain ⟨d, hd, rfl⟩ := List.mem_map.mp hc
  have q : ∀ d, d < 128 → PyProof.Rows.up1 d < 128 := by decide +kernel
  exact q d (h2 d hd)
theorem spl_sub : ∀ (L acc : List Nat), ∀ p ∈ TL.spl [32] 0 acc L, p.length ≤ acc.length + L.length ∧ ∀ c ∈ p, c ∈ acc ∨ c ∈ L
  | [], acc, p, hp => by
    rw [TL.spl_nil] at hp
    rw [List.mem_singleton.mp hp]
    exact ⟨Nat.le_add_right _ _, fun c hc => .inl hc⟩
  | c :: r, acc, p, hp => by
    cases hh : TL.pre [32] (c :: r) with
    | true =>
      rw [TL.spl_hit hh] at hp
      rcases List.mem_cons.mp hp with rfl | hp
      · exact ⟨Nat.le_add_right _ _, fun c hc => .inl hc⟩
      · obtain ⟨h1, h2⟩ := spl_sub r [] p hp
        exact ⟨by rw [List.length_cons]; simp at h1; omega, fun d hd => .inr (List.mem_cons_of_mem _ ((h2 d hd).resolve_left (by simp)))⟩
    | false =>
      rw [TL.spl_miss hh] at hp
      obtain ⟨h1, h2⟩ := spl_sub r (acc ++ [c]) p hp
      refine ⟨by rw [List.length_append] at h1; simp at h1 ⊢; omega, fun d hd => ?_⟩
      rcases h2 d hd with q | q
      · rcases List.mem_append.mp q with q | q
        · exact .inl q
        · exact .inr (by rw [List.mem_singleton.mp q]; exact List.mem_cons_self)
      · exact .inr (List.mem_cons_of_mem _ q)
theorem TX.parts {n : Nat} {z : Str} (h : TX n z) : ∀ p ∈ Txt.split z " ", TX n p := fun p hp => by
  obtain ⟨u, rfl, h1, h2⟩ := h
  have e := TL.split_spl (mkS u) " " (by decide +kernel) (TL.kind_ok (by decide +kernel))
  have e1 : TL.tl " " = [32] := by decide +kernel
  have e2 : TL.tl (mkS u) = u := mkS_cps u
  rw [e1, e2] at e
  have m : TL.tl p ∈ TL.spl [32] 0 [] u := by rw [← e]; exact List.mem_map_of_mem hp
  obtain ⟨g1, g2⟩ := spl_sub u [] _ m
  exact ⟨TL.tl p, mkS_of p, by have g1 : (TL.tl p).length ≤ 0 + u.length := g1; show (TL.tl p).length ≤ n; omega, fun c hc => h2 c ((g2 c hc).resolve_left (by simp))⟩
theorem split_small {z : Str} {n : Nat} (h : TX n z) : (Txt.split z " ").length ≤ n + 2 := Nat.le_trans (split_le z " ") (by have := h.len; omega)
theorem given_list {α : Type} (l : List α) (v : Nat → V) (g : α → V) (h : ∀ i x, l[i]? = some x → v i = g x) : Evl.given l.length (fun _ => true) v = l.map g := by
  unfold Evl.given
  rw [List.filter_eq_self.mpr (fun _ _ => rfl)]
  refine List.ext_getElem? fun i => ?_
  rw [List.getElem?_map, List.getElem?_map]
  cases e : l[i]? with
  | none => rw [List.getElem?_eq_none (by rw [List.length_range]; exact List.getElem?_eq_none_iff.mp e)]; rfl
  | some x =>
    have hi := (List.getElem?_eq_some_iff.mp e).1
    rw [List.getElem?_range hi]
    exact congrArg some (h i x e)
theorem given_filter (l : List Nat) (f : Nat → Bool) (v : Nat → V) : Evl.given l.length (fun i => f (l.getD i 0)) (fun i => v (l.getD i 0)) = (l.filter f).map v := by
  have e : (List.range l.length).map (fun i => l.getD i 0) = l := by
    refine List.ext_getElem? fun i => ?_
    rw [List.getElem?_map]
    by_cases h : i < l.length
    · rw [List.getElem?_range h, List.getElem?_eq_getElem h]
      show some (l.getD i 0) = _
      rw [List.getD_eq_getElem?_getD, List.getElem?_eq_getElem h]; rfl
    · rw [List.getElem?_eq_none (by rw [List.length_range]; omega), List.getElem?_eq_none (by omega)]; rfl
  have q : ((List.range l.length).map (fun i => l.getD i 0)).filter f = l.filter f := by rw [e]
  rw [← q, List.filter_map, List.map_map]
  rfl
/-- [e for c in a text if ..] -/
theorem el_lcStr {σ : L2.St} {H : Hp} {tl te : TE} {t : TT} {j : Nat} {vs : List Nat} {z : Str} (f : Nat → Bool) (v : Nat → V) (h : Evl.Ev tl σ H (.str z)) (hz : z.length ≤ 40000) (hw : ∀ x, wipe ((wipe σ vs).set j (some x)) vs = wipe σ vs)
    (ht : ∀ (c : Nat) H1, Same H H1 → c ∈ z.cps.toList → Evl.EvT t ((wipe σ vs).set j (some (.str ⟨#[c]⟩))) H1 (f c)) (he : ∀ (c : Nat) H1, Same H H1 → f c = true → Evl.Ev te ((wipe σ vs).set j (some (.str ⟨#[c]⟩))) H1 (v c)) :
    Evl.EvL (tLc (iStr tl) (gName j) t te vs) σ H ((z.cps.toList.filter f).map v) := fun H0 e Q q => h H0 e _ fun H1 e1 => by
  have hs : z.cps.size = z.length := rfl
  rw [← given_filter] at q
  rw [Array.length_toList] at q
  refine ⟨z, rfl, fun Dl hD => lc_it (walk_str (z := z)) (Evl.Cw H1 (fun i => f (z.cps.toList.getD i 0)) (fun i => v (z.cps.toList.getD i 0)) Dl) ⟨hD, Evl.Ex.new hD, upd_same⟩ (fun _ _ _ _ => trivial) (fun i x H' H2 hi p y => ?_) (fun H' p => q Dl H' (Evl.fresh_back e1 p.1) (e1.trans p.2.1) p.2.2)⟩
  obtain ⟨rfl, c, hc, rfl⟩ := y
  have hc' : z.cps.toList[i]? = some c := by rw [Array.getElem?_toList]; exact hc
  have ec : z.cps.toList.getD i 0 = c := by rw [List.getD_eq_getElem?_getD, hc']; rfl
  refine ⟨hw _, Evl.cw_turn p (by omega) ?_ (fun hf => ?_)⟩
  · show Evl.EvT _ _ _ (f (z.cps.toList.getD i 0))
    rw [ec]
    exact ht c H1 (e.trans e1) (List.mem_of_getElem? hc')
  · show Evl.Ev _ _ _ (v (z.cps.toList.getD i 0))
    have hf : f (z.cps.toList.getD i 0) = true := hf
    rw [ec] at hf ⊢
    exact he c H1 (e.trans e1) hf
/-! ### what the law wants of a word -/
def wantN (w : Str) : Option Nat := if w = "out" then some 2 else if w = "twice" then some 2 else if w = "swapped" then some 3 else if w = "taken" then some 3 else none
def WK0 : List (Key × V) := [(.inr "out", .int 2), (.inr "twice", .int 2), (.inr "swapped", .int 3), (.inr "taken", .int 3)]
theorem want_val (w : Str) : valV (mergeK [] WK0) (.inr w) = (wantN w).map fun n : Nat => V.int n := by
  have e : mergeK [] WK0 = WK0 := by
    have e1 : putK ([] : List (Key × V)) (.inr "out") (.int 2) = [(.inr "out", .int 2)] := putK_new _ (valV_nil (κ := Key))
    have e2 : putK ([(.inr "out", .int 2)] : List (Key × V)) (.inr "twice") (.int 2) = [(.inr "out", .int 2), (.inr "twice", .int 2)] := putK_new _ (by rw [valV_neg (by decide +kernel), valV_nil])
    have e3 : putK ([(.inr "out", .int 2), (.inr "twice", .int 2)] : List (Key × V)) (.inr "swapped") (.int 3) = [(.inr "out", .int 2), (.inr "twice", .int 2), (.inr "swapped", .int 3)] := putK_new _ (by rw [valV_neg (by decide +kernel), valV_neg (by decide +kernel), valV_nil])
    have e4 : putK ([(.inr "out", .int 2), (.inr "twice", .int 2), (.inr "swapped", .int 3)] : List (Key × V)) (.inr "taken") (.int 3) = [(.inr "out", .int 2), (.inr "twice", .int 2), (.inr "swapped", .int 3), (.inr "taken", .int 3)] := putK_new _ (by rw [valV_neg (by decide +kernel), valV_neg (by decide +kernel), valV_neg (by decide +kernel), valV_nil])
    show putK (putK (putK (putK ([] : List (Key × V)) (.inr "out") (.int 2)) (.inr "twice") (.int 2)) (.inr "swapped") (.int 3)) (.inr "taken") (.int 3) = _
    rw [e1, e2, e3, e4]
    rfl
  rw [e]
  unfold WK0 wantN
  have ne : ∀ {a : Str} {v : V}, ¬ w = a → ¬ ((Sum.inr a, v) : Key × V).1 = (Sum.inr w : Key) := fun {a v} h z => h (by have z : (Sum.inr a : Key) = Sum.inr w := z; injection z with z; exact z.symm)
  by_cases h1 : w = "out"
  · rw [if_pos h1, h1, valV_pos (κ := Key) rfl]; rfl
  rw [if_neg h1, valV_neg (ne h1)]
  by_cases h2 : w = "twice"
  · rw [if_pos h2, h2, valV_pos (κ := Key) rfl]; rfl
  rw [if_neg h2, valV_neg (ne h2)]
  by_cases h3 : w = "swapped"
  · rw [if_pos h3, h3, valV_pos (κ := Key) rfl]; rfl
  rw [if_neg h3, valV_neg (ne h3)]
  by_cases h4 : w = "taken"
  · rw [if_pos h4, h4, valV_pos (κ := Key) rfl]; rfl
  rw [if_neg h4, valV_neg (ne h4), valV_nil]; rfl
theorem want_kind (k : RK) : wantN k.word = some (k.many + 1) := by cases k <;> rfl
theorem want_no {w : Str} {toks : List Str} (h : wantN w ≠ some (toks.length + 1)) : kindOf w toks = none := by
  cases e : kindOf w toks with
  | none => rfl
  | some k =>
    obtain ⟨e1, e2, _⟩ := kind_some e
    rw [e1, e2] at h
    exact absurd (want_kind k) h
theorem want_bad {w : Str} {toks : List Str} {y : Str} (hy : y ∈ toks) (h : tokOk y = false) : kindOf w toks = none := by
  cases e : kindOf w toks with
  | none => rfl
  | some k =>
    have q := (kind_some e).2.2.2 y hy
    rw [h] at q; cases q
theorem want_yes {w : Str} {toks : List Str} (h : wantN w = some (toks.length + 1)) (ha : ∀ y ∈ toks, tokOk y = true) : (∃ a k, toks = [a] ∧ kindOf w toks = some k) ∨ (∃ a b, toks = [a, b] ∧ ((a = b ∧ kindOf w toks = none) ∨ (a ≠ b ∧ ∃ k, kindOf w toks = some k))) := by
  have fin : ∀ k : RK, w = k.word → toks.length = k.many → toks.Nodup → kindOf w toks = some k := fun k e1 e2 nd => by rw [e1]; exact kind_of e2 ha nd
  unfold wantN at h
  have one : ∀ k : RK, w = k.word → k.many = 1 → toks.length + 1 = 2 → ∃ a k, toks = [a] ∧ kindOf w toks = some k := fun k e e1 e2 => by
    obtain ⟨a, rfl⟩ := List.length_eq_one_iff.mp (show toks.length = 1 by omega)
    exact ⟨a, k, rfl, fin k e (by rw [e1]; rfl) (by simp)⟩
  have two : ∀ k : RK, w = k.word → k.many = 2 → toks.length + 1 = 3 → ∃ a b, toks = [a, b] ∧ ((a = b ∧ kindOf w toks = none) ∨ (a ≠ b ∧ ∃ k, kindOf w toks = some k)) := fun k e e1 e2 => by
    match toks, e2, fin with
    | [a, b], _, fin =>
      refine ⟨a, b, rfl, ?_⟩
      by_cases q : a = b
      · refine .inl ⟨q, ?_⟩
        unfold kindOf
        split
        · show (if a = b then none else _) = _
          rw [if_pos q]
        · rfl
      · exact .inr ⟨q, k, fin k e (by rw [e1]; rfl) (by simpa using q)⟩
  split at h
  · rename_i e; exact .inl (one .out e rfl (by injection h with h; omega))
  · split at h
    · rename_i e; exact .inl (one .twice e rfl (by injection h with h; omega))
    · split at h
      · rename_i e; exact .inr (two .swapped e rfl (by injection h with h; omega))
      · split at h
        · rename_i e; exact .inr (two .taken e rfl (by injection h with h; omega))
        · cases h
theorem tok_split (y : Str) : tokOk y = (decide (1 ≤ y.length) && decide (y.length ≤ 4) && decide (y.cps.toList.filter (fun c => !decide (c ∈ SGN)) = [])) := by
  unfold tokOk
  congr 1
  rw [Bool.eq_iff_iff, List.all_eq_true, decide_eq_true_eq, List.filter_eq_nil_iff]
  constructor
  · intro h c hc
    have q := (sg_iff c).mp (h c hc)
    simp [q]
  · intro h c hc
    have q := h c hc
    simp at q
    exact (sg_iff c).mpr q
theorem cut_tail (x : V) (xs : List V) : cutV (x :: xs) (some 1) none = xs := by
  unfold cutV
  have e : HT.sIx (x :: xs).length 0 (some 1) = 1 := by
    have q := HT.sIx_nat (x :: xs).length 0 1
    rw [show ((1 : Nat) : Int) = 1 from rfl] at q
    rw [q, List.length_cons]; omega
  rw [e, HT.sIx_none, List.drop_succ_cons, List.drop_zero, List.length_cons, Nat.add_sub_cancel, List.take_length]
theorem sig_nil {l : List Nat} : decide (l.map (fun c => (⟨#[c]⟩ : Str)) = []) = decide (l = []) := decide_eq_decide.mpr List.map_eq_nil_iff
theorem TX.sig {n : Nat} {y : Str} (h : TX n y) : ∀ c ∈ y.cps.toList, c < 128 := by
  obtain ⟨u, rfl, _, h2⟩ := h
  rw [mkS_cps]; exact h2
/-! ### rules that name K -/
theorem room1 {k : Nat} {A : Around} (r : Room k A) : A.units + 1 < cLine := by have := r.units; omega
theorem ix_lK {X : Cx} {K : PySem.W.Frag} (h : X.K = K) : IxR X (rIxL K) := h ▸ ix_list
theorem pi_lK {X : Cx} {K : PySem.W.Frag} {tg l : Expr} {tl : TE} (h : X.K = K) (hl : PE X l tl) : PI X tg l (iList K tl) := by subst h; exact pi_list hl
theorem pe_notX {X : Cx} {a : Expr} {pos : Pos} {ta : TE} (ha : PE X a ta) : PE X (.UnaryOp .Not a pos) (tNotV ta) := pe_not ha
end Ss
set_option maxHeartbeats 1000000
/-! a def with ** alone, called by position -/
namespace Ss
open PySem PySem.Spec PyProof PyProof.Rows L2
section
variable {CT : CXT} {Pr : Program} {wo : World} {Kf : PySem.W.Frag} {gl : Str → Option Value} {hb0 : Heap} {lev : Nat} {fa : Addr} {nm ql : Str} {par : Arguments} {bd : List Stmt} {sco : Scope}
  {v1 v2 v3 v4 v5 v6 v7 : Value} {a1 a2 : Option Addr} {sl : Array (Option Value)} {NN pp : List Str} {S0 : Sp} {kd : Str}
/-- the dict is new and empty -/
theorem fn_kw0 (at_ : Kf.lookup fa = some ⟨v7, a2, .func (PySem.W.fnOf nm ql par bd sco v1 v2 v3 v4 a1 v5 v6), sl⟩)
    (code : PySem.W.codeIn Kf v5 ql = true)
    (fs : FnScope NN (pp ++ [kd]) sco)
    (up : StX.CXUp CT)
    (bnd : ∀ us : List Value, us.length = pp.length →
      bindArgs (PySem.W.fnOf nm ql par bd sco v1 v2 v3 v4 a1 v5 v6) ⟨us, []⟩ = ((alloc ({ cls := .type "dict", data := .dict #[] } : Obj) : Sem Addr) >>= fun dd => pure (pp.zip us ++ [(kd, Value.ref dd)])))
    (run : ∀ (A : Around) (out : List Env) (st : Shared) (H : Hp) (vs : List V) (Q : VK) (E : XK),
      Room lev (A.deeper (envOfC ql sco st.heap.objs.size fa v5)) → S0 vs H Q E →
      ∃ t, PSs (cxOf CT Pr wo Kf gl hb0 NN ql sco fa v5 A out st H E) bd t ∧ t ⟨fun _ H' => Q .non H', Q, fun _ _ => False, fun _ _ => False⟩ (start NN vs) H) :
    FnR Pr wo Kf gl hb0 CT (lev + 1) fa (fun vs H Q E => vs.length = pp.length ∧ ∀ dd, H dd = none → S0 (vs ++ [V.ref dd]) (upd H dd (.dK [])) Q E) := by
  intro A out st H us vs Q E room en rel ⟨len, ask⟩
  have free : H st.heap.objs.size = none := en.hok.fresh (Nat.le_refl _)
  have ul : us.length = pp.length := rel.length.symm.trans len
  refine StX.run_bnd at_ code fs room en (G := fun xs H2 => ∃ dd, H dd = none ∧ xs = vs ++ [V.ref dd] ∧ H2 = upd H dd (.dK [])) (fun A' Ex Q' fin => ?_) fun s2 H2 xs ⟨dd, hd, ex, eh⟩ room' => ?_
  · rw [bnd us ul]
    refine wpAny_bind (wpAny_alloc (wpAny_pure ?_))
    have en1 := StX.env0_laid (u := .dK []) (o := ({ cls := .type "dict", data := .dict #[] } : Obj)) en (dk_empty _ (StX.env0_big en))
    have un1 := StX.un_laid (fs := frs out) (s := st) (o := ({ cls := .type "dict", data := .dict #[] } : Obj)) (u := .dK []) free
    have z := fin _ _ (vs ++ [V.ref st.heap.objs.size]) (us ++ [Value.ref st.heap.objs.size]) en1 un1 rfl
      (fun e s' => up out st H _ _ E e s' un1 (fun b o q => Heap.get?_push_of_some _ q) rfl)
      (rel.append (.cons rfl .nil)) (by rw [List.length_append, List.length_append, len]; rfl) ⟨_, free, rfl, rfl⟩
    rw [List.zip_append ul.symm] at z
    exact z
  · subst ex eh
    exact run A out s2 _ _ Q E room' (ask dd hd)
end
end Ss
set_option maxHeartbeats 1000000
/-! an object made of a class that stands in a local name -/
namespace Ss
open PySem PySem.Spec PyProof PyProof.Rows L2 StX
def tMakeV (i : Nat) (C : Addr) (sp : Sp) (E : XK) (t : TA) : TE := fun σ H Q => σ[i]? = some (some (.ref C)) ∧ tMakeR C sp E t σ H Q
section
variable {X : Cx} {CT : CXT} {C fi : Addr} {lev i : Nat} {S0 : Sp} {E : XK} {y : Str} {e1 : Expr} {more : List Expr} {ar : TA} {np cp : Pos}
theorem pe_makeV (mk : Mk X.K C fi)
    (init : FnR X.prog X.w X.K X.mg X.base CT lev fi S0)
    (room : Room (lev + 1) X.A)
    (slot : X.N[i]? = some y)
    (seen : L2.Vis X.env.scope y)
    (pass : Passes CT X E)
    (args : PA X (e1 :: more) ar)
    (nd : (y == ("__debug__" : Str)) = false := by decide)
    (nc : (y == ("__classdict__" : Str)) = false := by decide)
    (first : starEach (e1 :: more) X.env = (false, eval e1 X.env) :: starEach more X.env := by rfl)
    (plain : (backTo cp (starEach more X.env)).any (·.1) = false := by rfl) :
    PE X (.Call (.Name y np) (e1 :: more) [] cp) (tMakeV i C S0 E ar) := by
  refine ⟨fun pins st σ H Q I ⟨at_, ask⟩ => ?_⟩
  have nameIs := (pe_var (pos := np) slot seen nd nc).run pins st σ H (fun v H1 => v = .ref C ∧ H1 = H) I ⟨.ref C, at_, rfl, rfl⟩
  refine wpAny_Call_Name_kw (thn nameIs fun u s1 ⟨v, H1, I1, r1, q1⟩ => ?_)
  obtain ⟨rfl, rfl⟩ := q1
  cases r1
  have argsIs := args.run cp pins s1 σ _ _ I1 ask
  refine PySem.W.callWith_K (h₀ := X.base) I.ok.mod.kin mk.kp (thn argsIs fun us s2 ⟨vs, H2, I2, r, q⟩ => ⟨I2.kIn, ?_⟩) first plain
  exact run_makeR mk init room pass I2 r q
end
end Ss
set_option maxHeartbeats 1000000
/-! lists of pairs -/
namespace Ss
open PySem PySem.Spec PyProof PyProof.Rows L2
/-- pairs of a text and a value that stand -/
def PairsT (K : PySem.W.Frag) (H : Hp) (xs : List V) (kv : List (Str × V)) : Prop := xs.length = kv.length ∧ ∀ (i : Nat) (z : Str) (v : V), kv[i]? = some (z, v) → ∃ t, xs[i]? = some (.ref t) ∧ SqT K H t [.str z, v]
theorem PairsT.mono {K : PySem.W.Frag} {H H' : Hp} {xs : List V} {kv : List (Str × V)} (h : PairsT K H xs kv) (s : Same H H') : PairsT K H' xs kv := ⟨h.1, fun i z v e => let ⟨t, a, b⟩ := h.2 i z v e; ⟨t, a, Evl.ex_t s b⟩⟩
section
variable {K : PySem.W.Frag} {σ : L2.St} {H : Hp} {l : Addr} {xs : List V} {kv : List (Str × V)} {tl : TE} {i j : Nat}
theorem el_kinds (hl : Evl.Ev tl σ H (.ref l)) (hx : SqL K H l xs) (hp : PairsT K H xs kv) (hn : kv.length ≤ 30000)
    (hw : ∀ x y, wipe (((wipe σ [i, j]).set i (some x)).set j (some y)) [i, j] = wipe σ [i, j]) (hv : ∀ x y, (((wipe σ [i, j]).set i (some x)).set j (some y))[i]? = some (some x)) :
    Evl.EvL (tLc (iList K tl) (gTup K 2 (gCons (gName i) (gCons (gName j) gNil))) tYes (tVar i) [i, j]) σ H (kv.map fun p => V.str p.1) := fun H0 e0 Q q =>
  hl H0 e0 _ fun H1 e1 => ⟨l, rfl, ⟨xs, Evl.ex_l (e0.trans e1) hx⟩, fun D hD => by
    have e01 := e0.trans e1
    have hp1 := hp.mono e01
    refine lc_list (xs := xs) (fun m H' => Same H1 H' ∧ H' D = some (.lst ((kv.take m).map fun p => V.str p.1))) ⟨Same.new (Same.refl H1) hD, upd_same⟩ ?_ ?_ ?_
    · exact fun m H' _ h => Evl.ex_l (e01.trans h.1) hx
    · rintro m x H' hm ⟨s1, eD⟩
      have lt : m < kv.length := by rw [← hp.1]; exact (List.getElem?_eq_some_iff.mp hm).1
      obtain ⟨⟨z, v⟩, ez⟩ : ∃ y, kv[m]? = some y := ⟨_, List.getElem?_eq_getElem lt⟩
      obtain ⟨t, et, ht⟩ := hp1.2 m z v ez
      rw [hm] at et
      cases et
      refine ⟨t, _, rfl, Evl.ex_t s1 ht, rfl, _, _, rfl, _, _, rfl, rfl, ?_⟩
      refine ⟨hw (.str z) v, _, hv (.str z) v, _, eD, ?_, ?_⟩
      · rw [List.length_map, List.length_take]
        exact Nat.lt_of_le_of_lt (show _ ≤ 30000 by omega) (by decide)
      · have e2 : (kv.take (m + 1)).map (fun p => V.str p.1) = (kv.take m).map (fun p => V.str p.1) ++ [.str z] := by rw [List.take_add_one, ez]; simp
        rw [e2]
        refine ⟨fun a u h => ?_, upd_same⟩
        rw [upd_ne (ne_of_none h hD)]
        exact s1 _ _ h
    · rintro H' ⟨s1, eD⟩
      rw [hp.1, List.take_length] at eD
      exact q D H' (Evl.fresh_back e1 hD) (e1.trans s1) eD⟩
/-- {kind: value for kind, value in pairs}: the entries, a later one of the same kind in the place of the first -/
def dKV (kv : List (Str × V)) : List (Key × V) := mergeK [] (kv.map fun p => (Sum.inr p.1, p.2))
theorem putK_len {κ : Type} [DecidableEq κ] (kvs : List (κ × V)) (k : κ) (v : V) : (putK kvs k v).length ≤ kvs.length + 1 := by
  unfold putK
  split
  · rw [List.length_map]; omega
  · rw [List.length_append]; exact Nat.le_refl _
theorem merge_len (more : List (Key × V)) : ∀ kvs : List (Key × V), (mergeK kvs more).length ≤ kvs.length + more.length := by
  induction more with
  | nil => exact fun kvs => Nat.le_refl _
  | cons p more ih =>
    intro kvs
    have h := ih (putK kvs p.1 p.2)
    have h2 := putK_len kvs p.1 p.2
    show (mergeK (putK kvs p.1 p.2) more).length ≤ _
    rw [List.length_cons]; omega
/-- turns of a dict's comprehension over a list -/
theorem turns_dl {aa : Addr} {ys : List V} {gg : TG} {cond : TT} {kk vv : TE} {own : List Nat} {st : L2.St} {G1 : Hp} {DD : Addr} {Done : Hp → Prop} (Inv : Nat → Hp → Prop)
    (init : Inv 0 (upd G1 DD (.dK [])))
    (stays : ∀ n G, n ≤ ys.length → Inv n G → SqL K G aa ys)
    (turn : ∀ n x G, ys[n]? = some x → Inv n G → gg x (wipe st own) G fun st2 G2 => wipe st2 own = wipe st own ∧ cond st2 G2 fun bb G3 =>
      if bb = true then kk st2 G3 fun y G4 => vv st2 G4 fun z G5 => ∃ es k, y = kV k ∧ G5 DD = some (.dK es) ∧ es.length < sizeLine ∧ Inv (n + 1) (upd G5 DD (.dK (putK es k z)))
      else Inv (n + 1) G3)
    (fin : ∀ G, Inv ys.length G → Done G) :
    ∃ W : Nat → Nat → Hp → Prop, (∃ m, W 0 m (upd G1 DD (.dK []))) ∧ ∀ n m G, W n m G →
      ((Itl K aa).stop n G ∧ Done G) ∨
      ((Itl K aa).go n G ∧ ∃ Nx : Hp → Prop, (∀ G', Nx G' → ∃ m', m' < m ∧ W (n + 1) m' G') ∧
        ∀ x G', (Itl K aa).yld n G x G' → gg x (wipe st own) G' fun st2 G2 => wipe st2 own = wipe st own ∧ cond st2 G2 fun bb G3 =>
          if bb = true then kk st2 G3 fun y G4 => vv st2 G4 fun z G5 => ∃ es k, y = kV k ∧ G5 DD = some (.dK es) ∧ es.length < sizeLine ∧ Nx (upd G5 DD (.dK (putK es k z))) else Nx G3) := by
  refine ⟨fun n m G => m + n = ys.length ∧ Inv n G, ⟨ys.length, rfl, init⟩, fun n m G ⟨hm, hI⟩ => ?_⟩
  have at_ := stays n G (by omega) hI
  cases m with
  | zero =>
    have e : n = ys.length := by omega
    exact .inl ⟨⟨ys, at_, Nat.le_of_eq e.symm⟩, fin G (e ▸ hI)⟩
  | succ m =>
    have lt : n < ys.length := by omega
    refine .inr ⟨⟨ys, ys[n], at_, List.getElem?_eq_getElem lt⟩, Inv (n + 1), fun G' hG => ⟨m, Nat.lt_succ_self m, by omega, hG⟩, fun x G' hy => ?_⟩
    obtain ⟨rfl, hy⟩ := hy
    exact turn n x _ (hy ys at_) hI
theorem el_patts {Q : VK} (hl : Evl.Ev tl σ H (.ref l)) (hx : SqL K H l xs) (hp : PairsT K H xs kv) (hn : kv.length ≤ 30000)
    (hw : ∀ x y, wipe (((wipe σ [i, j]).set i (some x)).set j (some y)) [i, j] = wipe σ [i, j]) (hv : ∀ x y, (((wipe σ [i, j]).set i (some x)).set j (some y))[i]? = some (some x)) (hv2 : ∀ x y, (((wipe σ [i, j]).set i (some x)).set j (some y))[j]? = some (some y))
    (k : ∀ d H', H d = none → Same H H' → H' d = some (.dK (dKV kv)) → Q (.ref d) H') :
    tDc (iList K tl) (gTup K 2 (gCons (gName i) (gCons (gName j) gNil))) tYes (tVar i) (tVar j) [i, j] σ H Q :=
  hl H (Evl.Ex.refl H) _ fun H1 e1 => ⟨l, rfl, ⟨xs, Evl.ex_l e1 hx⟩, fun D hD => by
    have hp1 := hp.mono e1
    refine turns_dl (ys := xs) (fun m H' => Same H1 H' ∧ H' D = some (.dK (dKV (kv.take m)))) ⟨Same.new (Same.refl H1) hD, upd_same⟩ ?_ ?_ ?_
    · exact fun m H' _ h => Evl.ex_l (e1.trans h.1) hx
    · rintro m x H' hm ⟨s1, eD⟩
      have lt : m < kv.length := by rw [← hp.1]; exact (List.getElem?_eq_some_iff.mp hm).1
      obtain ⟨⟨z, v⟩, ez⟩ : ∃ y, kv[m]? = some y := ⟨_, List.getElem?_eq_getElem lt⟩
      obtain ⟨t, et, ht⟩ := hp1.2 m z v ez
      rw [hm] at et
      cases et
      refine ⟨t, _, rfl, Evl.ex_t s1 ht, rfl, _, _, rfl, _, _, rfl, rfl, ?_⟩
      refine ⟨hw (.str z) v, _, hv (.str z) v, _, hv2 (.str z) v, _, Sum.inr z, rfl, eD, ?_, ?_⟩
      · have h1 := merge_len ((kv.take m).map fun p => ((Sum.inr p.1 : Key), p.2)) []
        rw [List.length_map, List.length_take] at h1
        exact Nat.lt_of_le_of_lt (show _ ≤ 30000 by unfold dKV; simp only [List.length_nil] at h1; omega) (by decide)
      · have e2 : dKV (kv.take (m + 1)) = putK (dKV (kv.take m)) (Sum.inr z) v := by
          unfold dKV mergeK
          rw [List.take_add_one, ez, List.map_append, List.foldl_append]
          rfl
        rw [e2]
        refine ⟨fun a u h => ?_, upd_same⟩
        rw [upd_ne (ne_of_none h hD)]
        exact s1 _ _ h
    · rintro H' ⟨s1, eD⟩
      rw [hp.1, List.take_length] at eD
      exact k D H' (Evl.fresh_back e1 hD) (e1.trans s1) eD⟩
end
end Ss
set_option maxHeartbeats 1000000
/-! d.values(), and a list of them -/
namespace Ss
open PySem PySem.Spec PyProof PyProof.Rows L2
theorem view_ok {P : Program} {w : World} {H : Hp} {h : Heap} {p a : Addr} (e : h.get? p = some (DSub.viewOb "dict_values" a)) : ObjOk P w H h p (viewO "dict_values" p a) := by
  unfold viewO ObjOk
  exact ⟨e, ⟨_, e⟩, fun h1 h2 f k => k _ f⟩
theorem view_at {P : Program} {w : World} {H : Hp} {h : Heap} {p a : Addr} (e : ObjOk P w H h p (viewO "dict_values" p a)) : h.get? p = some (DSub.viewOb "dict_values" a) := by
  unfold viewO ObjOk at e
  exact e.1
theorem vals_of {kvs : List (Key × V)} {ws : List (Key × Value)} {l : List Value} (h : KV kvs ws) (hl : l.length = ws.length) (hk : ∀ (i : Nat) (v : Value), l[i]? = some v → ∃ k, ws[i]? = some (k, v)) : Vals (kvs.map (·.2)) l := by
  induction h generalizing l with
  | nil => match l, hl with | [], _ => exact .nil
  | @cons x y kvs ws hxy _ ih =>
    match l, hl with
    | v :: l, hl =>
      obtain ⟨k, e⟩ := hk 0 v rfl
      have e : y = (k, v) := Option.some.inj e
      subst e
      exact .cons hxy.2 (ih (by simpa using hl) fun i u z => hk (i + 1) u z)
section
variable {X : Cx}
def rVals : V → List V → Hp → VK → Prop := fun x xs H Q => ∃ (a : Addr) (kvs : List (Key × V)), x = .ref a ∧ xs = [] ∧ H a = some (.dK kvs) ∧ ∀ p, H p = none → Q (.ref p) (upd H p (viewO "dict_values" p a))
theorem mt_values : MtR X "dict.values" rVals := by
  intro pins s σ H x xs v us Q I rx r h
  obtain ⟨a, kvs, rfl, rfl, ha, q⟩ := h
  obtain rfl : v = Value.ref a := rx
  cases r
  obtain ⟨_, hsys, vs, rel, dof⟩ := dk_of I.hok ha
  obtain ⟨ep, dat⟩ := dof.dictAt
  obtain ⟨ob, es, ho, ex, _⟩ := id dat
  refine PySem.call_meetsIn F.slot_dict_values ⟨ob, ho, ex.1⟩ F.entry_dict_values (F.args_dict_values_1 _) (meets_dict_values (mixKind X.prog X.w) a hsys) ⟨⟨vs, dof⟩, ?_⟩
  exact ⟨.ref s.heap.objs.size, upd H s.heap.objs.size (viewO "dict_values" s.heap.objs.size a), I.laid (t' := s.toks) (fun b u e => Heap.get?_push_of_some _ e) (Nat.le_refl _) (view_ok (Heap.get?_push_size _ rfl)), rfl, q _ (I.hok.fresh (Nat.le_refl _))⟩
def rListV : List V → Hp → VK → Prop := fun vs H Q => ∃ (v a : Addr) (kvs : List (Key × V)), vs = [.ref v] ∧ H v = some (viewO "dict_values" v a) ∧ H a = some (.dK kvs) ∧ ∀ p, H p = none → Q (.ref p) (upd H p (.lst (kvs.map (·.2))))
theorem call_listV (hcalm : X.calm = true) : CallR X (.type "list") rListV := by
  intro pins s σ H vs us Q I r h
  obtain ⟨v, a, kvs, rfl, hv, ha, q⟩ := h
  obtain ⟨u, rfl, ru⟩ := vals1 r
  obtain rfl : u = Value.ref v := ru
  have hview : s.heap.get? v = some (DSub.viewOb "dict_values" a) := view_at (I.hok v _ hv)
  obtain ⟨hz, hsys, ws, rel, dof⟩ := dk_of I.hok ha
  obtain ⟨ep, dat⟩ := dof.dictAt
  have hl : ws.length = kvs.length := rel.length.symm
  refine PySem.W.kdl_call (PySem.W.kdl_values (knd := mixKind X.prog X.w) (kvs := ws) (ep := ep)) (I.ok.hd hcalm) ⟨⟨_, hview, rfl, rfl⟩, dat⟩ (by rw [hl]; exact hz) fun h' tk acc c' hk hD hacc => ?_
  have hv2 : Vals (kvs.map (·.2)) acc.toList := vals_of rel (by rw [Array.length_toList]; exact hacc.1) fun i v e => hacc.2 i v (by rw [← Array.getElem?_toList]; exact e)
  exact ⟨.ref s.heap.objs.size, upd H s.heap.objs.size (.lst (kvs.map (·.2))), I.laid (t' := tk) hk (Nat.le_refl _)
    (show ObjOk X.prog X.w _ _ _ (.lst (kvs.map (·.2))) from ⟨by rw [List.length_map]; exact hz, acc.toList, c', hv2, by rw [Array.toArray_toList]; exact hD⟩), rfl, q _ (I.hok.fresh (Nat.le_refl _))⟩
end
end Ss
set_option maxHeartbeats 1000000
/-! sets of rules: in order, each once -/
namespace Ss
open PySem PySem.Spec PyProof.Rows L2
/-- a rule: its kind and its tokens -/
abbrev Rl := RK × List Str
def RK.idx : RK → Int
  | .out => 0
  | .twice => 1
  | .swapped => 2
  | .taken => 3
theorem RK.idx_inj {a b : RK} (h : a.idx = b.idx) : a = b := by cases a <;> cases b <;> first | rfl | (exact absurd h (by decide))
/-- what the order goes by -/
def rkeyD (r : Rl) : PyData := .tuple [.int r.1.idx, .tuple (r.2.map PyData.str)]
abbrev leR : Rl → Rl → Bool := PySem.W.dataLe false rkeyD
theorem toksS_inj : ∀ {a b : List Str} {x y : List (Int ⊕ List Nat)}, PySem.W.keyToksAll (a.map PyData.str) ++ x = PySem.W.keyToksAll (b.map PyData.str) ++ y → a = b
  | [], [], _, _, _ => rfl
  | [], _ :: _, _, _, h => by
    injection h with h _
    injection h with h
    exact absurd h (by decide)
  | _ :: _, [], _, _, h => by
    injection h with h _
    injection h with h
    exact absurd h (by decide)
  | s :: a, t :: b, x, y, h => by
    have h : (Sum.inl 1 : Int ⊕ List Nat) :: (Sum.inr s.cps.toList :: PySem.W.keyToksAll (a.map PyData.str)) ++ x = Sum.inl 1 :: (Sum.inr t.cps.toList :: PySem.W.keyToksAll (b.map PyData.str)) ++ y := h
    injection h with _ h
    injection h with h1 h2
    injection h1 with h1
    have e : s = t := by rw [mkS_of s, mkS_of t, h1]
    rw [e, toksS_inj h2]
theorem rkey_inj {a b : Rl} (h : PySem.W.keyToks (rkeyD a) = PySem.W.keyToks (rkeyD b)) : a = b := by
  have h : (Sum.inl 1 : Int ⊕ List Nat) :: (Sum.inl a.1.idx :: Sum.inl 1 :: (PySem.W.keyToksAll (a.2.map PyData.str) ++ [Sum.inl 0])) = Sum.inl 1 :: (Sum.inl b.1.idx :: Sum.inl 1 :: (PySem.W.keyToksAll (b.2.map PyData.str) ++ [Sum.inl 0])) := h
  injection h with _ h
  injection h with h1 h
  injection h1 with h1
  injection h with _ h
  obtain ⟨k, t⟩ := a
  obtain ⟨k', t'⟩ := b
  have e1 : k = k' := RK.idx_inj h1
  have e2 : t = t' := toksS_inj h
  rw [e1, e2]
theorem leR_total : PySem.W.TotalLe leR := PySem.W.sortLe_total _ _ _
theorem leR_anti {a b : Rl} (h1 : leR a b = true) (h2 : leR b a = true) : a = b := by
  have h1 : (!(PyProof.Rows.lexLt PyProof.Rows.itemOrd (PySem.W.keyToks (rkeyD b)) (PySem.W.keyToks (rkeyD a)))) = true := h1
  have h2 : (!(PyProof.Rows.lexLt PyProof.Rows.itemOrd (PySem.W.keyToks (rkeyD a)) (PySem.W.keyToks (rkeyD b)))) = true := h2
  exact rkey_inj (lex_total _ _ (by simpa using h2) (by simpa using h1))
/-- a rule as it may be -/
def RlOk (r : Rl) : Prop := r.2.length = r.1.many ∧ (∀ z ∈ r.2, TokS z) ∧ r.2.Nodup
abbrev strRl (r : Rl) : Str := strR r.1 r.2
theorem str_inj {a b : Rl} (ha : RlOk a) (hb : RlOk b) (h : strRl a = strRl b) : a = b := by
  have h1 := read_join ha.1 (fun z hz => (ha.2.1 z hz).ok) ha.2.2
  have h2 := read_join hb.1 (fun z hz => (hb.2.1 z hz).ok) hb.2.2
  have h : strR a.1 a.2 = strR b.1 b.2 := h
  rw [h, h2] at h1
  injection h1 with h1
  obtain ⟨k, t⟩ := a
  obtain ⟨k', t'⟩ := b
  exact h1.symm
/-- l has just the rules S, in order, each once -/
def SetOf (l S : List Rl) : Prop := l.Pairwise (fun a b => leR a b = true ∧ a ≠ b) ∧ ∀ r, r ∈ l ↔ r ∈ S
theorem pw_uniq : ∀ {l m : List Rl}, l.Pairwise (fun a b => leR a b = true ∧ a ≠ b) → m.Pairwise (fun a b => leR a b = true ∧ a ≠ b) → (∀ r, r ∈ l ↔ r ∈ m) → l = m
  | [], [], _, _, _ => rfl
  | [], b :: m, _, _, h => by have := (h b).mpr List.mem_cons_self; cases this
  | a :: l, [], _, _, h => by have := (h a).mp List.mem_cons_self; cases this
  | a :: l, b :: m, h1, h2, h => by
    obtain ⟨a1, a2⟩ := List.pairwise_cons.mp h1
    obtain ⟨b1, b2⟩ := List.pairwise_cons.mp h2
    have e : a = b := by
      rcases List.mem_cons.mp ((h a).mp List.mem_cons_self) with e | e
      · exact e
      · rcases List.mem_cons.mp ((h b).mpr List.mem_cons_self) with e2 | e2
        · exact e2.symm
        · exact leR_anti (a1 b e2).1 (b1 a e).1
    subst e
    rw [pw_uniq a2 b2 fun r => ⟨fun hr => ?_, fun hr => ?_⟩]
    · rcases List.mem_cons.mp ((h r).mp (List.mem_cons_of_mem _ hr)) with e | e
      · exact absurd e.symm (a1 r hr).2
      · exact e
    · rcases List.mem_cons.mp ((h r).mpr (List.mem_cons_of_mem _ hr)) with e | e
      · exact absurd e.symm (b1 r hr).2
      · exact e
theorem SetOf.uniq {l m S T : List Rl} (h : SetOf l S) (k : SetOf m T) (e : ∀ r, r ∈ S ↔ r ∈ T) : l = m := pw_uniq h.1 k.1 fun r => (h.2 r).trans ((e r).trans (k.2 r).symm)
theorem SetOf.filter {l S : List Rl} (h : SetOf l S) (p : Rl → Bool) : SetOf (l.filter p) (S.filter p) := ⟨h.1.filter p, fun r => by rw [List.mem_filter, List.mem_filter, h.2 r]⟩
theorem SetOf.eq {l S T : List Rl} (h : SetOf l S) (e : ∀ r, r ∈ S ↔ r ∈ T) : SetOf l T := ⟨h.1, fun r => (h.2 r).trans (e r)⟩
theorem SetOf.nodup {l S : List Rl} (h : SetOf l S) : l.Nodup := h.1.imp fun x => x.2
theorem SetOf.self {l S : List Rl} (h : SetOf l S) : SetOf l l := ⟨h.1, fun _ => Iff.rfl⟩
/-- rules once each, put in order -/
theorem setOf_sort {ds S : List Rl} (nd : ds.Nodup) (e : ∀ r, r ∈ ds ↔ r ∈ S) : SetOf (ds.mergeSort leR) S := by
  have pm := List.mergeSort_perm ds leR
  have nd2 : (ds.mergeSort leR).Nodup := pm.nodup_iff.mpr nd
  have pw := PySem.W.sort_pairwise leR_total ds
  refine ⟨pw.imp₂ (fun _ _ h1 h2 => ⟨h1, h2⟩) nd2, fun r => (pm.mem_iff).trans (e r)⟩
/-! ### on the heap -/
/-- the objects of rules -/
def RulesR (H : Hp) (Cf : RK → Addr) (us : List V) (rs : List Rl) : Prop := us.length = rs.length ∧ ∀ (i : Nat) (r : Rl), rs[i]? = some r → ∃ p, us[i]? = some (.ref p) ∧ RuleAt H (Cf r.1) p r.1 r.2
theorem RulesR.mono {H H' : Hp} {Cf : RK → Addr} {us : List V} {rs : List Rl} (h : RulesR H Cf us rs) (s : Same H H') : RulesR H' Cf us rs := ⟨h.1, fun i r e => let ⟨p, a, b⟩ := h.2 i r e; ⟨p, a, b.mono s⟩⟩
theorem RulesR.nil {H : Hp} {Cf : RK → Addr} : RulesR H Cf [] [] := ⟨rfl, fun i r e => by cases e⟩
theorem RulesR.app {H : Hp} {Cf : RK → Addr} {us vs : List V} {rs ss : List Rl} (h : RulesR H Cf us rs) (k : RulesR H Cf vs ss) : RulesR H Cf (us ++ vs) (rs ++ ss) := by
  refine ⟨by rw [List.length_append, List.length_append, h.1, k.1], fun i r e => ?_⟩
  by_cases lt : i < rs.length
  · rw [List.getElem?_append_left lt] at e
    rw [List.getElem?_append_left (by rw [h.1]; exact lt)]
    exact h.2 i r e
  · rw [List.getElem?_append_right (by omega)] at e
    rw [List.getElem?_append_right (by rw [h.1]; omega), h.1]
    exact k.2 _ r e
theorem RulesR.one {H : Hp} {Cf : RK → Addr} {p : Addr} {r : Rl} (h : RuleAt H (Cf r.1) p r.1 r.2) : RulesR H Cf [.ref p] [r] := ⟨rfl, fun i x e => by
  cases i with
  | zero => cases e; exact ⟨p, rfl, h⟩
  | succ i => simp at e⟩
theorem RulesR.cons {H : Hp} {Cf : RK → Addr} {p : Addr} {r : Rl} {us : List V} {rs : List Rl} (h : RuleAt H (Cf r.1) p r.1 r.2) (k : RulesR H Cf us rs) : RulesR H Cf (.ref p :: us) (r :: rs) := (RulesR.one h).app k
/-- the entries of the dict by texts -/
inductive EntR (H : Hp) (Cf : RK → Addr) : List (Key × V) → List Rl → Prop
  | nil : EntR H Cf [] []
  | cons {p : Addr} {r : Rl} {es : List (Key × V)} {ds : List Rl} : RuleAt H (Cf r.1) p r.1 r.2 → EntR H Cf es ds → EntR H Cf ((Sum.inr (strRl r), .ref p) :: es) (r :: ds)
theorem EntR.mono {H H' : Hp} {Cf : RK → Addr} {es : List (Key × V)} {ds : List Rl} (h : EntR H Cf es ds) (s : Same H H') : EntR H' Cf es ds := by
  induction h with
  | nil => exact .nil
  | cons a _ ih => exact .cons (a.mono s) ih
theorem EntR.len {H : Hp} {Cf : RK → Addr} {es : List (Key × V)} {ds : List Rl} (h : EntR H Cf es ds) : es.length = ds.length := by
  induction h with
  | nil => rfl
  | cons _ _ ih => rw [List.length_cons, List.length_cons, ih]
theorem EntR.vals {H : Hp} {Cf : RK → Addr} {es : List (Key × V)} {ds : List Rl} (h : EntR H Cf es ds) : RulesR H Cf (es.map (·.2)) ds := by
  induction h with
  | nil => exact .nil
  | cons a _ ih => exact .cons a ih
theorem EntR.has {H : Hp} {Cf : RK → Addr} {es : List (Key × V)} {ds : List Rl} (h : EntR H Cf es ds) (z : Str) : (valV es (Sum.inr z)).isSome = decide (∃ r ∈ ds, strRl r = z) := by
  induction h with
  | nil => rw [decide_eq_false (by rintro ⟨r, hr, _⟩; cases hr)]; rfl
  | @cons p r es ds a _ ih =>
    by_cases e : strRl r = z
    · rw [valV_pos (by show (Sum.inr (strRl r) : Key) = Sum.inr z; rw [e]), decide_eq_true ⟨r, List.mem_cons_self, e⟩]; rfl
    · rw [valV_neg (by show ¬ (Sum.inr (strRl r) : Key) = Sum.inr z; exact fun q => e (Sum.inr.inj q)), ih]
      refine decide_eq_decide.mpr ⟨fun ⟨x, hx, q⟩ => ⟨x, List.mem_cons_of_mem _ hx, q⟩, fun ⟨x, hx, q⟩ => ?_⟩
      rcases List.mem_cons.mp hx with rfl | hx
      · exact absurd q e
      · exact ⟨x, hx, q⟩
theorem EntR.app {H : Hp} {Cf : RK → Addr} {es : List (Key × V)} {ds : List Rl} {p : Addr} {r : Rl} (h : EntR H Cf es ds) (a : RuleAt H (Cf r.1) p r.1 r.2) : EntR H Cf (es ++ [(Sum.inr (strRl r), .ref p)]) (ds ++ [r]) := by
  induction h with
  | nil => exact .cons a .nil
  | cons b _ ih => exact .cons b ih
/-- one more rule: in the place of one of the same text, or at the end -/
theorem EntR.put {H : Hp} {Cf : RK → Addr} {es : List (Key × V)} {ds : List Rl} {p : Addr} {r : Rl} (h : EntR H Cf es ds) (ok : ∀ x ∈ ds, RlOk x) (nd : ds.Nodup) (hr : RlOk r) (a : RuleAt H (Cf r.1) p r.1 r.2) :
    ∃ ds', EntR H Cf (putK es (Sum.inr (strRl r)) (.ref p)) ds' ∧ (∀ x ∈ ds', RlOk x) ∧ ds'.Nodup ∧ (∀ x, x ∈ ds' ↔ x ∈ ds ∨ x = r) ∧ ds'.length ≤ ds.length + 1 := by
  unfold putK
  rw [valV_any, h.has]
  by_cases c : ∃ x ∈ ds, strRl x = strRl r
  · rw [decide_eq_true c, if_pos rfl]
    obtain ⟨x, hx, e⟩ := c
    have e2 : x = r := str_inj (ok x hx) hr e
    subst e2
    refine ⟨ds, ?_, ok, nd, fun y => ⟨.inl, fun q => q.elim id fun q => q ▸ hx⟩, Nat.le_succ _⟩
    clear hx nd e
    induction h with
    | nil => exact .nil
    | @cons q y es ds b _ ih =>
      have ih := ih fun z hz => ok z (List.mem_cons_of_mem _ hz)
      rw [List.map_cons]
      by_cases e : strRl y = strRl x
      · have e2 : y = x := str_inj (ok y List.mem_cons_self) hr e
        subst e2
        show EntR H Cf ((if (Sum.inr (strRl y) : Key) = Sum.inr (strRl y) then _ else _) :: _) _
        rw [if_pos rfl]
        exact .cons a ih
      · show EntR H Cf ((if (Sum.inr (strRl y) : Key) = Sum.inr (strRl x) then _ else _) :: _) _
        rw [if_neg fun q => e (Sum.inr.inj q)]
        exact .cons b ih
  · rw [decide_eq_false c, if_neg Bool.false_ne_true]
    refine ⟨ds ++ [r], h.app a, fun x hx => ?_, List.nodup_append.mpr ⟨nd, List.nodup_cons.mpr ⟨(fun h => nomatch h), List.nodup_nil⟩, fun x hx y hy q => ?_⟩, fun x => by rw [List.mem_append, List.mem_singleton], by rw [List.length_append]; exact Nat.le_refl _⟩
    · rcases List.mem_append.mp hx with hx | hx
      · exact ok x hx
      · rw [List.mem_singleton.mp hx]; exact hr
    · have e2 : y = r := List.mem_singleton.mp hy
      exact c ⟨x, hx, by rw [q, e2]⟩
/-- a set of rules as it stands -/
def SlipsAt (K : PySem.W.Frag) (H : Hp) (Cs : Addr) (Cf : RK → Addr) (p : Addr) (l : List Rl) : Prop := ∃ dx d t us es ds, H p = some (.ins Cs dx [("_named", .ref d), ("rules", .ref t)]) ∧ SqT K H t us ∧ RulesR H Cf us l ∧ H d = some (.dK es) ∧ EntR H Cf es ds ∧ (∀ r, r ∈ ds ↔ r ∈ l)
theorem SlipsAt.mono {K : PySem.W.Frag} {H H' : Hp} {Cs : Addr} {Cf : RK → Addr} {p : Addr} {l : List Rl} (h : SlipsAt K H Cs Cf p l) (s : Same H H') : SlipsAt K H' Cs Cf p l :=
  let ⟨dx, d, t, us, es, ds, h1, h2, h3, h4, h5, h6⟩ := h; ⟨dx, d, t, us, es, ds, s _ _ h1, Evl.ex_t s h2, h3.mono s, s _ _ h4, h5.mono s, h6⟩
theorem SlipsAt.own {K : PySem.W.Frag} {H : Hp} {Cs : Addr} {Cf : RK → Addr} {p : Addr} {l : List Rl} (h : SlipsAt K H Cs Cf p l) : Own H p Cs := let ⟨dx, _, _, _, _, _, h1, _⟩ := h; ⟨dx, _, h1⟩
end Ss
set_option maxHeartbeats 1000000
/-! objects made of what a list or a tuple holds; op= of own objects -/
namespace Ss
open PySem PySem.Spec PyProof PyProof.Rows L2 StX
/-- C(*e), or cls(*e) -/
def tMakeS (K : PySem.W.Frag) (C : Addr) (sp : Sp) (E : XK) (te : TE) : TE := fun σ H Q => te σ H fun y H1 => ∃ a xs, y = V.ref a ∧ (SqT K H1 a xs ∨ SqL K H1 a xs) ∧
  ∀ x dx, H1 x = none → H1 dx = none → dx ≠ x → sp (.ref x :: xs) (upd (upd H1 dx (.own x)) x (.ins C dx [])) (fun v H2 => v = .non ∧ Q (.ref x) H2) E
def tMakeSV (K : PySem.W.Frag) (i : Nat) (C : Addr) (sp : Sp) (E : XK) (te : TE) : TE := fun σ H Q => σ[i]? = some (some (.ref C)) ∧ tMakeS K C sp E te σ H Q
/-- C() -/
def tMake0 (C : Addr) (sp : Sp) (E : XK) : TE := fun σ H Q => ∀ x dx, H x = none → H dx = none → dx ≠ x → sp [.ref x] (upd (upd H dx (.own x)) x (.ins C dx [])) (fun v H2 => v = .non ∧ Q (.ref x) H2) E
section
variable {X : Cx} {CT : CXT} {C fi : Addr} {lev i : Nat} {S0 : Sp} {E : XK} {y x : Str} {e : Expr} {te : TE} {np cp sp_ : Pos}
theorem pe_makeS (mk : Mk X.K C fi) (init : FnR X.prog X.w X.K X.mg X.base CT lev fi S0) (room : Room (lev + 1) X.A) (hg : Gl X x) (hm : X.mg x = some (.ref C)) (pass : Passes CT X E) (he : PE X e te) (hd : (x == ("__debug__" : Str)) = false := by decide)
    (hst : starEach [.Starred e sp_] X.env = [(true, eval e X.env)] := by rfl) :
    PE X (.Call (.Name x np) [.Starred e sp_] [] cp) (tMakeS X.K C S0 E te) := by
  refine ⟨fun pins s σ H Q I h => ?_⟩
  refine wpAny_Call_Name_kw (ld_glob I hg hm ?_ hd)
  refine PySem.W.callWith_S (h₀ := X.base) I.ok.mod.kin mk.kp (thn (he.run pins s σ H _ I h) fun v s1 ⟨y, H1, I1, ry, a, xs, ey, hxs, q⟩ => ?_) hst
  subst ey
  obtain rfl : v = Value.ref a := ry
  exact star_any I1 hxs fun us s2 I2 rv => ⟨I2.kIn, run_makeR mk init room pass I2 rv q⟩
theorem pe_makeSV (mk : Mk X.K C fi) (init : FnR X.prog X.w X.K X.mg X.base CT lev fi S0) (room : Room (lev + 1) X.A) (slot : X.N[i]? = some y) (seen : L2.Vis X.env.scope y) (pass : Passes CT X E) (he : PE X e te)
    (nd : (y == ("__debug__" : Str)) = false := by decide) (nc : (y == ("__classdict__" : Str)) = false := by decide)
    (hst : starEach [.Starred e sp_] X.env = [(true, eval e X.env)] := by rfl) :
    PE X (.Call (.Name y np) [.Starred e sp_] [] cp) (tMakeSV X.K i C S0 E te) := by
  refine ⟨fun pins st σ H Q I ⟨at_, ask⟩ => ?_⟩
  have nameIs := (pe_var (pos := np) slot seen nd nc).run pins st σ H (fun v H1 => v = .ref C ∧ H1 = H) I ⟨.ref C, at_, rfl, rfl⟩
  refine wpAny_Call_Name_kw (thn nameIs fun u s1 ⟨v, H1, I1, r1, q1⟩ => ?_)
  obtain ⟨rfl, rfl⟩ := q1
  cases r1
  refine PySem.W.callWith_S (h₀ := X.base) I.ok.mod.kin mk.kp (thn (he.run pins s1 σ _ _ I1 ask) fun v s1 ⟨y, H1, I1, ry, a, xs, ey, hxs, q⟩ => ?_) hst
  subst ey
  obtain rfl : v = Value.ref a := ry
  exact star_any I1 hxs fun us s2 I2 rv => ⟨I2.kIn, run_makeR mk init room pass I2 rv q⟩
theorem pe_make0 (mk : Mk X.K C fi) (init : FnR X.prog X.w X.K X.mg X.base CT lev fi S0) (room : Room (lev + 1) X.A) (hg : Gl X x) (hm : X.mg x = some (.ref C)) (pass : Passes CT X E) (hd : (x == ("__debug__" : Str)) = false := by decide) :
    PE X (.Call (.Name x np) [] [] cp) (tMake0 C S0 E) := by
  refine ⟨fun pins s σ H Q I h => ?_⟩
  refine wpAny_Call_Name_kw (ld_glob I hg hm ?_ hd)
  exact PySem.W.callWith_K0 I.kIn mk.kp (run_makeR (us := []) mk init room pass I .nil h)
end
end Ss
set_option maxHeartbeats 1000000
/-! x op= y where the class has the sign op alone -/
namespace SoG
open PySem PySem.W PySem.Calls PyProof.Rows
section
variable {prog : Program} {w : World} {M : Model} {A : Around} {E : Value → Shared → Prop} {s : Shared} {K : Frag} {x C L f : Addr} {h₀ : Heap} {m : Str → Option Value} {ox : Obj} {od : Option Obj} {nm : String}
theorem fills_no {h : Heap} {cd : ClassData} {add : Bool} (X : K.In h) (hc : clsIn K C = some cd) (hm : cd.mro = [.ref C, .type "object"]) (h1 : findIn K (.ref C) (dunderI nm) = some none) (h2 : findIn K (.type "object") (dunderI nm) = some none) : Looks M h (fillsInplaceSlot (.ref C) nm add) false := by
  intro A Q E s k q
  have Lm : Looks M h (mroOf (.ref C)) cd.mro := (looks_clsIn X hc).andThen (f := fun cd => pure cd.mro) .now
  have Lm' := Lm.keeps k
  obtain ⟨hh, g, d, tt, os⟩ := s
  have X' : K.In hh := X.keeps k
  have L1 : Looks M hh (typeLookup (.ref C) (dunderI nm)) none := looks_findIn X' h1
  have L2 : Looks M hh (typeLookup (.type "object") (dunderI nm)) none := looks_findIn X' h2
  unfold fillsInplaceSlot
  refine wpAny_bind (Lm'.at ?_)
  rw [hm, List.anyM_cons, List.anyM_cons, List.anyM_nil]
  refine wpAny_bind ?_
  repeat lk
  exact q
theorem ip_K {op : Operator} {b : Value} {cd : ClassData} {Q : Value → Shared → Prop} (F : Fr h₀ L s.heap m) (X₀ : K.In h₀) (I : InstAt s.heap x ox C od) (hb : Looks (model prog w) s.heap (typeOf b) (.ref C)) (hc : clsIn K C = some cd) (hm : cd.mro = [.ref C, .type "object"])
    (h1 : findIn K (.ref C) (dunderI op.info.2) = some none) (h2 : findIn K (.type "object") (dunderI op.info.2) = some none)
    (hs : findIn K (.ref C) (PySem.dunder op.info.2) = some (some (.ref f))) (hf : isFn K (.ref f) = true)
    (h : wpAny (model prog w) A (call (.ref f) [.ref x, b]) (PySem.W.CmpBack Q) E s) : wpAny (model prog w) A (inplaceOp op (.ref x) b) Q E s := by
  have X := X₀.keeps F.keep
  unfold inplaceOp
  refine wpAny_holding ?_
  refine wpAny_bind (I.type.here (wpAny_bind ((fills_no X hc hm h1 h2).here ?_)))
  simp only [Bool.false_eq_true, if_false]
  refine wpAny_bind ?_
  unfold binaryOp1
  refine wpAny_bind (I.type.here (wpAny_bind (hb.here (wpAny_bind ((fills_K X hc hm hs).here ?_)))))
  simp only [beq_self_eq_true, if_true]
  refine wpAny_bind (wpAny_pure ?_)
  simp only [Bool.and_false, Bool.false_eq_true, if_false, Bool.false_and]
  refine wpAny_bind (wpAny_pure ?_)
  simp only [Bool.false_eq_true, if_false]
  refine wpAny_bind (m := tryMethod (.ref x) _ b) ?_
  unfold tryMethod
  refine wpAny_bind (special_fn X I hs (beq_iff_eq.mp hf) (wpAny_mono h (fun v s' hv => ?_) fun _ _ e => e))
  cases v <;> first | exact hv.elim | exact wpAny_pure (wpAny_pure (wpAny_pure hv))
end
end SoG
namespace Ss
open PySem L2 PyProof.Rows
/-- the class at C has no sign for op= -/
structure NoIp (K : PySem.W.Frag) (C : Addr) (nm : String) : Prop where
  ex : ∃ cd, PySem.W.clsIn K C = some cd ∧ cd.mro = [.ref C, .type "object"]
  n1 : PySem.W.findIn K (.ref C) (dunderI nm) = some none
  n2 : PySem.W.findIn K (.type "object") (dunderI nm) = some none
section
variable {X : Cx} {CX : CXT} {C : Addr} {k j : Nat} {m : Str} {ps : List Str} {sp : Sp} {E : XK} {op : Operator}
theorem ip_own (D : Mm X.prog X.w X.K X.mg X.base CX C k m ps sp) (hr : Room j X.A) (hx : Passes CX X E) (n : NoIp X.K C op.info.2) (hk : k ≤ j := by decide) (hm : m = PySem.dunder op.info.2 := by first | rfl | decide +kernel) : PIp X op (rOwn C sp E) := by
  intro pins s σ H x y v u Q I rx ry h
  obtain ⟨p, q, rfl, rfl, hp, hq, hs⟩ := h
  obtain rfl : v = Value.ref p := rx
  obtain rfl : u = Value.ref q := ry
  obtain ⟨f, fd, F, mf, b⟩ := D.ex
  obtain ⟨dx, od, J⟩ := own_inst I hp
  obtain ⟨dy, oe, J2⟩ := own_inst I hq
  obtain ⟨m', fr⟩ := inv_fr I
  obtain ⟨cd, hc, hm2⟩ := n.ex
  subst hm
  exact SoG.ip_K fr I.ok.mod.kin J J2.type hc hm2 n.n1 n.n2 mf.at_ mf.fn (wpAny_mono (run_fn (us := [.ref p, .ref q]) (vs := [.ref p, .ref q]) F (hr.mono hk) b .nil hx I (.cons rfl (.cons rfl .nil)) hs) (fun _ _ z => cmp_back z) fun _ _ z => z)
end
end Ss
namespace Ss
open PySem L2 PySem.Spec PyProof.Rows
/-! ### enumerate(t), t a tuple -/
theorem enum_new {v : Value} {o : Obj} {J : Heap → Prop} (B : Begins v o J) :
    Meets (Builtin.«enumerate.__new__» ⟨[.type "enumerate", v], []⟩) (fun _ R s => J s.heap ∧
      R (.ok (.ret (.ref (s.heap.push o).objs.size))) { s with heap := (s.heap.push o).push { cls := .type "enumerate", data := .fields #[.none, .bool false, .ref s.heap.objs.size, rawInt 0, .none, .none] } }) :=
  .of_wp fun prog w A R s hh => by
    obtain ⟨hp, g, dr, n, os⟩ := s
    obtain ⟨hJ, hR⟩ := hh
    have sub1 := sub_enumerate
    have it1 : ∀ {A' : Around} {E : Value → Shared → Prop} {Q : Value → Shared → Prop}, Q (.ref hp.objs.size) ⟨hp.push o, g, dr, n, os⟩ → wpAny (model prog w) A' (pyIter v) Q E ⟨hp, g, dr, n, os⟩ :=
      fun z => B.iter prog w _ _ ⟨hp, g, dr, n, os⟩ _ hJ z
    wp_walk using it1
    refine wpAny_stack_any fun st0 => wpAny_pure ?_
    split
    · rename_i cc _ _ _ _ _
      cases (cc == Value.type "enumerate") <;>
      · wp_walk using it1
        exact ⟨_, rfl, hR⟩
    · wp_walk using it1
      exact ⟨_, rfl, hR⟩
theorem enum_call {prog : Program} {w : World} {A : Around} {E : Value → Shared → Prop} {s : Shared} {v : Value} {o : Obj} {J : Heap → Prop} {Q : Value → Shared → Prop} (B : Begins v o J) (hJ : J s.heap)
    (k : ∀ h', IsEnum h' (s.heap.objs.size + 1) s.heap.objs.size 0 .none → h'.get? s.heap.objs.size = some o → (∀ b u, s.heap.get? b = some u → h'.get? b = some u) → Q (.ref (s.heap.objs.size + 1)) { s with heap := h' }) :
    wpAny (model prog w) A (call (.type "enumerate") [v]) Q E s := by
  refine callType_new F.called_enumerate (by decide) (F.typeCall_enumerate_1 _) (F.newCall_enumerate_1 _) (fun z => F.args_object_init_2 z _) F.entry_enumerate_new (enum_new B) ⟨hJ, ?_⟩
  have z1 : (s.heap.push o).objs.size = s.heap.objs.size + 1 := Heap.size_push ..
  show _ ∧ _
  rw [z1]
  have en : IsEnum ((s.heap.push o).push { cls := .type "enumerate", data := .fields #[.none, .bool false, .ref s.heap.objs.size, rawInt 0, .none, .none] }) (s.heap.objs.size + 1) s.heap.objs.size 0 .none := by
    have t := Heap.get?_push_size (s.heap.push o) (o := { cls := .type "enumerate", data := .fields #[.none, .bool false, .ref s.heap.objs.size, rawInt 0, .none, .none] }) rfl
    rwa [z1] at t
  exact ⟨⟨_, en, rfl⟩, k _ en (Heap.get?_push_of_some _ (Heap.get?_push_size _ B.free)) fun b u z => Heap.get?_push_of_some _ (Heap.get?_push_of_some _ z)⟩
/-- the tuple at a: each item in a new pair -/
def Iet (K : PySem.W.Frag) (a : Addr) : It :=
  ⟨fun i H => ∃ (xs : List V) (x : V), SqT K H a xs ∧ xs[i]? = some x, fun i H v H' => ∃ T x, v = .ref T ∧ H T = none ∧ H' = upd H T (.tup [.int (i : Nat), x]) ∧ ∀ xs, SqT K H a xs → xs[i]? = some x, fun i H => ∃ xs : List V, SqT K H a xs ∧ i = xs.length⟩
theorem turn_enumT {P : Program} {w : World} {K : PySem.W.Frag} {elts : List Expr} {kk : Nat} {tpos : Pos} (a e it : Addr) :
    Turn P w K (.Tuple elts kk tpos) (Iet K a) [e, it] e (fun i h => (∃ old, IsEnum h e it ((i : Nat) : Int) old) ∧ h.IsTupleIter it a i ∧ e ≠ it) where
  mem := List.mem_cons_self
  obj := fun i h st b hb => by
    obtain ⟨⟨old, he⟩, ⟨u, hu, _, hd⟩, _⟩ := st
    rcases List.mem_cons.mp hb with rfl | hb
    · exact ⟨_, he, fun v q => nomatch q⟩
    · obtain rfl : b = it := by simpa using hb
      exact ⟨u, hu, fun v q => by rw [hd] at q; cases q⟩
  keep := fun i h h' st k => ⟨let ⟨old, he⟩ := st.1; ⟨old, k e (by simp) _ he⟩, st.2.1.at fun u q => k it (by simp) u q, st.2.2⟩
  item := by
    intro X h1 h2 h3 hc i pins s σ H E I hf st hg
    subst h1 h2 h3
    obtain ⟨⟨old, he⟩, hit, hne⟩ := st
    obtain ⟨xs, x, hq, hx⟩ := hg
    obtain ⟨its, rv, p, hz⟩ := I.tuple hq
    have pt : s.heap.IsTuple a its.toArray := p
    obtain ⟨u0, hu0, ru0⟩ := rv.get hx
    have hlt : i < its.length := by
      rcases Nat.lt_or_ge i its.length with z | z
      · exact z
      · rw [List.getElem?_eq_none z] at hu0; cases hu0
    have nea : e ≠ a := fun z => by
      obtain ⟨ob, g1, g2, _⟩ := pt
      rw [← z, he] at g1
      cases g1
      injection g2 with g2
      exact absurd g2 (by decide)
    have nia : a ≠ it := fun z => by
      obtain ⟨ob, g1, g2, _⟩ := pt
      obtain ⟨ob', g3, g4, _⟩ := hit
      rw [z, g3] at g1
      cases g1
      rw [g4] at g2
      injection g2 with g2
      exact absurd g2 (by decide)
    have hel : e < s.heap.objs.size := Heap.lt_size he
    have hil : it < s.heap.objs.size := by obtain ⟨_, q, _⟩ := hit; exact Heap.lt_size q
    have D := Draws.tuple (prog := X.prog) (w := X.w) (A := X.A.in1) (I.ok.hd hc) it a nia its.toArray
    refine wpAny_pyNext_enum_itemD D he ⟨hit, pt⟩ (by simpa using hlt) hne (by simp [hne, nea]) fun u h' tk hu ho st' hT hsz hk => ?_
    have hu : its[i]? = some u := by simpa using hu
    rw [hu0] at hu
    cases hu
    refine ⟨_, rfl, wpAny_letOwnedTupleGo_enum (s := { s with heap := h', toks := tk + 1 }) ho fun h2 he2 sb => ?_⟩
    have hT2 : h2.get? s.heap.objs.size = some { cls := .type "tuple", data := .seq #[.int i tk, u0] } := (sb.2 _ (Nat.ne_of_gt hel)).trans hT
    have nw : ObjOk X.prog X.w (upd H s.heap.objs.size (.tup [.int (i : Nat), x])) h2 s.heap.objs.size (.tup [.int (i : Nat), x]) :=
      ⟨Nat.le_of_ble_eq_true rfl, [.int i tk, u0], .cons ⟨_, rfl⟩ (.cons ru0 .nil), ⟨_, hT2, rfl, _, rfl⟩⟩
    have I1 : Inv X pins σ (upd H s.heap.objs.size (.tup [.int (i : Nat), x])) { s with heap := h2, toks := tk + 1 } :=
      I.turnedNew (ch := [e, it]) (fun b ob hb q => (sb.2 b (fun z => hb (by simp [z]))).trans (hk b ob (fun z => hb (by simp [z])) (fun z => hb (by simp [z])) q)) hf (Nat.le_refl _) nw
    refine ⟨.ref s.heap.objs.size, _, I1, rfl, ⟨_, x, rfl, I.hok.fresh (Nat.le_refl _), rfl, fun ys hy => ?_⟩, ⟨⟨u0, ?_⟩, st'.1.at fun ob q => (sb.2 it (Ne.symm hne)).trans q, hne⟩, fun b hb => ?_⟩
    · rw [I.tuple_inj hy hq]; exact hx
    · have e1 : ((i + 1 : Nat) : Int) = (i : Int) + 1 := by omega
      rw [e1]; exact he2
    · have hb' : b < s.heap.objs.size := by
        rcases List.mem_cons.mp hb with rfl | hb
        · exact hel
        · obtain rfl : b = it := by simpa using hb
          exact hil
      rw [upd_ne (Nat.ne_of_lt hb')]
      exact (hf b hb).1
  done := by
    intro X h1 h2 h3 hc i pins s σ H E I hf st hg
    subst h1 h2 h3
    obtain ⟨⟨old, he⟩, hit, hne⟩ := st
    obtain ⟨xs, hq, rfl⟩ := hg
    obtain ⟨its, rv, p, hz⟩ := I.tuple hq
    have pt : s.heap.IsTuple a its.toArray := p
    have nia : a ≠ it := fun z => by
      obtain ⟨ob, g1, g2, _⟩ := pt
      obtain ⟨ob', g3, g4, _⟩ := hit
      rw [z, g3] at g1
      cases g1
      rw [g4] at g2
      injection g2 with g2
      exact absurd g2 (by decide)
    obtain ⟨f0, f1, f2, f3, f4, f5⟩ := hf it (by simp)
    have hl := rv.length
    rw [hl] at he hit
    exact wpAny_pyNext_enum_endD (Draws.tuple (prog := X.prog) (w := X.w) (A := X.A.in1) (I.ok.hd hc) it a nia its.toArray) he (by simpa using ⟨hit, pt⟩) fun h' eb => ⟨rfl, I.turned (t' := s.toks) (fun b o hb q => eb b o hb q) f0 f1 f3 f4 f5⟩
  self := fun A i s Q E st h => let ⟨⟨_, he⟩, _⟩ := st; wpAny_pyIter_enum he h
def iEnumT (K : PySem.W.Frag) (ta : TA) : TI := fun σ H R => ta σ H fun vs H1 => ∃ a xs, vs = [.ref a] ∧ SqT K H1 a xs ∧ R (Iet K a) H1
theorem pi_enumT {X : Cx} {e : Expr} {ta : TA} {p pos tpos : Pos} {elts : List Expr} {kk : Nat} (hg : Gl X "enumerate") (hm : X.mg "enumerate" = none) (ha : PA X [e] ta) (hs : starEach [e] X.env = [(false, eval e X.env)] := by rfl) :
    PI X (.Tuple elts kk tpos) (.Call (.Name "enumerate" p) [e] [] pos) (iEnumT X.K ta) := by
  refine ⟨fun pins s σ H R I h => ?_⟩
  refine Call_ (ld_blt I hg hm boot_enumerate (PyProof.Rows.callWith_type1 (thn (ha.run pos pins s σ H _ I h) fun us s1 ⟨vs, H1, I1, r1, a, xs, ex, hq, q⟩ => ?_) hs rfl))
  subst ex
  obtain ⟨u, rfl, r⟩ := vals1 r1
  cases r
  obtain ⟨its, rv, p', hz⟩ := I1.tuple hq
  refine enum_call (begins_tuple a its.toArray) p' fun h' he hit hk => wpAny_pyIter_enum he ?_
  have I2 : Inv X pins σ H1 { s1 with heap := h' } := I1.kept (t' := s1.toks) hk
  refine ⟨s1.heap.objs.size + 1, [s1.heap.objs.size + 1, s1.heap.objs.size], _, _, H1, rfl, I2, turn_enumT a (s1.heap.objs.size + 1) s1.heap.objs.size, ⟨⟨.none, he⟩, ⟨_, hit, rfl, rfl⟩, Nat.succ_ne_self _⟩, fun b hb => ?_, q⟩
  have hle : s1.heap.objs.size ≤ b := by
    rcases List.mem_cons.mp hb with rfl | hb
    · exact Nat.le_add_right _ _
    · obtain rfl : b = s1.heap.objs.size := by simpa using hb
      exact Nat.le_refl _
  exact I1.fpOk hle (I1.hok.fresh hle)
end Ss
namespace Ss
open PySem L2
/-! ### patterns: what an object of the class holds -/
structure Pt where
  ms : List (Str × Str)
  fi : Nat
  la : Nat
  fo : List Nat
  em : Bool
structure Pt.Ok (P : Pt) : Prop where
  fo : P.fo.length = P.ms.length
  fi : P.fi < 2 ^ P.ms.length
  la : P.la < 2 ^ P.ms.length
  fb : ∀ a ∈ P.fo, a < 2 ^ P.ms.length
def led (fo : List Nat) (so ta : Nat) : List Nat := (List.range fo.length).map fun i => if so.testBit i then fo.getD i 0 ||| ta else fo.getD i 0
def por (P Q : Pt) : Pt := ⟨P.ms ++ Q.ms, P.fi ||| Q.fi <<< P.ms.length, P.la ||| Q.la <<< P.ms.length, P.fo ++ Q.fo.map (· <<< P.ms.length), P.em || Q.em⟩
def padd (P Q : Pt) : Pt := ⟨P.ms ++ Q.ms, if P.em then P.fi ||| Q.fi <<< P.ms.length else P.fi, if Q.em then P.la ||| Q.la <<< P.ms.length else Q.la <<< P.ms.length,
  led (P.fo ++ Q.fo.map (· <<< P.ms.length)) P.la (Q.fi <<< P.ms.length), P.em && Q.em⟩
def pneg (P : Pt) : Pt := ⟨P.ms, P.fi, P.la, P.fo, true⟩
def ppos (P : Pt) : Pt := ⟨P.ms, P.fi, P.la, led P.fo P.la P.fi, P.em⟩
def pinv (P : Pt) : Pt := pneg (ppos P)
def pone (a b : Str) : Pt := ⟨[(a, b)], 1, 1, [0], false⟩
def pnil : Pt := ⟨[], 0, 0, [], true⟩
def pmul (P : Pt) : Nat → Pt
  | 0 => pnil
  | n + 1 => padd (pmul P n) P
def pshr (P Q : Pt) : Pt := ppos (padd P Q)
def pfd (P Q : Pt) : Pt := ⟨P.ms ++ Q.ms, (pshr P Q).fi, if P.em then P.la ||| Q.la <<< P.ms.length else P.la, (pshr P Q).fo, P.em⟩
def pshl (P Q : Pt) : Pt := ⟨P.ms ++ Q.ms, (pshr P Q).fi, P.la ||| Q.la <<< P.ms.length, (pshr P Q).fo, P.em⟩
theorem shl_lt {b n m : Nat} (h : b < 2 ^ m) : b <<< n < 2 ^ (n + m) := by
  rw [Nat.shiftLeft_eq, Nat.pow_add, Nat.mul_comm]
  exact Nat.mul_lt_mul_of_pos_left h (Nat.two_pow_pos n)
theorem lt_more {a n m : Nat} (h : a < 2 ^ n) : a < 2 ^ (n + m) := Nat.lt_of_lt_of_le h (Nat.pow_le_pow_right (by decide) (Nat.le_add_right _ _))
theorem or_lt {a b n : Nat} (h : a < 2 ^ n) (k : b < 2 ^ n) : a ||| b < 2 ^ n := Nat.or_lt_two_pow h k
theorem led_len {fo : List Nat} {so ta : Nat} : (led fo so ta).length = fo.length := by unfold led; rw [List.length_map, List.length_range]
theorem led_lt {fo : List Nat} {so ta n : Nat} (h : ∀ a ∈ fo, a < 2 ^ n) (k : ta < 2 ^ n) : ∀ a ∈ led fo so ta, a < 2 ^ n := by
  intro a ha
  unfold led at ha
  obtain ⟨i, hi, rfl⟩ := List.mem_map.mp ha
  have hi := List.mem_range.mp hi
  have hg : fo.getD i 0 < 2 ^ n := by
    rw [List.getD_eq_getElem?_getD, List.getElem?_eq_getElem hi]
    exact h _ (List.getElem_mem hi)
  split
  · exact or_lt hg k
  · exact hg
theorem fo_or {P Q : Pt} (p : P.Ok) (q : Q.Ok) : ∀ a ∈ P.fo ++ Q.fo.map (· <<< P.ms.length), a < 2 ^ (P.ms.length + Q.ms.length) := by
  intro a ha
  rcases List.mem_append.mp ha with h | h
  · exact lt_more (p.fb a h)
  · obtain ⟨b, hb, rfl⟩ := List.mem_map.mp h
    exact shl_lt (q.fb b hb)
theorem por_ok {P Q : Pt} (p : P.Ok) (q : Q.Ok) : (por P Q).Ok := by
  refine ⟨?_, ?_, ?_, ?_⟩
  · simp [por, p.fo, q.fo]
  · simp only [por, List.length_append]; exact or_lt (lt_more p.fi) (shl_lt q.fi)
  · simp only [por, List.length_append]; exact or_lt (lt_more p.la) (shl_lt q.la)
  · simp only [por, List.length_append]; exact fo_or p q
theorem padd_ok {P Q : Pt} (p : P.Ok) (q : Q.Ok) : (padd P Q).Ok := by
  refine ⟨?_, ?_, ?_, ?_⟩
  · simp [padd, led_len, p.fo, q.fo]
  · simp only [padd, List.length_append]
    split
    · exact or_lt (lt_more p.fi) (shl_lt q.fi)
    · exact lt_more p.fi
  · simp only [padd, List.length_append]
    split
    · exact or_lt (lt_more p.la) (shl_lt q.la)
    · exact shl_lt q.la
  · simp only [padd, List.length_append]; exact led_lt (fo_or p q) (shl_lt q.fi)
theorem pneg_ok {P : Pt} (p : P.Ok) : (pneg P).Ok := ⟨p.fo, p.fi, p.la, p.fb⟩
theorem ppos_ok {P : Pt} (p : P.Ok) : (ppos P).Ok := ⟨led_len.trans p.fo, p.fi, p.la, led_lt p.fb p.fi⟩
theorem pone_ok (a b : Str) : (pone a b).Ok := ⟨rfl, (by decide : 1 < 2 ^ 1), (by decide : 1 < 2 ^ 1), (by decide : ∀ a ∈ [0], a < 2 ^ 1)⟩
theorem pnil_ok : pnil.Ok := ⟨rfl, (by decide : 0 < 2 ^ 0), (by decide : 0 < 2 ^ 0), (by decide : ∀ a ∈ ([] : List Nat), a < 2 ^ 0)⟩
theorem pmul_ok {P : Pt} (p : P.Ok) : ∀ n, (pmul P n).Ok
  | 0 => pnil_ok
  | n + 1 => padd_ok (pmul_ok p n) p
theorem pshr_ok {P Q : Pt} (p : P.Ok) (q : Q.Ok) : (pshr P Q).Ok := ppos_ok (padd_ok p q)
theorem pfd_ok {P Q : Pt} (p : P.Ok) (q : Q.Ok) : (pfd P Q).Ok := by
  have k := pshr_ok p q
  refine ⟨k.fo, k.fi, ?_, k.fb⟩
  simp only [pfd, List.length_append]
  split
  · exact or_lt (lt_more p.la) (shl_lt q.la)
  · exact lt_more p.la
theorem pshl_ok {P Q : Pt} (p : P.Ok) (q : Q.Ok) : (pshl P Q).Ok := by
  have k := pshr_ok p q
  refine ⟨k.fo, k.fi, ?_, k.fb⟩
  simp only [pshl, List.length_append]
  exact or_lt (lt_more p.la) (shl_lt q.la)
/-! ### on the heap -/
def pfl (tm tf : Addr) (P : Pt) : List (Str × V) := [("marks", .ref tm), ("first", .int P.fi), ("last", .int P.la), ("follow", .ref tf), ("empty", .bl P.em)]
theorem pf_m {tm tf : Addr} {P : Pt} : (pfl tm tf P).lookup ("marks" : Str) = some (.ref tm) := rfl
theorem pf_f {tm tf : Addr} {P : Pt} : (pfl tm tf P).lookup ("first" : Str) = some (.int P.fi) := rfl
theorem pf_l {tm tf : Addr} {P : Pt} : (pfl tm tf P).lookup ("last" : Str) = some (.int P.la) := rfl
theorem pf_fo {tm tf : Addr} {P : Pt} : (pfl tm tf P).lookup ("follow" : Str) = some (.ref tf) := rfl
theorem pf_e {tm tf : Addr} {P : Pt} : (pfl tm tf P).lookup ("empty" : Str) = some (.bl P.em) := rfl
theorem pf_put {tm tf : Addr} {P : Pt} : putF "empty" (.bl P.em) (putF "follow" (.ref tf) (putF "last" (.int P.la) (putF "first" (.int P.fi) (putF "marks" (.ref tm) [])))) = pfl tm tf P := rfl
/-- the values ss are the steps ms -/
def StepsAt (K : PySem.W.Frag) (H : Hp) (ss : List V) (ms : List (Str × Str)) : Prop := ss.length = ms.length ∧ ∀ (i : Nat) (a b : Str), ms[i]? = some (a, b) → ∃ q : Addr, ss[i]? = some (V.ref q) ∧ SqT K H q [V.str a, V.str b]
theorem StepsAt.mono {K : PySem.W.Frag} {H H' : Hp} {ss : List V} {ms : List (Str × Str)} (h : StepsAt K H ss ms) (s : Same H H') : StepsAt K H' ss ms :=
  ⟨h.1, fun i a b e => let ⟨q, h1, h2⟩ := h.2 i a b e; ⟨q, h1, Evl.ex_t s h2⟩⟩
theorem StepsAt.cat {K : PySem.W.Frag} {H : Hp} {ss tt : List V} {ms ns : List (Str × Str)} (h : StepsAt K H ss ms) (k : StepsAt K H tt ns) : StepsAt K H (ss ++ tt) (ms ++ ns) := by
  refine ⟨by rw [List.length_append, List.length_append, h.1, k.1], fun i a b e => ?_⟩
  by_cases hi : i < ms.length
  · rw [List.getElem?_append_left hi] at e
    rw [List.getElem?_append_left (by rw [h.1]; exact hi)]
    exact h.2 i a b e
  · rw [List.getElem?_append_right (by omega)] at e
    rw [List.getElem?_append_right (by rw [h.1]; omega), h.1]
    exact k.2 _ a b e
/-- the pattern P stands at p -/
structure PatAt (K : PySem.W.Frag) (H : Hp) (C p : Addr) (P : Pt) : Prop where
  ok : P.Ok
  ex : ∃ dx tm tf ss, H p = some (.ins C dx (pfl tm tf P)) ∧ SqT K H tm ss ∧ StepsAt K H ss P.ms ∧ SqT K H tf (P.fo.map fun (a : Nat) => V.int a)
theorem PatAt.mono {K : PySem.W.Frag} {H H' : Hp} {C p : Addr} {P : Pt} (h : PatAt K H C p P) (s : Same H H') : PatAt K H' C p P := by
  obtain ⟨o, dx, tm, tf, ss, h1, h2, h3, h4⟩ := h
  exact ⟨o, dx, tm, tf, ss, s _ _ h1, Evl.ex_t s h2, h3.mono s, Evl.ex_t s h4⟩
theorem PatAt.own {K : PySem.W.Frag} {H : Hp} {C p : Addr} {P : Pt} (h : PatAt K H C p P) : Own H p C := by
  obtain ⟨o, dx, tm, tf, ss, h1, _⟩ := h
  exact ⟨dx, _, h1⟩
/-- what the text's class of patterns is asked for -/
structure PCl (K : PySem.W.Frag) (C : Addr) : Prop where
  cl : Cls K C
  m : NoAttr K C "marks"
  f : NoAttr K C "first"
  l : NoAttr K C "last"
  fo : NoAttr K C "follow"
  e : NoAttr K C "empty"
  sf : PySem.W.selfFirst K C = true
/-! ### what signs do to numbers -/
section
variable {σ : L2.St} {H : Hp} {ta tb : TE} {a b : Nat}
theorem ev_or (ha : Evl.Ev ta σ H (.int a)) (hb : Evl.Ev tb σ H (.int b)) : Evl.Ev (tOp (rI0 fun i j => .int (Builtin.bitOr i j)) ta tb) σ H (.int ((a ||| b : Nat) : Int)) :=
  Evl.ev_op ha hb fun H1 _ Q q => ⟨_, _, rfl, rfl, by
    show Q (.int (Builtin.bitOr (a : Int) (b : Int))) H1
    rw [bitOr_nn (Int.natCast_nonneg a) (Int.natCast_nonneg b), Int.toNat_natCast, Int.toNat_natCast]
    exact q H1 (Evl.Ex.refl H1)⟩
theorem ev_and (ha : Evl.Ev ta σ H (.int a)) (hb : Evl.Ev tb σ H (.int b)) : Evl.Ev (tOp (rI0 fun i j => .int (Builtin.bitAnd i j)) ta tb) σ H (.int ((a &&& b : Nat) : Int)) :=
  Evl.ev_op ha hb fun H1 _ Q q => ⟨_, _, rfl, rfl, by
    show Q (.int (Builtin.bitAnd (a : Int) (b : Int))) H1
    rw [PySem.W.os_band]
    exact q H1 (Evl.Ex.refl H1)⟩
theorem ev_shr (ha : Evl.Ev ta σ H (.int a)) (hb : Evl.Ev tb σ H (.int b)) : Evl.Ev (tOp (rI (fun _ j => 0 ≤ j) fun i j => .int (i / 2 ^ j.toNat)) ta tb) σ H (.int ((a >>> b : Nat) : Int)) :=
  Evl.ev_op ha hb fun H1 _ Q q => ⟨_, _, rfl, rfl, Int.natCast_nonneg b, by
    show Q (.int ((a : Int) / 2 ^ (b : Int).toNat)) H1
    rw [Int.toNat_natCast]
    have e : ((a : Int) / 2 ^ b) = ((a >>> b : Nat) : Int) := by rw [Nat.shiftRight_eq_div_pow, Int.natCast_ediv, Int.natCast_pow]; rfl
    rw [e]
    exact q H1 (Evl.Ex.refl H1)⟩
theorem ev_shl {n : Nat} (ha : Evl.Ev ta σ H (.int a)) (hb : Evl.Ev tb σ H (.int b)) (hn : a < 2 ^ n) (h1 : n ≤ 100000) (h2 : b ≤ 100000) : Evl.Ev (tOp (rI CShl fun i j => .int (i * 2 ^ j.toNat)) ta tb) σ H (.int ((a <<< b : Nat) : Int)) :=
  Evl.ev_op ha hb fun H1 _ Q q => ⟨_, _, rfl, rfl, ⟨Int.natCast_nonneg b, by
    have := PySem.intBits_le_iff (m := n) (x := (a : Int)) |>.mpr (by rw [Int.natAbs_natCast]; exact hn)
    omega⟩, by
    show Q (.int ((a : Int) * 2 ^ (b : Int).toNat)) H1
    rw [Int.toNat_natCast]
    have e : ((a : Int) * 2 ^ b) = ((a <<< b : Nat) : Int) := by rw [Nat.shiftLeft_eq, Int.natCast_mul, Int.natCast_pow]; rfl
    rw [e]
    exact q H1 (Evl.Ex.refl H1)⟩
end
end Ss
namespace Ss
open PySem L2 Evl
section
variable {K : PySem.W.Frag} {σ : L2.St} {H : Hp} {te tl ta tb : TE} {tt : TT} {xs : List V} {a : Addr}
theorem walk_enumT : Walk (Iet K a) xs.length (fun H => SqT K H a xs) (YPair (fun i => some (.int (i : Nat))) (fun i => xs[i]?)) := by
  refine ⟨fun n _ hn q => ⟨xs, xs[n], q, List.getElem?_eq_getElem hn⟩, fun _ q => ⟨xs, q, rfl⟩, fun n H v H' _ q y => ?_⟩
  obtain ⟨T, x, h1, h2, h3, h4⟩ := y
  exact ⟨T, .int (n : Nat), x, h1, h2, h3, rfl, h4 xs q⟩
/-- [.. for n, x in enumerate(t)], t a tuple -/
theorem el_lcE {i j : Nat} {vs : List Nat} (v : Nat → V) (h : Ev tl σ H (.ref a)) (hx : SqT K H a xs) (hz : xs.length ≤ 40000) (hw : ∀ x y, wipe (((wipe σ vs).set i (some x)).set j (some y)) vs = wipe σ vs)
    (he : ∀ (n : Nat) (x : V) H1, Ex H H1 → xs[n]? = some x → Ev te (((wipe σ vs).set i (some (.int (n : Nat)))).set j (some x)) H1 (v n)) :
    EvL (tLc (iEnumT K (tCons tl tNil)) (gTup K 2 (gCons (gName i) (gCons (gName j) gNil))) tYes te vs) σ H ((List.range xs.length).map v) := fun H0 e Q q => h H0 e _ fun H1 e1 => by
  refine ⟨a, xs, rfl, ex_t (e.trans e1) hx, fun Dl hD => ?_⟩
  refine lc_it (walk_enumT (xs := xs)) (Cw H1 (fun _ => true) v Dl) ⟨hD, Ex.new hD, upd_same⟩ (fun n H' _ p => ex_t ((e.trans e1).trans p.2.1) hx) (fun n x H' H2 hn p y => ?_) (fun H' p => ?_)
  · obtain ⟨T, x1, x2, rfl, hT, rfl, z1, z2⟩ := y
    cases z1
    have nD : Dl ≠ T := fun z => by rw [← z, p.2.2] at hT; cases hT
    have p' : Cw H1 (fun _ => true) v Dl n (upd H' T (.tup [.int (n : Nat), x2])) := ⟨p.1, Ex.trans p.2.1 (Ex.new hT), by rw [upd_ne nD]; exact p.2.2⟩
    exact ⟨T, _, rfl, st_of upd_same, rfl, _, _, rfl, _, _, rfl, rfl, hw _ _, cw_turn p' (by omega) (fun H3 _ Q3 q3 => q3 H3 (Ex.refl H3)) (fun _ => he n x2 H1 (e.trans e1) z2)⟩
  · have r := p.2.2
    rw [show given xs.length (fun _ => true) v = (List.range xs.length).map v by unfold given; rw [List.filter_eq_self.mpr (fun _ _ => rfl)]] at r
    exact q Dl H' (fresh_back e1 p.1) (e1.trans p.2.1) r
/-- tuple(..) of a new list, of a tuple -/
theorem eu_tuple (h : EvL tl σ H xs) : EvU (tCB (fun xs H Q => ∃ p ys, xs = [.ref p] ∧ ((SqL K H p ys ∧ ∀ l, H l = none → Q (.ref l) (upd H l (.tup ys))) ∨ (SqT K H p ys ∧ Q (.ref p) H))) (tCons tl tNil)) σ H xs := fun H0 e Q q =>
  h H0 e _ fun p H1 hp e1 h1 => ⟨p, xs, rfl, .inl ⟨sq_of h1, fun l hl => q l _ (fresh_back e1 hl) (Ex.trans e1 (Ex.new hl)) upd_same⟩⟩
/-- a tuple of the items xs, new or not -/
def EvS (K : PySem.W.Frag) (te : TE) (σ : L2.St) (H : Hp) (xs : List V) : Prop := ∀ H1, Ex H H1 → ∀ Q : VK, (∀ p H2, Ex H1 H2 → SqT K H2 p xs → Q (.ref p) H2) → te σ H1 Q
theorem EvS.mono {H' : Hp} (e : Ex H H') (h : EvS K te σ H xs) : EvS K te σ H' xs := fun H1 a Q q => h H1 (e.trans a) Q q
theorem EvU.mono {H' : Hp} (e : Ex H H') (h : EvU te σ H xs) : EvU te σ H' xs := fun H1 a Q q => h H1 (e.trans a) Q q
theorem es_new (h : EvU te σ H xs) : EvS K te σ H xs := fun H1 e Q q => h H1 e Q fun p H2 _ e2 h2 => q p H2 e2 (st_of h2)
theorem es_at (h : Ev te σ H (.ref a)) (hx : SqT K H a xs) : EvS K te σ H xs := fun H1 e Q q => h H1 e _ fun H2 e2 => q a H2 e2 (ex_t (e.trans e2) hx)
theorem es_cat {ys : List V} (h1 : EvS K ta σ H xs) (h2 : EvS K tb σ H ys) (hz : xs.length + ys.length ≤ 100000) : EvS K (tOp (rCatA K) ta tb) σ H (xs ++ ys) := fun H1 e Q q =>
  h1 H1 e _ fun p H2 e2 s2 => h2 H2 (e.trans e2) _ fun r H3 e3 s3 => ⟨p, r, xs, ys, rfl, rfl, ex_t e3 s2, s3, sz_of hz, fun z => by subst z; exact q r H3 (e2.trans e3) s3, fun _ z => by subst z; exact q p H3 (e2.trans e3) (by rw [List.append_nil]; exact ex_t e3 s2), fun _ _ l hl => q l _ ((e2.trans e3).trans (Ex.new hl)) (st_of upd_same)⟩
/-- [.. for x in t], t a tuple -/
theorem el_lcTu {j : Nat} {vs : List Nat} (v : Nat → V) (h : Ev tl σ H (.ref a)) (hx : SqT K H a xs) (hz : xs.length ≤ 40000) (hw : ∀ x, wipe ((wipe σ vs).set j (some x)) vs = wipe σ vs)
    (he : ∀ (n : Nat) (x : V) H1, Ex H H1 → xs[n]? = some x → Ev te ((wipe σ vs).set j (some x)) H1 (v n)) :
    EvL (tLc (iTup K tl) (gName j) tYes te vs) σ H ((List.range xs.length).map v) := fun H0 e Q q => h H0 e _ fun H1 e1 => by
  refine ⟨a, rfl, ⟨xs, ex_t (e.trans e1) hx⟩, fun Dl hD => ?_⟩
  refine lc_it (walk_tup (xs := xs)) (Cw H1 (fun _ => true) v Dl) ⟨hD, Ex.new hD, upd_same⟩ (fun n H' _ p => ex_t ((e.trans e1).trans p.2.1) hx) (fun n x H' H2 hn p y => ?_) (fun H' p => ?_)
  · obtain ⟨rfl, z⟩ := y
    exact ⟨hw _, cw_turn p (by omega) (fun H3 _ Q3 q3 => q3 H3 (Ex.refl H3)) (fun _ => he n x H1 (e.trans e1) z)⟩
  · have r := p.2.2
    rw [show given xs.length (fun _ => true) v = (List.range xs.length).map v by unfold given; rw [List.filter_eq_self.mpr (fun _ _ => rfl)]] at r
    exact q Dl H' (fresh_back e1 p.1) (e1.trans p.2.1) r
/-- a field of an object -/
theorem ev_fld {p C dx : Addr} {fs : List (Str × V)} {f : Str} {v : V} (h : Ev te σ H (.ref p)) (e : H p = some (.ins C dx fs)) (c : Cls K C) (n : NoAttr K C f) (l : fs.lookup f = some v) : Ev (tFld K te f) σ H v := fun H1 s Q q =>
  h H1 s _ fun H2 s2 => ⟨p, C, dx, fs, v, rfl, s2 _ _ (s _ _ e), c, n, l, q H2 s2⟩
theorem ev_lenT {p : Addr} (h : Ev te σ H (.ref p)) (hx : SqT K H p xs) : Ev (tCB (rLenS K) (tCons te tNil)) σ H (.int (xs.length : Int)) := fun H1 s Q q =>
  h H1 s _ fun H2 s2 => ⟨p, xs, rfl, .inr (ex_t (s.trans s2) hx), q H2 s2⟩
end
end Ss
set_option maxHeartbeats 1000000
/-! sets of rules: what their defs promise -/
namespace Ss
open PySem PySem.Spec PyProof.Rows L2
theorem alike_strs : ∀ a b : List Str, PySem.W.alikeAll (a.map PyData.str) (b.map PyData.str) = true
  | [], _ => by simp [PySem.W.alikeAll]
  | _ :: _, [] => by simp [PySem.W.alikeAll]
  | x :: xs, y :: ys => by
    show PySem.W.alikeAll (.str x :: xs.map .str) (.str y :: ys.map .str) = true
    rw [PySem.W.alikeAll, alike_strs xs ys]
    rfl
theorem rkey_alike (a b : Rl) : PySem.W.alike (rkeyD a) (rkeyD b) = true := by
  show PySem.W.alikeAll [.int a.1.idx, .tuple (a.2.map PyData.str)] [.int b.1.idx, .tuple (b.2.map PyData.str)] = true
  rw [PySem.W.alikeAll, PySem.W.alikeAll]
  have := alike_strs a.2 b.2
  simp [PySem.W.alike, PySem.W.alikeAll, this]
theorem depth_strs : ∀ a : List Str, PyData.depthAll (a.map PyData.str) = 0 := deep_strs
theorem rkey_depth (r : Rl) : (rkeyD r).depth ≤ 10 := by
  show PyData.depthAll [.int r.1.idx, .tuple (r.2.map PyData.str)] + 1 ≤ 10
  have h := depth_strs r.2
  simp only [PyData.depthAll, PyData.depth, h]
  decide
def RK.ix : RK → Nat
  | .out => 0
  | .twice => 1
  | .swapped => 2
  | .taken => 3
theorem RK.ix_idx (k : RK) : ((k.ix : Nat) : Int) = k.idx := by cases k <;> rfl
abbrev WORDS4 : List Str := ["out", "twice", "swapped", "taken"]
theorem RK.ix_at (k : RK) : WORDS4[k.ix]? = some k.word := by cases k <;> rfl
theorem RK.ix_first (k : RK) : ∀ m, m < k.ix → WORDS4[m]? ≠ some k.word := by
  cases k <;> decide +kernel
/-! ### promises -/
def spRank (K : PySem.W.Frag) (Cf : RK → Addr) : Sp := fun vs H Q _ => ∃ (p : Addr) (r : Rl), vs = [.ref p] ∧ RuleAt H (Cf r.1) p r.1 r.2 ∧ ∀ v H', Same H H' → Dp K H' v (rkeyD r) → Q v H'
/-- Slips.__init__: t the tuple of the rules -/
def spSI (K : PySem.W.Frag) (Cs : Addr) (Cf : RK → Addr) : Sp := fun vs H Q _ => ∃ (p t dx : Addr) (us : List V) (rs : List Rl), vs = [.ref p, .ref t] ∧ H t = some (.tup us) ∧ RulesR H Cf us rs ∧ (∀ r ∈ rs, RlOk r) ∧ rs.length ≤ 1000 ∧ H p = some (.ins Cs dx []) ∧
  ∀ l H', SetOf l rs → Off p H H' → SlipsAt K H' Cs Cf p l → Q .non H'
def spSIs (K : PySem.W.Frag) (Cs : Addr) (Cf : RK → Addr) : Sp := fun vs H Q E => ∃ ws rest, vs = ws ++ rest ∧ ws.length = 1 ∧ rest.length ≤ sizeLine ∧ ∀ p, H p = none → spSI K Cs Cf (ws ++ [V.ref p]) (upd H p (.tup rest)) Q E
/-- Slips.of -/
def spSof (K : PySem.W.Frag) (Cs : Addr) (Cf : RK → Addr) : Sp := fun vs H Q _ => ∃ (a : Addr) (us : List V) (rs : List Rl), vs = [.ref Cs, .ref a] ∧ (SqT K H a us ∨ SqL K H a us) ∧ RulesR H Cf us rs ∧ (∀ r ∈ rs, RlOk r) ∧ rs.length ≤ 1000 ∧
  ∀ q l H', H q = none → Same H H' → SetOf l rs → SlipsAt K H' Cs Cf q l → Q (.ref q) H'
/-- two sets: a new one of the rules S -/
def spS2 (K : PySem.W.Frag) (Cs : Addr) (Cf : RK → Addr) (S : List Rl → List Rl → List Rl) : Sp := fun vs H Q _ => ∃ (p q : Addr) (l m : List Rl), vs = [.ref p, .ref q] ∧ SlipsAt K H Cs Cf p l ∧ SlipsAt K H Cs Cf q m ∧ (∀ r ∈ l, RlOk r) ∧ (∀ r ∈ m, RlOk r) ∧ l.length ≤ 100 ∧ m.length ≤ 100 ∧ l.Nodup ∧ m.Nodup ∧
  ∀ x n H', H x = none → Same H H' → SetOf n (S l m) → SlipsAt K H' Cs Cf x n → Q (.ref x) H'
abbrev sAnd (l m : List Rl) : List Rl := l.filter fun r => decide (r ∈ m)
abbrev sSub (l m : List Rl) : List Rl := l.filter fun r => !decide (r ∈ m)
abbrev sOr (l m : List Rl) : List Rl := l ++ m
abbrev sXor (l m : List Rl) : List Rl := sSub l m ++ sSub m l
def spSIn (K : PySem.W.Frag) (Cs : Addr) (Cf : RK → Addr) : Sp := fun vs H Q _ => ∃ (p x : Addr) (l : List Rl) (r : Rl), vs = [.ref p, .ref x] ∧ SlipsAt K H Cs Cf p l ∧ (∀ r ∈ l, RlOk r) ∧ RuleAt H (Cf r.1) x r.1 r.2 ∧ RlOk r ∧ ∀ H', Same H H' → Q (.bl (decide (r ∈ l))) H'
def spSLen (K : PySem.W.Frag) (Cs : Addr) (Cf : RK → Addr) : Sp := fun vs H Q _ => ∃ (p : Addr) (l : List Rl), vs = [.ref p] ∧ SlipsAt K H Cs Cf p l ∧ ∀ H', Same H H' → Q (.int (l.length : Nat)) H'
def spSWithin (K : PySem.W.Frag) (Cs : Addr) (Cf : RK → Addr) : Sp := fun vs H Q _ => ∃ (p q : Addr) (l m : List Rl), vs = [.ref p, .ref q] ∧ SlipsAt K H Cs Cf p l ∧ SlipsAt K H Cs Cf q m ∧ (∀ r ∈ l, RlOk r) ∧ (∀ r ∈ m, RlOk r) ∧ l.length ≤ 100 ∧ m.length ≤ 100 ∧ l.Nodup ∧ m.Nodup ∧
  ∀ H', Same H H' → Q (.bl (decide (sSub l m = []))) H'
structure SCl (K : PySem.W.Frag) (Cs : Addr) : Prop where
  cl : Cls K Cs
  nn : NoAttr K Cs "_named"
  nr : NoAttr K Cs "rules"
/-! ### words -/
theorem RuleAt.off {H H' : Hp} {C q p Cs dx : Addr} {k : RK} {toks : List Str} {fs : List (Str × V)} (h : RuleAt H C q k toks) (o : Off p H H') (hp : H p = some (.ins Cs dx fs)) (hf : fs.length < 3) : RuleAt H' C q k toks := by
  obtain ⟨dx', t, r, i, h1, h2, h3, h4⟩ := h
  refine ⟨dx', t, r, i, o _ _ (fun e => ?_) h1, o _ _ (fun e => ?_) h2, o _ _ (fun e => ?_) h3, o _ _ (fun e => ?_) h4⟩
  · rw [e, hp] at h1
    injection h1 with h1
    injection h1 with _ _ h1
    rw [h1] at hf
    exact absurd hf (by simp)
  · rw [e, hp] at h2; cases h2
  · rw [e, hp] at h3; cases h3
  · rw [e, hp] at h4; cases h4
theorem RulesR.off {H H' : Hp} {Cf : RK → Addr} {p Cs dx : Addr} {us : List V} {rs : List Rl} {fs : List (Str × V)} (h : RulesR H Cf us rs) (o : Off p H H') (hp : H p = some (.ins Cs dx fs)) (hf : fs.length < 3) : RulesR H' Cf us rs :=
  ⟨h.1, fun i r e => let ⟨q, a, b⟩ := h.2 i r e; ⟨q, a, b.off o hp hf⟩⟩
theorem EntR.off {H H' : Hp} {Cf : RK → Addr} {p Cs dx : Addr} {es : List (Key × V)} {ds : List Rl} {fs : List (Str × V)} (h : EntR H Cf es ds) (o : Off p H H') (hp : H p = some (.ins Cs dx fs)) (hf : fs.length < 3) : EntR H' Cf es ds := by
  induction h with
  | nil => exact .nil
  | cons a _ ih => exact .cons (a.off o hp hf) ih
theorem rules_zip {H : Hp} {Cf : RK → Addr} {us : List V} {ds : List Rl} (h : RulesR H Cf us ds) : ∀ p ∈ us.zip ds, ∃ a, p.1 = .ref a ∧ RuleAt H (Cf p.2.1) a p.2.1 p.2.2 := fun p hp => by
  obtain ⟨i, hi⟩ := List.getElem?_of_mem hp
  rw [List.getElem?_zip_eq_some] at hi
  obtain ⟨a, h1, h2⟩ := h.2 i p.2 hi.2
  rw [hi.1] at h1
  exact ⟨a, Option.some.inj h1, h2⟩
theorem rules_of {H : Hp} {Cf : RK → Addr} : ∀ {ps : List (V × Rl)}, (∀ p ∈ ps, ∃ a, p.1 = .ref a ∧ RuleAt H (Cf p.2.1) a p.2.1 p.2.2) → RulesR H Cf (ps.map (·.1)) (ps.map (·.2))
  | [], _ => .nil
  | p :: ps, h => by
    obtain ⟨a, e, r⟩ := h p List.mem_cons_self
    rw [List.map_cons, List.map_cons, e]
    exact .cons r (rules_of fun q hq => h q (List.mem_cons_of_mem _ hq))
/-- sorted(a list of rules, key=_rank) -/
theorem sort_rules {K : PySem.W.Frag} {Cf : RK → Addr} {H : Hp} {a : Addr} {us : List V} {ds : List Rl} {Q : VK} (hl : SqL K H a us) (hr : RulesR H Cf us ds)
    (k : ∀ p us' H2, H p = none → Same H H2 → H2 p = none → RulesR H2 Cf us' (ds.mergeSort leR) → us'.length = us.length → Q (.ref p) (upd H2 p (.lst us'))) : rSortBy K (spRank K Cf) [.ref a] H Q := by
  have ez1 : (us.zip ds).map (·.1) = us := List.map_fst_zip (Nat.le_of_eq hr.1)
  have ez2 : (us.zip ds).map (·.2) = ds := List.map_snd_zip (Nat.le_of_eq hr.1.symm)
  generalize hps : us.zip ds = ps at ez1 ez2
  have all : ∀ p ∈ ps, ∃ a, p.1 = .ref a ∧ RuleAt H (Cf p.2.1) a p.2.1 p.2.2 := by rw [← hps]; exact rules_zip hr
  refine ⟨a, ps.map fun p => (p.1, rkeyD p.2), rfl, ?_, ?_, ?_, ?_, ?_, ?_⟩
  · rw [List.map_map]
    have e : ((fun x : V × PyData => x.1) ∘ fun p : V × Rl => (p.1, rkeyD p.2)) = fun p => p.1 := rfl
    rw [e, ez1]; exact hl
  · rw [List.map_map]; exact PySem.W.AllAlike.of fun b b' => rkey_alike b.2 b'.2
  · rw [List.map_map]; exact PySem.W.Sortable.tuples fun b => ⟨_, _, rfl⟩
  · intro b hb
    obtain ⟨p, _, rfl⟩ := List.mem_map.mp hb
    exact rkey_depth p.2
  · intro b hb H1 s1 Q' q
    obtain ⟨p, hp, rfl⟩ := List.mem_map.mp hb
    obtain ⟨x, ex, hx⟩ := all p hp
    refine ⟨x, p.2, ?_, hx.mono s1, q⟩
    show [p.1] = _
    rw [ex]
  · intro p H2 np s2 np2
    have e1 : ((ps.map fun p => (p.1, rkeyD p.2)).mergeSort (PySem.W.dataLe false (·.2))) = (ps.mergeSort fun x y => leR x.2 y.2).map fun p => (p.1, rkeyD p.2) := by
      symm
      exact List.map_mergeSort fun a _ b _ => rfl
    have e2 : (ps.mergeSort fun x y => leR x.2 y.2).map (·.2) = ds.mergeSort leR := by
      rw [← ez2]
      exact List.map_mergeSort fun a _ b _ => rfl
    rw [e1, List.map_map]
    have e3 : ((fun x : V × PyData => x.1) ∘ fun p : V × Rl => (p.1, rkeyD p.2)) = fun p => p.1 := rfl
    rw [e3]
    have pm := List.mergeSort_perm ps fun x y => leR x.2 y.2
    have rr := (rules_of (Cf := Cf) (H := H) (ps := ps.mergeSort fun x y => leR x.2 y.2) fun p hp => all p (pm.mem_iff.mp hp)).mono s2
    rw [e2] at rr
    refine k p _ H2 np s2 np2 rr ?_
    rw [List.length_map, List.length_mergeSort, ← ez1, List.length_map]
section
variable {K : PySem.W.Frag} {σ : L2.St} {H : Hp} {t : Addr} {us : List V} {rs : List Rl} {tl tk : TE} {i : Nat} {Cf : RK → Addr}
/-- {str(rule): rule for rule in rules} -/
theorem el_named {Q : VK} (hl : Evl.Ev tl σ H (.ref t)) (hx : SqT K H t us) (hr : RulesR H Cf us rs) (ok : ∀ r ∈ rs, RlOk r) (hn : rs.length ≤ 1000)
    (hw : ∀ x, wipe ((wipe σ [i]).set i (some x)) [i] = wipe σ [i]) (hv : ∀ x, ((wipe σ [i]).set i (some x))[i]? = some (some x))
    (key : ∀ p r H1, Same H H1 → RuleAt H1 (Cf r.1) p r.1 r.2 → RlOk r → Evl.Ev tk ((wipe σ [i]).set i (some (.ref p))) H1 (.str (strRl r)))
    (k : ∀ d es ds H', H d = none → Same H H' → H' d = some (.dK es) → EntR H' Cf es ds → (∀ x ∈ ds, RlOk x) → ds.Nodup → (∀ r, r ∈ ds ↔ r ∈ rs) → ds.length ≤ 1000 → Q (.ref d) H') :
    tDc (iTup K tl) (gName i) tYes tk (tVar i) [i] σ H Q :=
  hl H (Evl.Ex.refl H) _ fun H1 e1 => ⟨t, rfl, ⟨us, Evl.ex_t e1 hx⟩, fun D hD => by
    have hr1 := hr.mono e1
    refine dc_tup (xs := us) (fun m H' => Same H1 H' ∧ ∃ es ds, H' D = some (.dK es) ∧ EntR H' Cf es ds ∧ (∀ x ∈ ds, RlOk x) ∧ ds.Nodup ∧ (∀ r, r ∈ ds ↔ r ∈ rs.take m) ∧ ds.length ≤ m)
      ⟨Same.new (Same.refl H1) hD, [], [], upd_same, .nil, (fun x h => nomatch h), List.nodup_nil, (fun r => by rw [List.take_zero]), Nat.le_refl _⟩ ?_ ?_ ?_
    · exact fun m H' _ h => Evl.ex_t (e1.trans h.1) hx
    · rintro m x H' hm ⟨s1, es, ds, eD, he, hok, nd, hds, hlen⟩
      have lt : m < rs.length := by rw [← hr.1]; exact (List.getElem?_eq_some_iff.mp hm).1
      obtain ⟨r, er⟩ : ∃ y, rs[m]? = some y := ⟨_, List.getElem?_eq_getElem lt⟩
      obtain ⟨p, ep, hp⟩ := hr1.2 m r er
      rw [hm] at ep
      cases ep
      have rok := ok r (List.mem_of_getElem? er)
      have e1' := e1.trans s1
      refine ⟨hw (.ref p), ?_⟩
      refine key p r H' e1' (hp.mono s1) rok H' (Evl.Ex.refl H') _ fun H2 s2 => ⟨_, hv (.ref p), es, Sum.inr (strRl r), rfl, s2 _ _ eD, ?_, ?_⟩
      · rw [he.len]
        exact Nat.lt_of_le_of_lt (show ds.length ≤ 1000 by omega) (by decide)
      · obtain ⟨ds', a1, a2, a3, a4, a5⟩ := (he.mono s2).put hok nd rok ((hp.mono s1).mono s2)
        have nD : H1 D = none := hD
        have o2 : ∀ {C q : Addr} {k : RK} {toks : List Str}, RuleAt H2 C q k toks → RuleAt (upd H2 D (.dK (putK es (Sum.inr (strRl r)) (.ref p)))) C q k toks := fun {C q k toks} ⟨dx, t1, t2, t3, h1, h2, h3, h4⟩ => by
          have eD2 := s2 _ _ eD
          refine ⟨dx, t1, t2, t3, ?_, ?_, ?_, ?_⟩
          · rw [upd_ne fun e => by rw [e, eD2] at h1; cases h1]; exact h1
          · rw [upd_ne fun e => by rw [e, eD2] at h2; cases h2]; exact h2
          · rw [upd_ne fun e => by rw [e, eD2] at h3; cases h3]; exact h3
          · rw [upd_ne fun e => by rw [e, eD2] at h4; cases h4]; exact h4
        refine ⟨fun a u h => ?_, _, ds', upd_same, ?_, a2, a3, fun x => ?_, by omega⟩
        · rw [upd_ne (ne_of_none h nD)]
          exact s2 _ _ (s1 _ _ h)
        · clear a2 a3 a4 a5
          generalize putK es (Sum.inr (strRl r)) (V.ref p) = es' at a1 o2 ⊢
          have : ∀ (l : List (Key × V)) (m : List Rl), EntR H2 Cf l m → EntR (upd H2 D (.dK es')) Cf l m := fun l m h => by
            induction h with
            | nil => exact .nil
            | cons a _ ih => exact .cons (o2 a) ih
          exact this _ _ a1
        · have et : rs.take (m + 1) = rs.take m ++ [r] := by rw [List.take_add_one, er]; rfl
          rw [a4, hds, et, List.mem_append, List.mem_singleton]
    · rintro H' ⟨s1, es, ds, eD, he, hok, nd, hds, hlen⟩
      rw [hr.1] at hds hlen
      rw [List.take_length] at hds
      exact k D es ds H' (Evl.fresh_back e1 hD) (e1.trans s1) eD he hok nd hds (Nat.le_trans hlen hn)⟩
/-- Slips(*e), e evaluated -/
theorem mk_slips {Cs : Addr} {E : XK} {Q : VK} {a : Addr} (hs : SqT K H a us ∨ SqL K H a us) (hr : RulesR H Cf us rs) (ok : ∀ r ∈ rs, RlOk r) (hn : rs.length ≤ 1000)
    (k : ∀ q l H', H q = none → Same H H' → SetOf l rs → SlipsAt K H' Cs Cf q l → Q (.ref q) H') :
    ∃ b xs, V.ref a = .ref b ∧ (SqT K H b xs ∨ SqL K H b xs) ∧ ∀ x dx, H x = none → H dx = none → dx ≠ x → spSIs K Cs Cf (.ref x :: xs) (upd (upd H dx (.own x)) x (.ins Cs dx [])) (fun v H2 => v = .non ∧ Q (.ref x) H2) E := by
  refine ⟨a, us, rfl, hs, fun x dx nx ndx ne => ?_⟩
  have hz : us.length ≤ sizeLine := Nat.le_trans (show us.length ≤ 1000 by rw [hr.1]; exact hn) (by decide)
  have s1 : Same H (upd (upd H dx (.own x)) x (.ins Cs dx [])) := (Evl.Ex.new ndx).trans (Evl.Ex.new (by rw [upd_ne ne.symm]; exact nx))
  refine ⟨[.ref x], us, rfl, rfl, hz, fun p hp => ?_⟩
  have s2 : Same H (upd (upd (upd H dx (.own x)) x (.ins Cs dx [])) p (.tup us)) := s1.trans (Evl.Ex.new hp)
  have npx : p ≠ x := fun e => by rw [e, upd_same] at hp; cases hp
  refine ⟨x, p, dx, us, rs, rfl, upd_same, hr.mono s2, ok, hn, by rw [upd_ne npx.symm]; exact upd_same, fun l H' hl o hs' => ⟨rfl, k x l H' nx (fun a u ha => ?_) hl hs'⟩⟩
  exact o a u (ne_of_none ha nx) (s2 _ _ ha)
end
end Ss
namespace Ss
open PySem L2
section
variable {P : Program} {w : World} {K : PySem.W.Frag} {mg : Str → Option Value} {base : Heap}
abbrev sZrank : Stmt := topS 21
theorem scZrank : FnScope ["rule"] ["rule"] (defScope sZrank) := ⟨rfl, rfl, rfl, by decide +kernel, rfl, by decide +kernel, by decide +kernel⟩
theorem ok_Zrank {Cf : RK → Addr} {R aW : Addr} (F : DefAt K mg "_rank" sZrank) (Z : RTab K mg Cf R) (gW : mg "WORDS" = some (.ref aW)) (hW : ∀ H, SqT K H aW (WORDS4.map V.str)) (tW : ∃ o, K.lookup aW = some o ∧ o.cls = .type "tuple" ∧ o.dict = none) : Dk P w K mg base CX0 1 "_rank" ["rule"] (spRank K Cf) := by
  obtain ⟨f, fd, F, mf⟩ := F.ex
  refine ⟨f, fd, F.ok scZrank (fun vs H Q E h => ?_) (fun cdv A outer s H vs Q E hr h => ?_), mf, F.kp, F.binds fun _ _ _ _ _ _ us hl => match us, hl with | [_], _ => rfl⟩
  · obtain ⟨p, r, rfl, _⟩ := h; rfl
  · obtain ⟨p, r, rfl, hR, k⟩ := h
    refine ⟨_, (pss_one (ps_ret (pe_tup (pa_cons (pe_bm PySem.F.plainAttrs_tuple PySem.F.slot_tuple_index PySem.F.type_tuple_index mt_tup_index (pe_glob (v := .ref aW) rfl gW rfl) (pa_cons (pe_con (pv 0) rfl) pa_nil)) (pa_cons (pe_fld (pv 0) rfl) pa_nil))))), ?_⟩
    obtain ⟨dx, t, r1, r2, h1, h2, h3, h4⟩ := id hR
    have a1 : Evl.Ev (tBM K "tuple" (fun x xs H Q => ∃ p, ∃ ys : List Str, ∃ z j, x = .ref p ∧ xs = [.str z] ∧ SqT K H p (ys.map V.str) ∧ ys[j]? = some z ∧ (∀ m, m < j → ys[m]? ≠ some z) ∧ Q (.int (j : Nat)) H) (tC (.ref aW)) (tCons (tCon K (tVar 0) "word") tNil)) [some (.ref p)] H (.int r.1.idx) := fun H1 s1 Q1 q1 =>
      ⟨.inr (.inl ⟨rfl, tW⟩), (Evl.ea_cons (ev_word Z hR (Evl.ev_var rfl)) Evl.ea_nil) H1 s1 _ fun H2 s2 => ⟨aW, WORDS4, r.1.word, r.1.ix, rfl, rfl, hW H2, r.1.ix_at, r.1.ix_first, by rw [RK.ix_idx]; exact q1 H2 s2⟩⟩
    have a2 : Evl.Ev (tFld K (tVar 0) "tokens") [some (.ref p)] H (.ref t) := ev_fld (Evl.ev_var rfl) h1 (Z.cl r.1).cl (Z.cl r.1).t rfl
    refine (Evl.eu_tup (Evl.ea_cons a1 (Evl.ea_cons a2 Evl.ea_nil)) (by show 2 ≤ 100000; decide)) H (Same.refl H) _ fun q H2 nq s2 hq => ?_
    exact k (.ref q) H2 s2 (.tup (SqT.of hq) (.cons (.int _) (.cons (.tup (SqT.of (s2 _ _ h2)) (dp_strs _)) .nil)))
end
end Ss
namespace Ss
open PySem L2
section
variable {P : Program} {w : World} {K : PySem.W.Frag} {mg : Str → Option Value} {base : Heap}
abbrev sZinit : Stmt := inClass (topS 20) 0
theorem scZinit : FnScope ["self", "rules", "rule"] ["self", "rules"] (defScope sZinit) := ⟨rfl, rfl, rfl, by decide +kernel, rfl, by decide +kernel, by decide +kernel⟩
theorem ok_Zinit {Cf : RK → Addr} {Cs f : Addr} {fd : FuncData} (F : Fun K "__init__" "Slips.__init__" sZinit f fd) (T : G0 mg) (S : SCl K Cs) (hso : mg "sorted" = none) (DRank : Dk P w K mg base CX0 1 "_rank" ["rule"] (spRank K Cf)) (DS : ∀ c, Mm P w K mg base CX0 (Cf c) 1 "__str__" ["self"] (spRStr Cf)) :
    FnR P w K mg base CX0 4 f (spSIs K Cs Cf) := by
  obtain ⟨oc, od, kV, doc, pm, an, cdv, ct, osl, rfl, lk, hcd⟩ := F.ex
  refine StX.fn_star (ps := ["self"]) (pv := "rules") (sp := spSI K Cs Cf) lk hcd scZinit StX.cxUp_none (StX.bind_star1 (B := fun l => bindArgs (PySem.W.fnOf "__init__" "Slips.__init__" (defArgs sZinit) (defBody sZinit) (defScope sZinit) .none kV doc pm an cdv ct) ⟨l, []⟩) (p1 := "self") (pv := "rules") (fun a => rfl) (fun a r rs => rfl)) (fun A outer s H vs Q E hr h => ?_)
  obtain ⟨p, t, dx, us, rs, rfl, ht, hr1, ok, hn, hp, k⟩ := h
  refine ⟨_, (pss_cons (ps_fld (pv 0) (pe_dc (own := [("rule", 2)]) (g := gName 2) rfl scZinit.nd (pi_tup (pv 1)) (blkOk_by (N := ["self", "rules", "rule"]) (sc := defScope sZinit) (by decide +kernel)) (fun _ _ _ _ _ => (pg_name (i := 2) scZinit.nd rfl (.inl rfl))) (fun _ _ _ _ _ => pts_nil) (fun _ _ _ _ _ => (pe_callTy (call_strF DS hr pass0) (by rfl) T.str (by decide +kernel) (pa_cons (pv 2) pa_nil))) (fun _ _ _ _ _ => (pv 2))) rfl) (pss_one (ps_fld (pv 0) (pe_callTy call_tuple_of (by rfl) T.tuple (by decide +kernel) (pa_cons (pe_sortedBy DRank hr rfl (by rfl) hso (by rfl) (pa_cons (pe_callTy (call_listV rfl) (by rfl) T.list (by decide +kernel) (pa_cons (pe_bm0 PySem.F.plainAttrs_dict PySem.F.slot_dict_values PySem.F.type_dict_values mt_values (pe_fld (pv 0) rfl)) pa_nil)) pa_nil)) pa_nil)) rfl))), ?_⟩
  dsimp only [tSeq, sFld]
  refine el_named (Evl.ev_var rfl) (SqT.of ht) hr1 ok hn (fun _ => rfl) (fun _ => rfl) (fun q r H1 s1 hq rok => fun H2 s2 Q2 q2 => ?_) fun d es ds H1 nd s1 hd he dok nod hds dl => ?_
  · exact ⟨_, rfl, r.1, q, rfl, (hq.mono s2).own, q, r.1, r.2, rfl, hq.mono s2, by have := rok.1; have h2 : r.1.many ≤ 2 := (by cases r.1 <;> decide); omega, fun z hz => (rok.2.1 z hz).word, fun H' s' => ⟨_, rfl, q2 H' s'⟩⟩
  have hp1 := s1 _ _ hp
  have ndp : d ≠ p := fun e => by rw [e, hp1] at hd; cases hd
  refine ⟨_, rfl, p, Cs, dx, [], rfl, hp1, S.cl, S.nn, by decide, ?_⟩
  have hp2 : upd H1 p (.ins Cs dx (putF "_named" (.ref d) [])) p = some (.ins Cs dx [("_named", .ref d)]) := upd_same
  generalize hH2 : upd H1 p (.ins Cs dx (putF "_named" (.ref d) [])) = H2 at hp2
  have o12 : Off p H1 H2 := by rw [← hH2]; exact (Off.refl p H1).upd
  have he2 := he.off o12 hp1 (by decide)
  have hd2 := o12 _ _ ndp hd
  refine ⟨_, rfl, p, Cs, dx, _, .ref d, rfl, hp2, S.cl, S.nn, rfl, .inr (.inr (.inl ⟨rfl, .inl ⟨es, hd2⟩⟩)), d, es, rfl, rfl, hd2, fun v1 nv => ?_⟩
  have s3 : Same H2 (upd H2 v1 (viewO "dict_values" v1 d)) := Evl.Ex.new nv
  refine ⟨v1, d, es, rfl, upd_same, s3 _ _ hd2, fun l1 nl => ?_⟩
  have s4 : Same H2 (upd (upd H2 v1 (viewO "dict_values" v1 d)) l1 (.lst (es.map (·.2)))) := s3.trans (Evl.Ex.new nl)
  dsimp only [tNil]
  refine sort_rules (ds := ds) (SqL.of upd_same) (he2.mono s4).vals fun p3 us' H5 np3 s5 np3' hr5 hl5 => ?_
  have s5' := s4.trans s5
  have s6 := s5'.trans (Evl.Ex.new (o := .lst us') np3')
  refine ⟨p3, us', rfl, .inl ⟨SqL.of upd_same, fun tt ntt => ?_⟩⟩
  have s7 := s6.trans (Evl.Ex.new (o := .tup us') ntt)
  have hp7 := s7 _ _ hp2
  refine ⟨_, rfl, p, Cs, dx, _, rfl, hp7, S.cl, S.nr, by show 1 < 1000; decide, ?_⟩
  have hl := setOf_sort nod hds
  refine k (ds.mergeSort leR) _ hl (fun a o na ha => ?_) ?_
  · rw [upd_ne na]
    exact s7 _ _ (o12 _ _ na (s1 _ _ ha))
  · have ntp : tt ≠ p := fun e => by rw [e, s6 _ _ hp2] at ntt; cases ntt
    have o8 : ∀ {fs}, Off p _ (upd (upd (upd H5 p3 (.lst us')) tt (.tup us')) p (.ins Cs dx fs)) := fun {fs} => (Off.refl p (upd (upd H5 p3 (.lst us')) tt (.tup us'))).upd
    have ef : putF "rules" (.ref tt) [("_named", V.ref d)] = ([("_named", .ref d), ("rules", .ref tt)] : List (Str × V)) := by
      unfold putF; rw [if_neg (by decide +kernel)]; rfl
    refine ⟨dx, d, tt, us', es, ds, ?_, SqT.of ?_, ?_, ?_, ?_, fun r => ?_⟩
    · rw [← ef]; exact upd_same
    · rw [upd_ne ntp]; exact upd_same
    · exact (hr5.mono ((Evl.Ex.new (o := .lst us') np3').trans (Evl.Ex.new (o := .tup us') ntt))).off o8 hp7 (by show 1 < 3; decide)
    · rw [upd_ne ndp]; exact s7 _ _ hd2
    · exact (he2.mono s7).off o8 hp7 (by show 1 < 3; decide)
    · rw [hds, hl.2]
end
end Ss
namespace Ss
open PySem L2
section
variable {P : Program} {w : World} {K : PySem.W.Frag} {mg : Str → Option Value} {base : Heap}
abbrev sZof : Stmt := inClass (topS 20) 1
theorem scZof : FnScope ["cls", "rules"] ["cls", "rules"] (defScope sZof) := ⟨rfl, rfl, rfl, by decide +kernel, rfl, by decide +kernel, by decide +kernel⟩
theorem ok_Zof {Cf : RK → Addr} {Cs fi : Addr} {f : Addr} {fd : FuncData} (F : Fun K "of" "Slips.of" sZof f fd) (MS : Mk K Cs fi) (FS : FnR P w K mg base CX0 4 fi (spSIs K Cs Cf)) : FnOk P w K mg base CX0 6 f fd ["cls", "rules"] (spSof K Cs Cf) := by
  refine F.ok scZof (fun vs H Q E h => ?_) (fun cdv A outer s H vs Q E hr h => ?_)
  · obtain ⟨a, us, rs, rfl, _⟩ := h; rfl
  · obtain ⟨a, us, rs, rfl, hs, hr1, ok, hn, k⟩ := h
    refine ⟨_, (pss_one (ps_ret (pe_makeSV (i := 0) MS FS hr rfl (.inl rfl) pass0 (pv 1)))), ?_⟩
    exact ⟨rfl, _, rfl, mk_slips hs hr1 ok hn fun q l H' nq s hl h => k q l H' nq s hl h⟩
end
end Ss
set_option maxHeartbeats 1000000
/-! comprehensions over a set's rules -/
namespace Ss
open PySem PySem.Spec PyProof.Rows L2
theorem RuleAt.lst {H : Hp} {C q D : Addr} {k : RK} {toks : List Str} {xs ys : List V} (h : RuleAt H C q k toks) (hD : H D = some (.lst xs)) : RuleAt (upd H D (.lst ys)) C q k toks := by
  obtain ⟨dx, t1, t2, t3, h1, h2, h3, h4⟩ := h
  refine ⟨dx, t1, t2, t3, ?_, ?_, ?_, ?_⟩
  · rw [upd_ne fun e => by rw [e, hD] at h1; cases h1]; exact h1
  · rw [upd_ne fun e => by rw [e, hD] at h2; cases h2]; exact h2
  · rw [upd_ne fun e => by rw [e, hD] at h3; cases h3]; exact h3
  · rw [upd_ne fun e => by rw [e, hD] at h4; cases h4]; exact h4
theorem RulesR.lst {H : Hp} {Cf : RK → Addr} {D : Addr} {us xs ys : List V} {rs : List Rl} (h : RulesR H Cf us rs) (hD : H D = some (.lst xs)) : RulesR (upd H D (.lst ys)) Cf us rs := ⟨h.1, fun i r e => let ⟨q, a, b⟩ := h.2 i r e; ⟨q, a, b.lst hD⟩⟩
theorem take_filter {α : Type} (f : α → Bool) {l : List α} {m : Nat} {r : α} (h : l[m]? = some r) : (l.take (m + 1)).filter f = if f r = true then (l.take m).filter f ++ [r] else (l.take m).filter f := by
  have et : l.take (m + 1) = l.take m ++ [r] := by rw [List.take_add_one, h]; rfl
  rw [et, List.filter_append]
  by_cases c : f r = true
  · rw [if_pos c, List.filter_cons_of_pos c]; rfl
  · rw [if_neg c, List.filter_cons_of_neg c, List.filter_nil, List.append_nil]
section
variable {K : PySem.W.Frag} {σ : L2.St} {H : Hp} {a : Addr} {us : List V} {rs : List Rl} {tl te : TE} {tt : TT} {j : Nat} {Cf : RK → Addr} {Q : VK}
/-- [rule for rule in rules if ..], the rules in a tuple -/
theorem el_filtT (f : Rl → Bool) (hl : Evl.Ev tl σ H (.ref a)) (hx : ∀ H1, Same H H1 → SqT K H1 a us) (hr : RulesR H Cf us rs) (hn : rs.length ≤ 1000)
    (hw : ∀ x, wipe ((wipe σ [j]).set j (some x)) [j] = wipe σ [j]) (hv : ∀ x, ((wipe σ [j]).set j (some x))[j]? = some (some x))
    (test : ∀ p r H1, Same H H1 → RuleAt H1 (Cf r.1) p r.1 r.2 → r ∈ rs → Evl.EvT tt ((wipe σ [j]).set j (some (.ref p))) H1 (f r))
    (k : ∀ l us' H', H l = none → Same H H' → SqL K H' l us' → RulesR H' Cf us' (rs.filter f) → Q (.ref l) H') : tLc (iTup K tl) (gName j) tt (tVar j) [j] σ H Q :=
  hl H (Evl.Ex.refl H) _ fun H1 e1 => ⟨a, rfl, ⟨us, hx H1 e1⟩, fun D hD => by
    have hr1 := hr.mono e1
    refine lc_tup (xs := us) (fun m H' => Same H1 H' ∧ ∃ us', H' D = some (.lst us') ∧ RulesR H' Cf us' ((rs.take m).filter f)) ⟨Same.new (Same.refl H1) hD, [], upd_same, by rw [List.take_zero]; exact .nil⟩ ?_ ?_ ?_
    · exact fun m H' _ h => hx H' (e1.trans h.1)
    · rintro m x H' hm ⟨s1, us', eD, hu⟩
      have lt : m < rs.length := by rw [← hr.1]; exact (List.getElem?_eq_some_iff.mp hm).1
      obtain ⟨r, er⟩ : ∃ y, rs[m]? = some y := ⟨_, List.getElem?_eq_getElem lt⟩
      obtain ⟨p, ep, hp⟩ := hr1.2 m r er
      rw [hm] at ep
      cases ep
      refine ⟨hw (.ref p), test p r H' (e1.trans s1) (hp.mono s1) (List.mem_of_getElem? er) H' (Evl.Ex.refl H') _ fun H3 s3 => ?_⟩
      have tf := take_filter f er
      cases hf : f r with
      | false =>
        rw [hf] at tf
        rw [if_neg Bool.false_ne_true]
        rw [if_neg Bool.false_ne_true] at tf
        exact ⟨s1.trans s3, us', s3 _ _ eD, by rw [tf]; exact hu.mono s3⟩
      | true =>
        rw [hf] at tf
        rw [if_pos rfl]
        rw [if_pos rfl] at tf
        have nD : H1 D = none := hD
        have eD3 := s3 _ _ eD
        refine ⟨_, hv (.ref p), us', eD3, ?_, fun b u hb => ?_, us' ++ [.ref p], upd_same, ?_⟩
        · rw [hu.1]
          have h1 : ((rs.take m).filter f).length ≤ (rs.take m).length := List.length_filter_le _ _
          have h2 : (rs.take m).length ≤ rs.length := by rw [List.length_take]; exact Nat.min_le_right _ _
          exact Nat.lt_of_le_of_lt (show _ ≤ 1000 by omega) (by decide)
        · rw [upd_ne (ne_of_none hb nD)]
          exact s3 _ _ (s1 _ _ hb)
        · rw [tf]
          exact ((hu.mono s3).lst eD3).app (RulesR.one (((hp.mono s1).mono s3).lst eD3))
    · rintro H' ⟨s1, us', eD, hu⟩
      rw [hr.1, List.take_length] at hu
      exact k D us' H' (Evl.fresh_back e1 hD) (e1.trans s1) (SqL.of eD) hu⟩
/-- [str(rule) for rule in rules], the rules in a tuple -/
theorem el_texts (hl : Evl.Ev tl σ H (.ref a)) (hx : ∀ H1, Same H H1 → SqT K H1 a us) (hr : RulesR H Cf us rs) (hn : rs.length ≤ 1000)
    (hw : ∀ x, wipe ((wipe σ [j]).set j (some x)) [j] = wipe σ [j])
    (txt : ∀ p r H1, Same H H1 → RuleAt H1 (Cf r.1) p r.1 r.2 → r ∈ rs → Evl.Ev te ((wipe σ [j]).set j (some (.ref p))) H1 (.str (strRl r)))
    (k : ∀ l H', H l = none → Same H H' → H' l = some (.lst ((rs.map strRl).map V.str)) → Q (.ref l) H') : tLc (iTup K tl) (gName j) tYes te [j] σ H Q :=
  hl H (Evl.Ex.refl H) _ fun H1 e1 => ⟨a, rfl, ⟨us, hx H1 e1⟩, fun D hD => by
    have hr1 := hr.mono e1
    refine lc_tup (xs := us) (fun m H' => Same H1 H' ∧ H' D = some (.lst (((rs.take m).map strRl).map V.str))) ⟨Same.new (Same.refl H1) hD, by rw [List.take_zero]; exact upd_same⟩ ?_ ?_ ?_
    · exact fun m H' _ h => hx H' (e1.trans h.1)
    · rintro m x H' hm ⟨s1, eD⟩
      have lt : m < rs.length := by rw [← hr.1]; exact (List.getElem?_eq_some_iff.mp hm).1
      obtain ⟨r, er⟩ : ∃ y, rs[m]? = some y := ⟨_, List.getElem?_eq_getElem lt⟩
      obtain ⟨p, ep, hp⟩ := hr1.2 m r er
      rw [hm] at ep
      cases ep
      refine ⟨hw (.ref p), txt p r H' (e1.trans s1) (hp.mono s1) (List.mem_of_getElem? er) H' (Evl.Ex.refl H') _ fun H3 s3 => ?_⟩
      have nD : H1 D = none := hD
      refine ⟨_, s3 _ _ eD, ?_, fun b u hb => ?_, ?_⟩
      · rw [List.length_map, List.length_map, List.length_take]
        exact Nat.lt_of_le_of_lt (show _ ≤ 1000 by omega) (by decide)
      · rw [upd_ne (ne_of_none hb nD)]
        exact s3 _ _ (s1 _ _ hb)
      · have et : rs.take (m + 1) = rs.take m ++ [r] := by rw [List.take_add_one, er]; rfl
        rw [upd_same, et, List.map_append, List.map_append]
        rfl
    · rintro H' ⟨s1, eD⟩
      rw [hr.1, List.take_length] at eD
      exact k D H' (Evl.fresh_back e1 hD) (e1.trans s1) eD⟩
end
/-- x in the set, its dict asked -/
theorem EntR.is {H : Hp} {Cf : RK → Addr} {es : List (Key × V)} {ds l : List Rl} {r : Rl} (h : EntR H Cf es ds) (e : ∀ x, x ∈ ds ↔ x ∈ l) (ok : ∀ x ∈ l, RlOk x) (hr : RlOk r) : (valV es (Sum.inr (strRl r))).isSome = decide (r ∈ l) := by
  rw [h.has]
  refine decide_eq_decide.mpr ⟨fun ⟨x, hx, q⟩ => ?_, fun hx => ⟨r, (e r).mpr hx, rfl⟩⟩
  have := str_inj (ok x ((e x).mp hx)) hr q
  rw [← this]
  exact (e x).mp hx
def spTexts (K : PySem.W.Frag) (Cs : Addr) (Cf : RK → Addr) : Sp := fun vs H Q _ => ∃ (p : Addr) (l : List Rl), vs = [.ref p] ∧ SlipsAt K H Cs Cf p l ∧ (∀ r ∈ l, RlOk r) ∧ l.length ≤ 1000 ∧ ∀ q H', H q = none → Same H H' → H' q = some (.lst ((l.map strRl).map V.str)) → Q (.ref q) H'
/-- the word of str(rule) -/
theorem ev_strRl {Cf : RK → Addr} {σ : L2.St} {H : Hp} {te : TE} {p : Addr} {r : Rl} {E : XK} (h : Evl.Ev te σ H (.ref p)) (hp : RuleAt H (Cf r.1) p r.1 r.2) (rok : RlOk r) :
    Evl.Ev (tCB (fun xs H Q => ∃ c, rStrO (Cf c) (spRStr Cf) E xs H Q) (tCons te tNil)) σ H (.str (strRl r)) := fun H1 s1 Q q =>
  h H1 s1 _ fun H2 s2 => ⟨r.1, p, rfl, (hp.mono (s1.trans s2)).own, p, r.1, r.2, rfl, hp.mono (s1.trans s2), by have := rok.1; have h2 : r.1.many ≤ 2 := (by cases r.1 <;> decide); omega, fun z hz => (rok.2.1 z hz).word, fun H' s' => ⟨_, rfl, q H' (s2.trans s')⟩⟩
end Ss
namespace Ss
open PySem L2
section
variable {P : Program} {w : World} {K : PySem.W.Frag} {mg : Str → Option Value} {base : Heap}
abbrev sZin : Stmt := inClass (topS 20) 9
theorem scZin : FnScope ["self", "x"] ["self", "x"] (defScope sZin) := ⟨rfl, rfl, rfl, by decide +kernel, rfl, by decide +kernel, by decide +kernel⟩
theorem ok_Zin {Cf : RK → Addr} {Cs R : Addr} (F : MethAt K Cs "__contains__" "Slips.__contains__" sZin) (T : G0 mg) (S : SCl K Cs) (Z : RTab K mg Cf R) (DS : ∀ c, Mm P w K mg base CX0 (Cf c) 1 "__str__" ["self"] (spRStr Cf)) : Mm P w K mg base CX0 Cs 4 "__contains__" ["self", "x"] (spSIn K Cs Cf) := by
  obtain ⟨f, fd, F, mf⟩ := F.ex
  refine ⟨f, fd, F.ok scZin (fun vs H Q E h => ?_) (fun cdv A outer s H vs Q E hr h => ?_), mf, F.binds fun _ _ _ _ _ _ us hl => match us, hl with | [_, _], _ => rfl⟩
  · obtain ⟨p, x, l, r, rfl, _⟩ := h; rfl
  · obtain ⟨p, x, l, r, rfl, ⟨dx, d, t, us, es, ds, h1, h2, h3, h4, h5, h6⟩, ok, hx, rok, k⟩ := h
    refine ⟨_, (pss_one (ps_ret (pe_and (pe_callB call_isi (by rfl) T.isinstance (by decide +kernel) (pa_cons (pv 1) (pa_cons (pe_glob (v := .ref R) rfl Z.gR rfl) pa_nil))) (pe_one (pe_cmp (pc_din (hu_of hr) (pe_callTy (call_strF DS hr pass0) (by rfl) T.str (by decide +kernel) (pa_cons (pv 1) pa_nil)) (pe_fld (pv 0) rfl))))))), ?_⟩
    have one : Evl.Ev (tCB (rIsi K) (tCons (tVar 1) (tCons (tC (.ref R)) tNil))) [some (.ref p), some (.ref x)] H (.bl true) := Evl.ev_cb (Evl.ea_cons (Evl.ev_var rfl) (Evl.ea_cons Evl.ev_c Evl.ea_nil)) (rc_isR Z hx (Z.base r.1))
    refine Evl.s_ret (v := .bl (decide (r ∈ l))) (Evl.ev_is (Evl.ev_andV (a := true) (b := (valV es (Sum.inr (strRl r))).isSome) one fun _ => fun H1 s1 Q1 q1 => ?_) ?_) fun H2 s2 => k H2 s2
    · refine ev_strRl (Evl.ev_var rfl) hx rok H1 s1 _ fun H2 s2 => ?_
      exact ⟨_, rfl, p, Cs, dx, _, .ref d, rfl, (s1.trans s2) _ _ h1, S.cl, S.nn, rfl, d, _, rfl, DGet.k (k := Sum.inr (strRl r)) ((s1.trans s2) _ _ h4), q1 H2 s2⟩
    · rw [Bool.true_and, h5.is h6 ok rok]
abbrev sZlen : Stmt := inClass (topS 20) 10
theorem scZlen : FnScope ["self"] ["self"] (defScope sZlen) := ⟨rfl, rfl, rfl, by decide +kernel, rfl, by decide +kernel, by decide +kernel⟩
theorem ok_Zlen {Cf : RK → Addr} {Cs : Addr} (F : MethAt K Cs "__len__" "Slips.__len__" sZlen) (T : G0 mg) (S : SCl K Cs) : Mm P w K mg base CX0 Cs 1 "__len__" ["self"] (spSLen K Cs Cf) := by
  obtain ⟨f, fd, F, mf⟩ := F.ex
  refine ⟨f, fd, F.ok scZlen (fun vs H Q E h => ?_) (fun cdv A outer s H vs Q E hr h => ?_), mf, F.binds fun _ _ _ _ _ _ us hl => match us, hl with | [_], _ => rfl⟩
  · obtain ⟨p, l, rfl, _⟩ := h; rfl
  · obtain ⟨p, l, rfl, ⟨dx, d, t, us, es, ds, h1, h2, h3, h4, h5, h6⟩, k⟩ := h
    refine ⟨_, (pss_one (ps_ret (pe_callB call_len_seq (by rfl) T.len (by decide +kernel) (pa_cons (pe_fld (pv 0) rfl) pa_nil)))), ?_⟩
    exact Evl.s_ret (v := .int (l.length : Nat)) (by rw [← h3.1]; exact ev_lenT (ev_fld (Evl.ev_var rfl) h1 S.cl S.nr rfl) h2) fun H2 s2 => k H2 s2
end
end Ss
namespace Ss
open PySem L2
section
variable {P : Program} {w : World} {K : PySem.W.Frag} {mg : Str → Option Value} {base : Heap}
abbrev sZand : Stmt := inClass (topS 20) 3
theorem scZand : FnScope ["self", "other", "rules", "rule"] ["self", "other"] (defScope sZand) := ⟨rfl, rfl, rfl, by decide +kernel, rfl, by decide +kernel, by decide +kernel⟩
theorem ok_Zand {Cf : RK → Addr} {Cs fi : Addr} (F : MethAt K Cs "__and__" "Slips.__and__" sZand) (S : SCl K Cs) (gS : mg "Slips" = some (.ref Cs)) (MS : Mk K Cs fi) (FS : FnR P w K mg base CX0 4 fi (spSIs K Cs Cf)) (DIn : Mm P w K mg base CX0 Cs 4 "__contains__" ["self", "x"] (spSIn K Cs Cf)) : Mm P w K mg base CX0 Cs 6 "__and__" ["self", "other"] (spS2 K Cs Cf sAnd) := by
  obtain ⟨f, fd, F, mf⟩ := F.ex
  refine ⟨f, fd, F.ok scZand (fun vs H Q E h => ?_) (fun cdv A outer s H vs Q E hr h => ?_), mf, F.binds fun _ _ _ _ _ _ us hl => match us, hl with | [_, _], _ => rfl⟩
  · obtain ⟨p, q, l, m, rfl, _⟩ := h; rfl
  · obtain ⟨p, q, l, m, rfl, hp, hq, okl, okm, ll, lm, ndl, ndm, k⟩ := h
    refine ⟨_, (pss_cons (ps_setLc (i := 2) (own := [("rule", 3)]) (g := gName 3)  rfl scZand.nd rfl rfl (sw_true rfl rfl rfl (by decide +kernel)) (pi_tup (pe_fld (pv 0) rfl)) (blkOk_by (N := ["self", "other", "rules", "rule"]) (sc := defScope sZand) (by decide +kernel)) (fun _ _ _ _ _ => (pg_name (i := 3) scZand.nd rfl (.inl rfl))) (fun _ _ _ _ _ => (pts_one (pt_cmpR (op_inO DIn hr pass0) (pv 3) (pv 1) (by rfl)))) (fun _ _ _ _ _ => (pv 3))) (pss_one (ps_ret (pe_makeS MS FS hr (by rfl) gS pass0 (pv 2))))), ?_⟩
    obtain ⟨dx, d, t, us, es, ds, h1, h2, h3, h4, h5, h6⟩ := id hp
    dsimp only [tSeq]
    refine el_filtT (fun r => decide (r ∈ m)) (ev_fld (Evl.ev_var rfl) h1 S.cl S.nr rfl) (fun H1 s1 => Evl.ex_t s1 h2) h3 (by omega) (fun _ => rfl) (fun _ => rfl) (fun x r H1 s1 hx hr1 => ?_) fun lb us' H1 nl s1 hs hr1 => ?_
    · exact Evl.et_test fun H2 s2 Q2 q2 => ⟨_, rfl, _, rfl, q, rfl, (hq.mono (s1.trans s2)).own, q, x, m, r, rfl, hq.mono (s1.trans s2), okm, hx.mono s2, okl r hr1, fun H' s' => ⟨_, rfl, by rw [Bool.bne_false]; exact q2 H' s'⟩⟩
    · have ok2 : ∀ r ∈ sAnd l m, RlOk r := fun r hr => okl r (List.mem_filter.mp hr).1
      exact ⟨_, rfl, mk_slips (.inr hs) hr1 ok2 (Nat.le_trans (List.length_filter_le _ _) (by omega)) fun x n H' nx s' hn hx => k x n H' (Evl.fresh_back s1 nx) (s1.trans s') hn hx⟩
abbrev sZsub : Stmt := inClass (topS 20) 5
theorem scZsub : FnScope ["self", "other", "rules", "rule"] ["self", "other"] (defScope sZsub) := ⟨rfl, rfl, rfl, by decide +kernel, rfl, by decide +kernel, by decide +kernel⟩
theorem ok_Zsub {Cf : RK → Addr} {Cs fi : Addr} (F : MethAt K Cs "__sub__" "Slips.__sub__" sZsub) (S : SCl K Cs) (gS : mg "Slips" = some (.ref Cs)) (MS : Mk K Cs fi) (FS : FnR P w K mg base CX0 4 fi (spSIs K Cs Cf)) (DIn : Mm P w K mg base CX0 Cs 4 "__contains__" ["self", "x"] (spSIn K Cs Cf)) : Mm P w K mg base CX0 Cs 6 "__sub__" ["self", "other"] (spS2 K Cs Cf sSub) := by
  obtain ⟨f, fd, F, mf⟩ := F.ex
  refine ⟨f, fd, F.ok scZsub (fun vs H Q E h => ?_) (fun cdv A outer s H vs Q E hr h => ?_), mf, F.binds fun _ _ _ _ _ _ us hl => match us, hl with | [_, _], _ => rfl⟩
  · obtain ⟨p, q, l, m, rfl, _⟩ := h; rfl
  · obtain ⟨p, q, l, m, rfl, hp, hq, okl, okm, ll, lm, ndl, ndm, k⟩ := h
    refine ⟨_, (pss_cons (ps_setLc (i := 2) (own := [("rule", 3)]) (g := gName 3)  rfl scZsub.nd rfl rfl (sw_true rfl rfl rfl (by decide +kernel)) (pi_tup (pe_fld (pv 0) rfl)) (blkOk_by (N := ["self", "other", "rules", "rule"]) (sc := defScope sZsub) (by decide +kernel)) (fun _ _ _ _ _ => (pg_name (i := 3) scZsub.nd rfl (.inl rfl))) (fun _ _ _ _ _ => (pts_one (pt_cmpR (op_notInO DIn hr pass0) (pv 3) (pv 1) (by rfl)))) (fun _ _ _ _ _ => (pv 3))) (pss_one (ps_ret (pe_makeS MS FS hr (by rfl) gS pass0 (pv 2))))), ?_⟩
    obtain ⟨dx, d, t, us, es, ds, h1, h2, h3, h4, h5, h6⟩ := id hp
    dsimp only [tSeq]
    refine el_filtT (fun r => !decide (r ∈ m)) (ev_fld (Evl.ev_var rfl) h1 S.cl S.nr rfl) (fun H1 s1 => Evl.ex_t s1 h2) h3 (by omega) (fun _ => rfl) (fun _ => rfl) (fun x r H1 s1 hx hr1 => ?_) fun lb us' H1 nl s1 hs hr1 => ?_
    · exact Evl.et_test fun H2 s2 Q2 q2 => ⟨_, rfl, _, rfl, q, rfl, (hq.mono (s1.trans s2)).own, q, x, m, r, rfl, hq.mono (s1.trans s2), okm, hx.mono s2, okl r hr1, fun H' s' => ⟨_, rfl, by rw [Bool.bne_true]; exact q2 H' s'⟩⟩
    · have ok2 : ∀ r ∈ sSub l m, RlOk r := fun r hr => okl r (List.mem_filter.mp hr).1
      exact ⟨_, rfl, mk_slips (.inr hs) hr1 ok2 (Nat.le_trans (List.length_filter_le _ _) (by omega)) fun x n H' nx s' hn hx => k x n H' (Evl.fresh_back s1 nx) (s1.trans s') hn hx⟩
end
end Ss
namespace Ss
open PySem L2
section
variable {P : Program} {w : World} {K : PySem.W.Frag} {mg : Str → Option Value} {base : Heap}
theorem nodup_leR : ∀ {l m : List Rl}, l.Nodup → (∀ x ∈ l, x ∈ m) → l.length ≤ m.length
  | [], _, _, _ => Nat.zero_le _
  | a :: l, m, nd, h => by
    obtain ⟨n1, n2⟩ := List.nodup_cons.mp nd
    have ha := h a List.mem_cons_self
    have h2 := nodup_leR (m := m.erase a) n2 fun x hx => (List.mem_erase_of_ne fun e => n1 (by rw [← e]; exact hx)).mpr (h x (List.mem_cons_of_mem _ hx))
    rw [List.length_erase_of_mem ha] at h2
    have := List.length_pos_of_mem ha
    rw [List.length_cons]; omega
theorem SetOf.le {n S l : List Rl} (h : SetOf n S) (e : ∀ r ∈ S, r ∈ l) : n.length ≤ l.length := nodup_leR h.nodup fun x hx => e x ((h.2 x).mp hx)
theorem sub_mem {l m : List Rl} : ∀ r ∈ sSub l m, r ∈ l := fun r hr => (List.mem_filter.mp hr).1
abbrev sZor : Stmt := inClass (topS 20) 4
theorem scZor : FnScope ["self", "other", "rules"] ["self", "other"] (defScope sZor) := ⟨rfl, rfl, rfl, by decide +kernel, rfl, by decide +kernel, by decide +kernel⟩
theorem ok_Zor {Cf : RK → Addr} {Cs fi : Addr} (F : MethAt K Cs "__or__" "Slips.__or__" sZor) (S : SCl K Cs) (gS : mg "Slips" = some (.ref Cs)) (MS : Mk K Cs fi) (FS : FnR P w K mg base CX0 4 fi (spSIs K Cs Cf)) : Mm P w K mg base CX0 Cs 6 "__or__" ["self", "other"] (spS2 K Cs Cf sOr) := by
  obtain ⟨f, fd, F, mf⟩ := F.ex
  refine ⟨f, fd, F.ok scZor (fun vs H Q E h => ?_) (fun cdv A outer s H vs Q E hr h => ?_), mf, F.binds fun _ _ _ _ _ _ us hl => match us, hl with | [_, _], _ => rfl⟩
  · obtain ⟨p, q, l, m, rfl, _⟩ := h; rfl
  · obtain ⟨p, q, l, m, rfl, hp, hq, okl, okm, ll, lm, ndl, ndm, k⟩ := h
    refine ⟨_, (pss_cons (ps_set (i := 2) scZor.nd rfl (Or.inl rfl) (pe_lst (StX.pa_star (pe_fld (pv 0) rfl) (StX.pa_star (pe_fld (pv 1) rfl) pa_nil)))) (pss_one (ps_ret (pe_makeS MS FS hr (by rfl) gS pass0 (pv 2))))), ?_⟩
    obtain ⟨dx, d, t, us, es, ds, h1, h2, h3, h4, h5, h6⟩ := id hp
    obtain ⟨dx', d', t', us', es', ds', h1', h2', h3', h4', h5', h6'⟩ := id hq
    have e1 := h3.1
    have e2 := h3'.1
    refine ⟨_, rfl, p, Cs, dx, _, .ref t, rfl, h1, S.cl, S.nr, rfl, t, us, rfl, .inl h2, _, rfl, q, Cs, dx', _, .ref t', rfl, h1', S.cl, S.nr, rfl, t', us', rfl, .inl h2', ?_, fun lb nl => ?_⟩
    · refine Nat.le_trans (m := 1000) ?_ (by decide)
      show (us ++ (us' ++ [])).length ≤ 1000
      rw [List.append_nil, List.length_append]; omega
    · have s1 : Same H (upd H lb (.lst (us ++ (us' ++ [])))) := Evl.Ex.new nl
      have hs : SqL K (upd H lb (.lst (us ++ (us' ++ [])))) lb (us ++ (us' ++ [])) := SqL.of upd_same
      rw [List.append_nil] at hs s1 ⊢
      have hr1 := (h3.app h3').mono s1
      have ok2 : ∀ r ∈ sOr l m, RlOk r := fun r hr => (List.mem_append.mp hr).elim (okl r) (okm r)
      exact ⟨_, rfl, mk_slips (.inr hs) hr1 ok2 (by rw [List.length_append]; omega) fun x n H' nx s' hn hx => k x n H' (Evl.fresh_back s1 nx) (s1.trans s') hn hx⟩
abbrev sZxor : Stmt := inClass (topS 20) 6
theorem scZxor : FnScope ["self", "other"] ["self", "other"] (defScope sZxor) := ⟨rfl, rfl, rfl, by decide +kernel, rfl, by decide +kernel, by decide +kernel⟩
theorem ok_Zxor {Cf : RK → Addr} {Cs : Addr} (F : MethAt K Cs "__xor__" "Slips.__xor__" sZxor) (sf : PySem.W.selfFirst K Cs = true) (DSub : Mm P w K mg base CX0 Cs 6 "__sub__" ["self", "other"] (spS2 K Cs Cf sSub)) (DOr : Mm P w K mg base CX0 Cs 6 "__or__" ["self", "other"] (spS2 K Cs Cf sOr)) : Mm P w K mg base CX0 Cs 7 "__xor__" ["self", "other"] (spS2 K Cs Cf sXor) := by
  obtain ⟨f, fd, F, mf⟩ := F.ex
  refine ⟨f, fd, F.ok scZxor (fun vs H Q E h => ?_) (fun cdv A outer s H vs Q E hr h => ?_), mf, F.binds fun _ _ _ _ _ _ us hl => match us, hl with | [_, _], _ => rfl⟩
  · obtain ⟨p, q, l, m, rfl, _⟩ := h; rfl
  · obtain ⟨p, q, l, m, rfl, hp, hq, okl, okm, ll, lm, ndl, ndm, k⟩ := h
    refine ⟨_, (pss_one (ps_ret (pe_op (op_own DOr hr pass0 sf) (pe_op (op_own DSub hr pass0 sf) (pv 0) (pv 1)) (pe_op (op_own DSub hr pass0 sf) (pv 1) (pv 0))))), ?_⟩
    refine ⟨_, rfl, _, rfl, p, q, rfl, rfl, hp.own, hq.own, p, q, l, m, rfl, hp, hq, okl, okm, ll, lm, ndl, ndm, fun x n H1 nx s1 hn hx => ?_⟩
    have hp1 := hp.mono s1
    have hq1 := hq.mono s1
    refine ⟨_, rfl, _, rfl, q, p, rfl, rfl, hq1.own, hp1.own, q, p, m, l, rfl, hq1, hp1, okm, okl, lm, ll, ndm, ndl, fun y o H2 ny s2 ho hy => ?_⟩
    have hx2 := hx.mono s2
    have lx := hn.le sub_mem
    have ly := ho.le sub_mem
    refine ⟨x, y, rfl, rfl, hx2.own, hy.own, x, y, n, o, rfl, hx2, hy, fun r hr => okl r (sub_mem r ((hn.2 r).mp hr)), fun r hr => okm r (sub_mem r ((ho.2 r).mp hr)), by omega, by omega, hn.nodup, ho.nodup, fun z u H3 nz s3 hu hz => ?_⟩
    refine k z u H3 (Evl.fresh_back (s1.trans s2) nz) ((s1.trans s2).trans s3) (hu.eq fun r => ?_) hz
    rw [List.mem_append, List.mem_append, hn.2, ho.2]
abbrev sZwith : Stmt := inClass (topS 20) 7
theorem scZwith : FnScope ["self", "other"] ["self", "other"] (defScope sZwith) := ⟨rfl, rfl, rfl, by decide +kernel, rfl, by decide +kernel, by decide +kernel⟩
theorem ok_Zwith {Cf : RK → Addr} {Cs : Addr} (F : MethAt K Cs "within" "Slips.within" sZwith) (T : G0 mg) (sf : PySem.W.selfFirst K Cs = true) (DSub : Mm P w K mg base CX0 Cs 6 "__sub__" ["self", "other"] (spS2 K Cs Cf sSub)) (DLen : Mm P w K mg base CX0 Cs 1 "__len__" ["self"] (spSLen K Cs Cf)) : Mm P w K mg base CX0 Cs 7 "within" ["self", "other"] (spSWithin K Cs Cf) := by
  obtain ⟨f, fd, F, mf⟩ := F.ex
  refine ⟨f, fd, F.ok scZwith (fun vs H Q E h => ?_) (fun cdv A outer s H vs Q E hr h => ?_), mf, F.binds fun _ _ _ _ _ _ us hl => match us, hl with | [_, _], _ => rfl⟩
  · obtain ⟨p, q, l, m, rfl, _⟩ := h; rfl
  · obtain ⟨p, q, l, m, rfl, hp, hq, okl, okm, ll, lm, ndl, ndm, k⟩ := h
    refine ⟨_, (pss_one (ps_ret (pe_cmpR op_eq (pe_callB (call_lenO DLen hr pass0) (by rfl) T.len (by decide +kernel) (pa_cons (pe_op (op_own DSub hr pass0 sf) (pv 0) (pv 1)) pa_nil)) pe_int (nomark _)))), ?_⟩
    refine ⟨_, rfl, _, rfl, p, q, rfl, rfl, hp.own, hq.own, p, q, l, m, rfl, hp, hq, okl, okm, ll, lm, ndl, ndm, fun x n H1 nx s1 hn hx => ?_⟩
    have lx := hn.le sub_mem
    refine ⟨x, rfl, hx.own, x, n, rfl, hx, fun H2 s2 => ⟨n.length, rfl, Nat.lt_of_le_of_lt (show n.length ≤ 1000 by omega) (by decide), ?_⟩⟩
    have e : decide (V.int ((n.length : Nat) : Int) = V.int 0) = decide (sSub l m = []) := by
      refine decide_eq_decide.mpr ⟨fun z => ?_, fun z => ?_⟩
      · injection z with z
        have z : n.length = 0 := by omega
        refine List.eq_nil_iff_forall_not_mem.mpr fun r hr => ?_
        have := (hn.2 r).mpr hr
        rw [List.length_eq_zero_iff.mp z] at this
        cases this
      · have : n = [] := List.eq_nil_iff_forall_not_mem.mpr fun r hr => by
          have := (hn.2 r).mp hr
          rw [z] at this
          cases this
        rw [this]; rfl
    refine ⟨rfl, ?_⟩
    show Q (.bl (decide (V.int ((n.length : Nat) : Int) = V.int 0))) H2
    rw [e]
    exact k H2 (s1.trans s2)
end
end Ss
namespace Ss
open PySem L2
section
variable {P : Program} {w : World} {K : PySem.W.Frag} {mg : Str → Option Value} {base : Heap}
abbrev sZtexts : Stmt := topS 30
theorem scZtexts : FnScope ["slips", "rule"] ["slips"] (defScope sZtexts) := ⟨rfl, rfl, rfl, by decide +kernel, rfl, by decide +kernel, by decide +kernel⟩
theorem ok_Ztexts {Cf : RK → Addr} {Cs : Addr} (F : DefAt K mg "_law_texts" sZtexts) (T : G0 mg) (S : SCl K Cs) (DS : ∀ c, Mm P w K mg base CX0 (Cf c) 1 "__str__" ["self"] (spRStr Cf)) : Dk P w K mg base CX0 4 "_law_texts" ["slips"] (spTexts K Cs Cf) := by
  obtain ⟨f, fd, F, mf⟩ := F.ex
  refine ⟨f, fd, F.ok scZtexts (fun vs H Q E h => ?_) (fun cdv A outer s H vs Q E hr h => ?_), mf, F.kp, F.binds fun _ _ _ _ _ _ us hl => match us, hl with | [_], _ => rfl⟩
  · obtain ⟨p, l, rfl, _⟩ := h; rfl
  · obtain ⟨p, l, rfl, ⟨dx, d, t, us, es, ds, h1, h2, h3, h4, h5, h6⟩, ok, ll, k⟩ := h
    refine ⟨_, (pss_one (ps_ret (pe_lc (own := [("rule", 1)]) (g := gName 1) rfl scZtexts.nd (pi_tup (pe_fld (pv 0) rfl)) (blkOk_by (N := ["slips", "rule"]) (sc := defScope sZtexts) (by decide +kernel)) (fun _ _ _ _ _ => (pg_name (i := 1) scZtexts.nd rfl (.inl rfl))) (fun _ _ _ _ _ => pts_nil) (fun _ _ _ _ _ => (pe_callTy (call_strF DS hr pass0) (by rfl) T.str (by decide +kernel) (pa_cons (pv 1) pa_nil)))))), ?_⟩
    exact el_texts (σ := [some (.ref p), none]) (ev_fld (Evl.ev_var rfl) h1 S.cl S.nr rfl) (fun H1 s1 => Evl.ex_t s1 h2) h3 ll (fun _ => rfl) (fun x r H1 s1 hx hr1 => ev_strRl (Evl.ev_var rfl) hx (ok r hr1)) fun q H' nq s' hq => k q H' nq s' hq
end
end Ss
set_option maxHeartbeats 1000000
/-! the drawn rules of two lists; lists of texts -/
namespace Ss
open PySem PySem.Spec PyProof.Rows L2
theorem RuleAt.offL {H H' : Hp} {C q b : Addr} {k : RK} {toks : List Str} {xs : List V} (h : RuleAt H C q k toks) (hb : H b = some (.lst xs)) (o : Off b H H') : RuleAt H' C q k toks := by
  obtain ⟨dx', t, r, i, h1, h2, h3, h4⟩ := h
  refine ⟨dx', t, r, i, o _ _ (fun e => ?_) h1, o _ _ (fun e => ?_) h2, o _ _ (fun e => ?_) h3, o _ _ (fun e => ?_) h4⟩
  · rw [e, hb] at h1; cases h1
  · rw [e, hb] at h2; cases h2
  · rw [e, hb] at h3; cases h3
  · rw [e, hb] at h4; cases h4
theorem RulesR.offL {H H' : Hp} {Cf : RK → Addr} {b : Addr} {us xs : List V} {rs : List Rl} (h : RulesR H Cf us rs) (hb : H b = some (.lst xs)) (o : Off b H H') : RulesR H' Cf us rs := ⟨h.1, fun i r e => let ⟨q, a, c⟩ := h.2 i r e; ⟨q, a, c.offL hb o⟩⟩
/-- two lists of rules in a list -/
structure Drw (H : Hp) (Cf : RK → Addr) (pd l0 l1 : Addr) (us0 us1 : List V) (r0 r1 : List Rl) : Prop where
  d : H pd = some (.lst [.ref l0, .ref l1])
  a0 : H l0 = some (.lst us0)
  a1 : H l1 = some (.lst us1)
  n0 : RulesR H Cf us0 r0
  n1 : RulesR H Cf us1 r1
  ok0 : ∀ r ∈ r0, RlOk r
  ok1 : ∀ r ∈ r1, RlOk r
  ne0 : pd ≠ l0
  ne1 : pd ≠ l1
  ne2 : l0 ≠ l1
theorem Drw.mono {H H' : Hp} {Cf : RK → Addr} {pd l0 l1 : Addr} {us0 us1 : List V} {r0 r1 : List Rl} (h : Drw H Cf pd l0 l1 us0 us1 r0 r1) (s : Same H H') : Drw H' Cf pd l0 l1 us0 us1 r0 r1 :=
  ⟨s _ _ h.d, s _ _ h.a0, s _ _ h.a1, h.n0.mono s, h.n1.mono s, h.ok0, h.ok1, h.ne0, h.ne1, h.ne2⟩
theorem Drw.off {H H' : Hp} {Cf : RK → Addr} {pd l0 l1 b : Addr} {us0 us1 : List V} {r0 r1 : List Rl} {n : Nat} (h : Drw H Cf pd l0 l1 us0 us1 r0 r1) (B : Bag H b n) (o : Off b H H') (nb : pd ≠ b ∧ l0 ≠ b ∧ l1 ≠ b) : Drw H' Cf pd l0 l1 us0 us1 r0 r1 := by
  obtain ⟨d, m, c, hb, _⟩ := B
  exact ⟨o _ _ nb.1 h.d, o _ _ nb.2.1 h.a0, o _ _ nb.2.2 h.a1, h.n0.offL hb o, h.n1.offL hb o, h.ok0, h.ok1, h.ne0, h.ne1, h.ne2⟩
def lkOf (l0 l1 : Addr) : Nat → Addr
  | 0 => l0
  | _ => l1
theorem lk_at {l0 l1 : Addr} {k : Nat} (h : k < 2) : [V.ref l0, V.ref l1][k]? = some (.ref (lkOf l0 l1 k)) := by
  match k, h with
  | 0, _ => rfl
  | 1, _ => rfl
/-- a rule more in one of the two -/
theorem Drw.push {H : Hp} {Cf : RK → Addr} {pd l0 l1 : Addr} {us0 us1 : List V} {r0 r1 : List Rl} {n : Nat} (h : Drw H Cf pd l0 l1 us0 us1 r0 r1) {k : Nat} (hk : k < 2) (h0 : r0.length ≤ n) (h1 : r1.length ≤ n) {x : Addr} {r : Rl} (hx : RuleAt H (Cf r.1) x r.1 r.2) (rok : RlOk r) :
    ∃ us, H (lkOf l0 l1 k) = some (.lst us) ∧ us.length ≤ n ∧ ∃ us0' us1' r0' r1', Drw (upd H (lkOf l0 l1 k) (.lst (us ++ [.ref x]))) Cf pd l0 l1 us0' us1' r0' r1' ∧ r0'.length ≤ n + 1 ∧ r1'.length ≤ n + 1 := by
  match k, hk with
  | 0, _ =>
    refine ⟨us0, h.a0, by rw [h.n0.1]; exact h0, us0 ++ [.ref x], us1, r0 ++ [r], r1, ⟨?_, ?_, ?_, (h.n0.lst h.a0).app (RulesR.one (hx.lst h.a0)), h.n1.lst h.a0, fun y hy => ?_, h.ok1, h.ne0, h.ne1, h.ne2⟩, by rw [List.length_append]; show _ + 1 ≤ _; omega, by omega⟩
    · show upd H l0 _ pd = _; rw [upd_ne h.ne0]; exact h.d
    · exact upd_same
    · show upd H l0 _ l1 = _; rw [upd_ne h.ne2.symm]; exact h.a1
    · rcases List.mem_append.mp hy with hy | hy
      · exact h.ok0 y hy
      · rw [List.mem_singleton.mp hy]; exact rok
  | 1, _ =>
    refine ⟨us1, h.a1, by rw [h.n1.1]; exact h1, us0, us1 ++ [.ref x], r0, r1 ++ [r], ⟨?_, ?_, ?_, h.n0.lst h.a1, (h.n1.lst h.a1).app (RulesR.one (hx.lst h.a1)), h.ok0, fun y hy => ?_, h.ne0, h.ne1, h.ne2⟩, by omega, by rw [List.length_append]; show _ + 1 ≤ _; omega⟩
    · show upd H l1 _ pd = _; rw [upd_ne h.ne1]; exact h.d
    · show upd H l1 _ l0 = _; rw [upd_ne h.ne2]; exact h.a0
    · exact upd_same
    · rcases List.mem_append.mp hy with hy | hy
      · exact h.ok1 y hy
      · rw [List.mem_singleton.mp hy]; exact rok
section
variable {K : PySem.W.Frag} {σ : L2.St} {H : Hp} {a : Addr} {tl : TE} {tt : TT} {j : Nat}
/-- [text for text in texts if ..] -/
theorem el_filtS {zs : List Str} (f : Str → Bool) (hl : Evl.Ev tl σ H (.ref a)) (hx : H a = some (.lst (zs.map V.str))) (hn : zs.length ≤ 1000)
    (hw : ∀ x, wipe ((wipe σ [j]).set j (some x)) [j] = wipe σ [j]) (hv : ∀ x, ((wipe σ [j]).set j (some x))[j]? = some (some x))
    (test : ∀ z H1, Same H H1 → Evl.EvT tt ((wipe σ [j]).set j (some (.str z))) H1 (f z)) : Evl.EvL (tLc (iList K tl) (gName j) tt (tVar j) [j]) σ H ((zs.filter f).map V.str) := fun H0 e0 Q k =>
  hl H0 e0 _ fun H1 e1 => ⟨a, rfl, ⟨_, SqL.of ((e0.trans e1) _ _ hx)⟩, fun D hD => by
    have e01 := e0.trans e1
    refine lc_list (xs := zs.map V.str) (fun m H' => Same H1 H' ∧ H' D = some (.lst (((zs.take m).filter f).map V.str))) ⟨Same.new (Same.refl H1) hD, by rw [List.take_zero]; exact upd_same⟩ ?_ ?_ ?_
    · exact fun m H' _ h => SqL.of (h.1 _ _ (e01 _ _ hx))
    · rintro m x H' hm ⟨s1, eD⟩
      obtain ⟨z, ez, rfl⟩ : ∃ z, zs[m]? = some z ∧ x = V.str z := by
        rw [List.getElem?_map] at hm
        cases e : zs[m]? with
        | none => rw [e] at hm; cases hm
        | some z => rw [e] at hm; cases hm; exact ⟨z, rfl, rfl⟩
      refine ⟨hw (.str z), test z H' (e01.trans s1) H' (Evl.Ex.refl H') _ fun H3 s3 => ?_⟩
      have tf := take_filter f ez
      have nD : H1 D = none := hD
      cases hf : f z with
      | false =>
        rw [hf, if_neg Bool.false_ne_true] at tf
        rw [if_neg Bool.false_ne_true]
        exact ⟨s1.trans s3, by rw [tf]; exact s3 _ _ eD⟩
      | true =>
        rw [hf, if_pos rfl] at tf
        rw [if_pos rfl]
        refine ⟨_, hv (.str z), _, s3 _ _ eD, ?_, fun b u hb => ?_, ?_⟩
        · rw [List.length_map]
          have h1 : ((zs.take m).filter f).length ≤ (zs.take m).length := List.length_filter_le _ _
          have h2 : (zs.take m).length ≤ zs.length := by rw [List.length_take]; exact Nat.min_le_right _ _
          exact Nat.lt_of_le_of_lt (show _ ≤ 1000 by omega) (by decide)
        · rw [upd_ne (ne_of_none hb nD)]
          exact s3 _ _ (s1 _ _ hb)
        · rw [upd_same, tf, List.map_append]; rfl
    · rintro H' ⟨s1, eD⟩
      rw [List.length_map, List.take_length] at eD
      exact k D H' (Evl.fresh_back e1 hD) (e1.trans s1) eD⟩
end
/-- sets by their texts -/
theorem mem_txt {l : List Rl} (ok : ∀ r ∈ l, RlOk r) {r : Rl} (hr : RlOk r) : strRl r ∈ l.map strRl ↔ r ∈ l := by
  rw [List.mem_map]
  exact ⟨fun ⟨x, hx, e⟩ => (str_inj (ok x hx) hr e) ▸ hx, fun h => ⟨r, h, rfl⟩⟩
/-- what the set n holds, picked from the larger one by texts -/
theorem pick_eq {n S B T : List Rl} (hn : SetOf n S) (hB : SetOf B T) (okB : ∀ r ∈ B, RlOk r) (f : Str → Bool) (e : ∀ r, RlOk r → (r ∈ S ↔ r ∈ T ∧ f (strRl r) = true)) (okS : ∀ r ∈ S, RlOk r) : n.map strRl = (B.map strRl).filter f := by
  rw [List.filter_map]
  congr 1
  refine hn.uniq (hB.filter (f ∘ strRl)) fun r => ⟨fun hr => ?_, fun hr => ?_⟩
  · have h := (e r (okS r hr)).mp hr
    exact List.mem_filter.mpr h
  · have h := List.mem_filter.mp hr
    exact (e r (okB r ((hB.2 r).mpr h.1))).mpr h
end Ss
set_option maxHeartbeats 1000000
/-! words about sets of rules -/
namespace Ss
open PySem PySem.Spec PyProof.Rows L2
theorem op_inKs {X : Cx} {K : PySem.W.Frag} (h : X.K = K) : OpR X (compareOp .In) (rIn K false) := h ▸ op_in_seq
theorem op_niKs {X : Cx} {K : PySem.W.Frag} (h : X.K = K) : OpR X (compareOp .NotIn) (rIn K true) := h ▸ op_notIn_seq
theorem str_tx {r : Rl} (h : RlOk r) : TX 24 (strRl r) := by
  have hm : r.1.many ≤ 2 := by cases r.1 <;> decide
  have hl := h.1
  refine TX.join (n := 7) (fun z hz => ?_) (by rw [List.length_cons]; omega)
  rcases List.mem_cons.mp hz with rfl | hz
  · exact r.1.tx
  · exact (h.2.1 z hz).tx.mono (by decide)
theorem str_okS {r : Rl} (h : RlOk r) : okS (strRl r) = true := by
  obtain ⟨u, e, _, h2⟩ := str_tx h
  rw [e]
  exact okS_mk fun c hc => Nat.lt_trans (h2 c hc) (by decide)
theorem txt_ok {l : List Rl} (h : ∀ r ∈ l, RlOk r) : (l.map strRl).all okS = true := by
  rw [List.all_map]
  exact List.all_eq_true.mpr fun r hr => str_okS (h r hr)
theorem rv_eqLs' {K : PySem.W.Frag} {H : Hp} {p q : Addr} {a b : List Str} (ha : a.all okS = true) (hb : b.all okS = true) (h1 : SqL K H p (a.map V.str)) (h2 : SqL K H q (b.map V.str)) : Evl.RV (rEqD K) (.ref p) (.ref q) H (.bl (decide (a = b))) := fun H1 e Q k =>
  ⟨_, _, .lst (Evl.ex_l e h1) (dp_strs a), .lst (Evl.ex_l e h2) (dp_strs b), shaped_strs ha, shaped_strs hb, by
    show Q (.bl (PyData.eqvAll _ _)) H1
    rw [eqvAll_strs]; exact k H1 (Evl.Ex.refl H1)⟩
/-- te evaluates to a set of just the rules n -/
def EvSet (K : PySem.W.Frag) (Cs : Addr) (Cf : RK → Addr) (te : TE) (σ : L2.St) (H : Hp) (n : List Rl) : Prop := ∀ H1, Same H H1 → ∀ Q : VK, (∀ x H2, Same H1 H2 → SlipsAt K H2 Cs Cf x n → Q (.ref x) H2) → te σ H1 Q
/-- what is known of a set: it is in order, of rules as they may be, small -/
structure SetN (n : List Rl) : Prop where
  s : SetOf n n
  ok : ∀ r ∈ n, RlOk r
  le : n.length ≤ 100
theorem SetN.of {n S : List Rl} (h : SetOf n S) (ok : ∀ r ∈ S, RlOk r) (l : List Rl) (hl : l.length ≤ 100) (e : ∀ r ∈ S, r ∈ l) : SetN n := ⟨h.self, fun r hr => ok r ((h.2 r).mp hr), by
  have h2 : ∀ {l m : List Rl}, l.Nodup → (∀ x ∈ l, x ∈ m) → l.length ≤ m.length := by
    intro l
    induction l with
    | nil => exact fun _ _ => Nat.zero_le _
    | cons a l ih =>
      intro m nd h
      obtain ⟨n1, n2⟩ := List.nodup_cons.mp nd
      have ha := h a List.mem_cons_self
      have h2 := ih (m := m.erase a) n2 fun x hx => (List.mem_erase_of_ne fun e => n1 (by rw [← e]; exact hx)).mpr (h x (List.mem_cons_of_mem _ hx))
      rw [List.length_erase_of_mem ha] at h2
      have := List.length_pos_of_mem ha
      rw [List.length_cons]; omega
  exact Nat.le_trans (h2 h.nodup fun x hx => e x ((h.2 x).mp hx)) hl⟩
theorem SetN.filter {n : List Rl} (h : SetN n) (p : Rl → Bool) : SetN (n.filter p) := ⟨(h.s.filter p), fun r hr => h.ok r (List.mem_filter.mp hr).1, Nat.le_trans (List.length_filter_le _ _) h.le⟩
theorem SetN.nil : SetN [] := ⟨⟨.nil, fun _ => Iff.rfl⟩, (fun r h => nomatch h), Nat.zero_le _⟩
section
variable {K : PySem.W.Frag} {Cs : Addr} {Cf : RK → Addr} {σ : L2.St} {H : Hp} {ta tb te : TE} {E : XK} {l m n : List Rl} {p q : Addr}
theorem es_var {i : Nat} (h : σ[i]? = some (some (.ref p))) (hp : SlipsAt K H Cs Cf p l) : EvSet K Cs Cf (tVar i) σ H l := fun H1 s Q k => ⟨_, h, k p H1 (Same.refl H1) (hp.mono s)⟩
theorem es_op {S : List Rl → List Rl → List Rl} (ha : EvSet K Cs Cf ta σ H l) (hb : EvSet K Cs Cf tb σ H m) (nl : SetN l) (nm : SetN m) (hn : SetOf n (S l m)) : EvSet K Cs Cf (tOp (rOwn Cs (spS2 K Cs Cf S) E) ta tb) σ H n := fun H1 s Q k =>
  ha H1 s _ fun x H2 s2 hx => hb H2 (s.trans s2) _ fun y H3 s3 hy => ⟨x, y, rfl, rfl, (hx.mono s3).own, hy.own, x, y, l, m, rfl, hx.mono s3, hy, nl.ok, nm.ok, nl.le, nm.le, nl.s.nodup, nm.s.nodup, fun z n' H4 nz s4 hn' hz => by
    have e : n' = n := hn'.uniq hn fun _ => Iff.rfl
    subst e
    exact k z H4 ((s2.trans s3).trans s4) hz⟩
theorem ev_texts (ha : EvSet K Cs Cf ta σ H l) (nl : SetN l) : Evl.EvL (tCall (spTexts K Cs Cf) [] E (tCons ta tNil)) σ H ((l.map strRl).map V.str) := fun H1 s Q k =>
  ha H1 s _ fun x H2 s2 hx => ⟨x, l, rfl, hx, nl.ok, by have := nl.le; omega, fun q H' nq s' hq => k q H' (Evl.fresh_back s2 nq) (s2.trans s') hq⟩
theorem ev_within (ha : EvSet K Cs Cf ta σ H l) (hb : EvSet K Cs Cf tb σ H m) (nl : SetN l) (nm : SetN m) : Evl.Ev (tMeth Cs "within" (spSWithin K Cs Cf) [] E ta (tCons tb tNil)) σ H (.bl (decide (sSub l m = []))) := fun H1 s Q k =>
  ha H1 s _ fun x H2 s2 hx => by
    obtain ⟨dx, d, t, us, es, ds, h1, _⟩ := id hx
    refine ⟨x, dx, _, rfl, h1, ?_, hb H2 (s.trans s2) _ fun y H3 s3 hy => ⟨x, y, l, m, rfl, hx.mono s3, hy, nl.ok, nm.ok, nl.le, nm.le, nl.s.nodup, nm.s.nodup, fun H4 s4 => k H4 ((s2.trans s3).trans s4)⟩⟩
    rw [lookup_hd, if_neg (by decide +kernel), lookup_hd, if_neg (by decide +kernel)]
    rfl
theorem es_make0 (hK : True) : EvSet K Cs Cf (tMake0 Cs (spSIs K Cs Cf) E) σ H [] := fun H1 s Q k => fun x dx nx ndx ne => by
  have s1 : Same H1 (upd (upd H1 dx (.own x)) x (.ins Cs dx [])) := (Evl.Ex.new ndx).trans (Evl.Ex.new (by rw [upd_ne ne.symm]; exact nx))
  refine ⟨[.ref x], [], rfl, rfl, Nat.zero_le _, fun p hp => ?_⟩
  have s2 : Same H1 (upd (upd (upd H1 dx (.own x)) x (.ins Cs dx [])) p (.tup [])) := s1.trans (Evl.Ex.new hp)
  have npx : p ≠ x := fun e => by rw [e, upd_same] at hp; cases hp
  refine ⟨x, p, dx, [], [], rfl, upd_same, .nil, (fun r h => nomatch h), Nat.zero_le _, by rw [upd_ne npx.symm]; exact upd_same, fun l H' hl o hs' => ⟨rfl, k x H' (fun a u ha => ?_) ?_⟩⟩
  · exact o a u (ne_of_none ha nx) (s2 _ _ ha)
  · have e : l = [] := List.eq_nil_iff_forall_not_mem.mpr fun r hr => nomatch (hl.2 r).mp hr
    subst e
    exact hs'
theorem et_neTx {a b : List Str} {tl tr : TE} {c : Bool} (h1 : Evl.EvL tl σ H (a.map V.str)) (h2 : Evl.EvL tr σ H (b.map V.str)) (ha : a.all okS = true) (hb : b.all okS = true) (e : (!decide (a = b)) = c) : Evl.EvT (tTest (tOp (rNeD K) tl tr)) σ H c :=
  Evl.et_is (Evl.et_test (Evl.ev_opLL h1 h2 fun p q H1 e1 e2 s => rv_neLs ha hb (SqL.of e1) (SqL.of e2))) e
theorem et_neTxV {a b : List Str} {tl tr : TE} {c : Bool} (h1 : Evl.EvL tl σ H (a.map V.str)) (h2 : Evl.Ev tr σ H (.ref q)) (hq : H q = some (.lst (b.map V.str))) (ha : a.all okS = true) (hb : b.all okS = true) (e : (!decide (a = b)) = c) : Evl.EvT (tTest (tOp (rNeD K) tl tr)) σ H c :=
  Evl.et_is (Evl.et_test (Evl.ev_opL1 h1 (fun H1 s => h2.mono s) fun p H1 e1 s => rv_neLs ha hb (SqL.of e1) (SqL.of (s _ _ hq)))) e
theorem ev_eqTxV {a b : List Str} {tl tr : TE} {c : Bool} (h1 : Evl.EvL tl σ H (a.map V.str)) (h2 : Evl.Ev tr σ H (.ref q)) (hq : H q = some (.lst (b.map V.str))) (ha : a.all okS = true) (hb : b.all okS = true) (e : decide (a = b) = c) : Evl.Ev (tOp (rEqD K) tl tr) σ H (.bl c) :=
  Evl.ev_is (Evl.ev_opL1 h1 (fun H1 s => h2.mono s) fun p H1 e1 s => rv_eqLs' ha hb (SqL.of e1) (SqL.of (s _ _ hq))) (by rw [e])
end
end Ss
namespace Ss
open PySem L2
section
variable {P : Program} {w : World} {K : PySem.W.Frag} {mg : Str → Option Value} {base : Heap}
theorem ev_inS {K : PySem.W.Frag} {σ : L2.St} {H : Hp} {i j : Nat} {z : Str} {zs : List Str} {q : Addr} {neg : Bool} (h1 : σ[i]? = some (some (.str z))) (h2 : σ[j]? = some (some (.ref q))) (hq : H q = some (.lst (zs.map V.str))) : Evl.Ev (tOp (rIn K neg) (tVar i) (tVar j)) σ H (.bl (decide (z ∈ zs) != neg)) :=
  Evl.ev_is (Evl.ev_op (Evl.ev_var h1) (Evl.ev_var h2) (Evl.rv_inL (SqL.of hq) rfl (by rw [List.all_map]; exact List.all_eq_true.mpr fun _ _ => rfl))) (by rw [inV_str]; cases neg <;> simp)
theorem bl_ne (a b : Bool) : (!decide (V.bl a = V.bl b)) = (a != b) := by cases a <;> cases b <;> decide
theorem lk_lst {H : Hp} {Cf : RK → Addr} {pd l0 l1 : Addr} {us0 us1 : List V} {r0 r1 : List Rl} (D : Drw H Cf pd l0 l1 us0 us1 r0 r1) {i : Nat} (hi : i < 2) : ∃ us, H (lkOf l0 l1 i) = some (.lst us) := by
  cases i with
  | zero => exact ⟨_, D.a0⟩
  | succ i => exact ⟨_, D.a1⟩
theorem lk_ne {l0 l1 x : Addr} (h0 : l0 ≠ x) (h1 : l1 ≠ x) : ∀ i, lkOf l0 l1 i ≠ x
  | 0 => h0
  | _ + 1 => h1
theorem q_asgE {te : TE} {g : TG} {tz : TS} {D : Ends} {σ : L2.St} {H : Hp} (h : te σ H fun v H1 => g v σ H1 (tz D)) : tSeq (tAsg te g) tz D σ H := h
abbrev sLaw46 : Stmt := topS 31
theorem scLaw46 : FnScope ["script", "bag", "every", "turn", "drawn", "k", "first", "second", "some", "more", "both", "text", "left", "union"] ["script"] (defScope sLaw46) := ⟨rfl, rfl, rfl, by decide +kernel, rfl, by decide +kernel, by decide +kernel⟩
def spLaw (K : PySem.W.Frag) : Sp := fun vs H Q _ => ∃ (a : Addr) (ns : List Int), vs = [.ref a] ∧ SqL K H a (ns.map V.int) ∧ ns.length ≤ 63 ∧ ∀ H', Q (.bl true) H'
theorem ok_law {f Cb Cs fi pp fo : Addr} {mc : Value} {fd : FuncData} {Cf : RK → Addr} (F : Fun K "law" "law" sLaw46 f fd) (T : G0 mg) (S : SCl K Cs) (gS : mg "Slips" = some (.ref Cs)) (sf : PySem.W.selfFirst K Cs = true) (nip : NoIp K Cs (Operator.info .BitOr).2)
    (Dbag : Dk P w K mg base CX0 1 "_law_bag" ["script", "at"] (spBag K)) (Dtake : Dk P w K mg base CX0 1 "_law_take" ["dice", "many"] spTake) (Dtoken : Dk P w K mg base CX0 3 "_law_token" ["dice", "taken"] (spWord K SGN 4)) (Drule : Dk P w K mg base CX0 3 "_law_rule" ["bag", "every"] (spRule K)) (DR : Dk P w K mg base (L2.CX P w) 8 "_law_ruled" ["rule"] (spRuled K Cb Cf))
    (Dtexts : Dk P w K mg base CX0 4 "_law_texts" ["slips"] (spTexts K Cs Cf)) (Rd : ClX.CRead K Cs mc) (Cm : ClX.CMet K Cs mc "of" pp fo) (Fof : FnR P w K mg base CX0 6 fo (spSof K Cs Cf)) (MS : Mk K Cs fi) (FS : FnR P w K mg base CX0 4 fi (spSIs K Cs Cf))
    (DAnd : Mm P w K mg base CX0 Cs 6 "__and__" ["self", "other"] (spS2 K Cs Cf sAnd)) (DOr : Mm P w K mg base CX0 Cs 6 "__or__" ["self", "other"] (spS2 K Cs Cf sOr)) (DSub : Mm P w K mg base CX0 Cs 6 "__sub__" ["self", "other"] (spS2 K Cs Cf sSub)) (DXor : Mm P w K mg base CX0 Cs 7 "__xor__" ["self", "other"] (spS2 K Cs Cf sXor))
    (DWith : Mm P w K mg base CX0 Cs 7 "within" ["self", "other"] (spSWithin K Cs Cf)) : FnOk P w K mg base CX0 10 f fd ["script"] (spLaw K) := by
  refine F.ok scLaw46 (fun vs H Q E h => ?_) (fun cdv A outer s H vs Q E hr h => ?_)
  · obtain ⟨a, ns, rfl, _⟩ := h; rfl
  · obtain ⟨a, ns, rfl, hS, hl, k⟩ := h
    refine ⟨_, (pss_cons (ps_set (i := 1) scLaw46.nd rfl (Or.inl rfl) (pe_cd Dbag hr pass0 (pa_cons (pv 0) (pa_cons pe_int pa_nil)))) (pss_cons (ps_set (i := 2) scLaw46.nd rfl (Or.inl rfl) (pe_lst (pa_cons (pe_cd Dtoken hr pass0 (pa_cons (pv 1) (pa_cons (pe_lst pa_nil) pa_nil))) pa_nil))) (pss_cons (ps_for PassesOwn.never rfl (pi_range1 (by rfl) T.range (pa_cons (pe_op op_add pe_int (pe_cd Dtake hr pass0 (pa_cons (pv 1) (pa_cons pe_int pa_nil)))) pa_nil)) (pg_name (i := 3) scLaw46.nd rfl (.inl rfl)) (pss_one (ps_expr (pe_bm PySem.F.plainAttrs_list PySem.F.slot_list_append PySem.F.type_list_append mt_append (pv 2) (pa_cons (pe_cd Dtoken hr pass0 (pa_cons (pv 1) (pa_cons (pv 2) pa_nil))) pa_nil))))) (pss_cons (ps_set (i := 4) scLaw46.nd rfl (Or.inl rfl) (pe_lst (pa_cons (pe_lst pa_nil) (pa_cons (pe_lst pa_nil) pa_nil)))) (pss_cons (ps_for PassesOwn.never rfl (pi_range1 (by rfl) T.range (pa_cons pe_int pa_nil)) (pg_name (i := 5) scLaw46.nd rfl (.inl rfl)) (pss_one (ps_for PassesOwn.never rfl (pi_range1 (by rfl) T.range (pa_cons (pe_cd Dtake hr pass0 (pa_cons (pv 1) (pa_cons pe_int pa_nil))) pa_nil)) (pg_name (i := 3) scLaw46.nd rfl (.inl rfl)) (pss_one (ps_expr (pe_bm PySem.F.plainAttrs_list PySem.F.slot_list_append PySem.F.type_list_append mt_append (pe_ix ix_list (pv 4) (pv 5) (fun _ _ => rfl)) (pa_cons (pe_cd DR hr passN (pa_cons (pe_cd Drule hr pass0 (pa_cons (pv 1) (pa_cons (pv 2) pa_nil))) pa_nil)) pa_nil))))))) (Evl.pss_cut (ps_if (pt_cmpR op_eq (pe_cd Dtake hr pass0 (pa_cons (pv 1) (pa_cons pe_int pa_nil))) pe_int (nomark _)) (pss_one (ps_asg (pe_op op_cat (pe_ix ix_list (pv 4) pe_int (fun _ _ => rfl)) (pe_ix ix_list (pv 4) pe_int (fun _ _ => rfl))) (pg_sub (pv 4) pe_int set_list))) pss_nil) (pss_cons (ps_par (by rfl) scLaw46.nd rfl rfl (by decide) rfl rfl (pa_cons (ClX.pe_cmeth (pe_glob (v := .ref Cs) rfl gS rfl) Rd Cm Fof (hr.mono (by decide)) pass0 (pa_cons (pe_ix ix_list (pv 4) pe_int (fun _ _ => rfl)) pa_nil)) (pa_cons (ClX.pe_cmeth (pe_glob (v := .ref Cs) rfl gS rfl) Rd Cm Fof (hr.mono (by decide)) pass0 (pa_cons (pe_ix ix_list (pv 4) pe_int (fun _ _ => rfl)) pa_nil)) pa_nil)) (by rfl) (i := 6) (j := 7)) (pss_cons (ps_asg (pe_tup (pa_cons (pe_cd Dtexts hr pass0 (pa_cons (pv 6) pa_nil)) (pa_cons (pe_cd Dtexts hr pass0 (pa_cons (pv 7) pa_nil)) pa_nil))) (pg_tup (by rfl) (pgs_cons (pg_name (i := 8) scLaw46.nd rfl (.inr rfl)) (pgs_cons (pg_name (i := 9) scLaw46.nd rfl (.inr rfl)) pgs_nil)))) (pss_cons (ps_set (i := 10) scLaw46.nd rfl (Or.inl rfl) (pe_cd Dtexts hr pass0 (pa_cons (ClX.pe_cmeth (pe_glob (v := .ref Cs) rfl gS rfl) Rd Cm Fof (hr.mono (by decide)) pass0 (pa_cons (pe_op op_cat (pe_ix ix_list (pv 4) pe_int (fun _ _ => rfl)) (pe_ix ix_list (pv 4) pe_int (fun _ _ => rfl))) pa_nil)) pa_nil))) (pss_cons (ps_if (pt_cmpR (op_neD hr.units) (pe_cd Dtexts hr pass0 (pa_cons (pe_op (op_own DAnd hr pass0 sf) (pv 6) (pv 7)) pa_nil)) (pe_lc (own := [("text", 11)]) (g := gName 11) rfl scLaw46.nd (pi_list (pv 10)) (blkOk_by (N := ["script", "bag", "every", "turn", "drawn", "k", "first", "second", "some", "more", "both", "text", "left", "union"]) (sc := defScope sLaw46) (by decide +kernel)) (fun _ _ _ _ _ => (pg_name (i := 11) scLaw46.nd rfl (.inl rfl))) (fun _ _ _ _ _ => (pts_one (PW.pt (pw_and (pt_cmpR (op_inKs (K := K) rfl) (pv 11) (pv 8) (by rfl)) (pw_and1 (pt_cmpR (op_inKs (K := K) rfl) (pv 11) (pv 9) (by rfl))))))) (fun _ _ _ _ _ => (pv 11))) (nomark _)) (pss_one (ps_ret pe_bl)) pss_nil) (pss_cons (ps_setLc (i := 12) (own := [("text", 11)]) (g := gName 11)  rfl scLaw46.nd rfl rfl (sw_true rfl rfl rfl (by decide +kernel)) (pi_list (pv 8)) (blkOk_by (N := ["script", "bag", "every", "turn", "drawn", "k", "first", "second", "some", "more", "both", "text", "left", "union"]) (sc := defScope sLaw46) (by decide +kernel)) (fun _ _ _ _ _ => (pg_name (i := 11) scLaw46.nd rfl (.inl rfl))) (fun _ _ _ _ _ => (pts_one (pt_cmpR (op_niKs (K := K) rfl) (pv 11) (pv 9) (by rfl)))) (fun _ _ _ _ _ => (pv 11))) (pss_cons (ps_if (PW.pt (pw_or (pt_cmpR (op_neD hr.units) (pe_cd Dtexts hr pass0 (pa_cons (pe_op (op_own DOr hr pass0 sf) (pv 6) (pv 7)) pa_nil)) (pv 10) (nomark _)) (pw_or1 (pt_cmpR (op_neD hr.units) (pe_cd Dtexts hr pass0 (pa_cons (pe_op (op_own DSub hr pass0 sf) (pv 6) (pv 7)) pa_nil)) (pv 12) (nomark _))))) (pss_one (ps_ret pe_bl)) pss_nil) (pss_cons (ps_if (pt_cmpR (op_neD hr.units) (pe_cd Dtexts hr pass0 (pa_cons (pe_op (op_own DXor hr pass0 sf) (pv 6) (pv 7)) pa_nil)) (pe_lc (own := [("text", 11)]) (g := gName 11) rfl scLaw46.nd (pi_list (pv 10)) (blkOk_by (N := ["script", "bag", "every", "turn", "drawn", "k", "first", "second", "some", "more", "both", "text", "left", "union"]) (sc := defScope sLaw46) (by decide +kernel)) (fun _ _ _ _ _ => (pg_name (i := 11) scLaw46.nd rfl (.inl rfl))) (fun _ _ _ _ _ => (pts_one (pt_cmpR op_ne (pe_cmpR (op_inKs (K := K) rfl) (pv 11) (pv 8) (by rfl)) (pe_cmpR (op_inKs (K := K) rfl) (pv 11) (pv 9) (by rfl)) (nomark _)))) (fun _ _ _ _ _ => (pv 11))) (nomark _)) (pss_one (ps_ret pe_bl)) pss_nil) (pss_cons (ps_if (PW.pt (pw_or (pt_cmpR op_ne (pe_md (pv 6) S.cl DWith hr pass0 (pa_cons (pv 7) pa_nil)) (pe_cmpR (op_eqD hr.units) (pv 12) (pe_lst pa_nil) (nomark _)) (nomark _)) (pw_or1 (pt_cmpR op_notBl (pe_md (pv 6) S.cl DWith hr pass0 (pa_cons (pv 6) pa_nil)) pe_bl (nomark _))))) (pss_one (ps_ret pe_bl)) pss_nil) (pss_cons (ps_if (PW.pt (pw_or (pt_cmpR op_notBl (pe_md (pe_op (op_own DAnd hr pass0 sf) (pv 6) (pv 7)) S.cl DWith hr pass0 (pa_cons (pv 6) pa_nil)) pe_bl (nomark _)) (pw_or1 (pt_cmpR op_notBl (pe_md (pe_make0 MS FS (hr.mono (by decide)) (by rfl) gS pass0) S.cl DWith hr pass0 (pa_cons (pv 7) pa_nil)) pe_bl (nomark _))))) (pss_one (ps_ret pe_bl)) pss_nil) (pss_cons (ps_set (i := 13) scLaw46.nd rfl (Or.inl rfl) (pv 6)) (pss_cons (ps_aug (i := 13) scLaw46.nd rfl (.inl rfl) (pv 7) (ip_own DOr hr pass0 nip)) (pss_cons (ps_if (pt_cmpR (op_neD hr.units) (pe_cd Dtexts hr pass0 (pa_cons (pv 13) pa_nil)) (pv 10) (nomark _)) (pss_one (ps_ret pe_bl)) pss_nil) (pss_one (ps_ret (pe_and (pe_cmpR (op_eqD hr.units) (pe_cd Dtexts hr pass0 (pa_cons (pv 6) pa_nil)) (pv 8) (nomark _)) (pe_one (pe_cmpR (op_eqD hr.units) (pe_cd Dtexts hr pass0 (pa_cons (pv 7) pa_nil)) (pv 9) (nomark _)))))))))))))))))))))))), ?_⟩
    refine ⟨_, rfl, a, ns, 0, rfl, hS, hl, by decide, fun b H1 hb s1 B1 => ?_⟩
    refine ⟨_, rfl, Nat.zero_le _, fun q0 hq0 => ⟨b, q0, 0, [], rfl, B1.new hq0, by decide, (B1.ne hq0).symm, SqL.of upd_same, by decide +kernel, fun t1 H2 a1 a2 a3 _ O2 B2 => ?_⟩⟩
    have T1 : TokS (mkS t1) := ⟨t1, rfl, a1, a2, a3⟩
    refine ⟨by show 1 ≤ sizeLine; decide, fun p hp => ?_⟩
    have npb : p ≠ b := (B2.ne hp).symm
    have B3 := B2.new (o := .lst [.str (mkS t1)]) hp
    have hp3 : upd H2 p (.lst [.str (mkS t1)]) p = some (.lst [.str (mkS t1)]) := upd_same
    generalize upd H2 p (.lst [.str (mkS t1)]) = H3 at B3 hp3
    refine ⟨_, rfl, b, 2, _, rfl, B3, by decide, by decide, by decide, fun i4 H4 i0 i1 O4 B4 => ?_⟩
    refine ⟨_, _, rfl, rfl, 1 + i4, rfl, by omega, by omega, ?_⟩
    have hp4 := O4 _ _ npb hp3
    obtain ⟨n4, e4, h4⟩ : ∃ n : Nat, (1 + i4).toNat = n ∧ (n = 1 ∨ n = 2) := ⟨_, rfl, by omega⟩
    rw [e4]
    refine for_range (lo := 0) (n := n4) (fun i σ H' => ∃ (ws : List Str) (v : Option V), σ = [some (.ref a), some (.ref b), some (.ref p), v, none, none, none, none, none, none, none, none, none, none] ∧ ws.length = i + 1 ∧ (∀ z ∈ ws, TokS z) ∧ ws.Nodup ∧ H' p = some (.lst (ws.map V.str)) ∧ Bag H' b (20 + 10 * i))
      ⟨[mkS t1], none, rfl, rfl, (fun z hz => by rw [List.mem_singleton.mp hz]; exact T1), by simp, hp4, B4.mono (by decide)⟩ ?_ ?_
    · rintro i σ H5 hi ⟨ws, v, rfl, lw, tw, nd, hp5, B5⟩
      have sg : 3 < SGN.length := by decide +kernel
      refine ⟨_, rfl, .inl ⟨rfl, _, SqL.of hp5⟩, _, rfl, _, rfl, b, p, _, ws, rfl, B5, by omega, npb, SqL.of hp5, by omega, fun t2 H6 b1 b2 b3 b4 O6 B6 => ?_⟩
      have hp6 := O6 _ _ npb hp5
      refine ⟨p, _, _, rfl, rfl, hp6, by rw [List.length_map]; exact Nat.lt_of_le_of_lt (show _ ≤ 1000 by omega) (by decide), ?_⟩
      refine ⟨ws ++ [mkS t2], _, rfl, by rw [List.length_append, lw]; rfl, fun z hz => ?_, ?_, by rw [upd_same, List.map_append]; rfl, ?_⟩
      · rcases List.mem_append.mp hz with hz | hz
        · exact tw z hz
        · rw [List.mem_singleton.mp hz]; exact ⟨t2, rfl, b1, b2, b3⟩
      · exact List.nodup_append.mpr ⟨nd, by simp, fun x hx y hy e => b4 (by rw [← List.mem_singleton.mp hy, ← e]; exact hx)⟩
      · obtain ⟨d, m, c, g1, g2⟩ := B6.mono (show _ ≤ 20 + 10 * (i + 1) by omega)
        exact ⟨d, m, c, by rw [upd_ne npb.symm]; exact g1, g2⟩
    rintro σ H5 ⟨ws, v, rfl, lw, tw, nd, hp5, B5⟩
    refine ⟨Nat.zero_le _, fun l0 hl0 => ⟨Nat.zero_le _, fun l1 hl1 => ⟨by show 2 ≤ sizeLine; decide, fun pd hpd => ?_⟩⟩⟩
    have n10 : l1 ≠ l0 := fun e => by rw [e, upd_same] at hl1; cases hl1
    have npd1 : pd ≠ l1 := fun e => by rw [e, upd_same] at hpd; cases hpd
    have npd0 : pd ≠ l0 := fun e => by rw [e, upd_ne n10.symm, upd_same] at hpd; cases hpd
    have s5a : Same H5 (upd H5 l0 (.lst [])) := Evl.Ex.new hl0
    have s5b : Same H5 (upd (upd H5 l0 (.lst [])) l1 (.lst [])) := s5a.trans (Evl.Ex.new hl1)
    have s5c : Same H5 (upd (upd (upd H5 l0 (.lst [])) l1 (.lst [])) pd (.lst [.ref l0, .ref l1])) := s5b.trans (Evl.Ex.new hpd)
    have nb0 : l0 ≠ b := (B5.ne hl0).symm
    have nb1 : l1 ≠ b := ((B5.same s5a).ne hl1).symm
    have nbd : pd ≠ b := ((B5.same s5b).ne hpd).symm
    have np0 : l0 ≠ p := (ne_of_none hp5 hl0).symm
    have np1 : l1 ≠ p := (ne_of_none (s5a _ _ hp5) hl1).symm
    have npd : pd ≠ p := (ne_of_none (s5b _ _ hp5) hpd).symm
    have D5 : Drw (upd (upd (upd H5 l0 (.lst [])) l1 (.lst [])) pd (.lst [.ref l0, .ref l1])) Cf pd l0 l1 [] [] [] [] := ⟨upd_same, by rw [upd_ne npd0.symm, upd_ne n10.symm]; exact upd_same, by rw [upd_ne npd1.symm]; exact upd_same, .nil, .nil, (fun _ h => nomatch h), (fun _ h => nomatch h), npd0, npd1, n10.symm⟩
    have B5' := B5.same s5c
    have hp5' := s5c _ _ hp5
    generalize upd (upd (upd H5 l0 (.lst [])) l1 (.lst [])) pd (.lst [.ref l0, .ref l1]) = G5 at D5 B5' hp5'
    refine ⟨2, rfl, by decide, by decide, ?_⟩
    refine for_range (lo := 0) (n := 2) (fun i σ H' => ∃ (v kv : Option V) (us0 us1 : List V) (r0 r1 : List Rl), σ = [some (.ref a), some (.ref b), some (.ref p), v, some (.ref pd), kv, none, none, none, none, none, none, none, none] ∧ Drw H' Cf pd l0 l1 us0 us1 r0 r1 ∧ r0.length ≤ 10 * i ∧ r1.length ≤ 10 * i ∧ H' p = some (.lst (ws.map V.str)) ∧ Bag H' b (100 + 100 * i))
      ⟨v, none, [], [], [], [], rfl, D5, Nat.zero_le _, Nat.zero_le _, hp5', B5'.mono (by omega)⟩ ?_ ?_
    · rintro i σ H6 hi ⟨v', kv, us0, us1, r0, r1, rfl, D6, le0, le1, hp6, B6⟩
      refine ⟨_, rfl, b, 11, _, rfl, B6, by omega, by decide, by decide, fun u H7 u0 u1 O7 B7 => ⟨u, rfl, by omega, by omega, ?_⟩⟩
      obtain ⟨n7, e7, h7⟩ : ∃ n : Nat, u.toNat = n ∧ n ≤ 10 := ⟨_, rfl, by omega⟩
      rw [e7]
      refine for_range (lo := 0) (n := n7) (fun t σ H' => ∃ (v : Option V) (us0 us1 : List V) (r0 r1 : List Rl), σ = [some (.ref a), some (.ref b), some (.ref p), v, some (.ref pd), some (.int (0 + (i : Int))), none, none, none, none, none, none, none, none] ∧ Drw H' Cf pd l0 l1 us0 us1 r0 r1 ∧ r0.length ≤ 10 * i + t ∧ r1.length ≤ 10 * i + t ∧ H' p = some (.lst (ws.map V.str)) ∧ Bag H' b (100 + 100 * i + 1 + 3 * t))
        ⟨v', us0, us1, r0, r1, rfl, D6.off B6 O7 ⟨nbd, nb0, nb1⟩, by omega, by omega, O7 _ _ npb hp6, B7.mono (by omega)⟩ ?_ ?_
      · rintro t σ H8 ht ⟨v8, us0, us1, r0, r1, rfl, D8, le0, le1, hp8, B8⟩
        refine ⟨_, rfl, _, rfl, pd, _, (i : Int), _, rfl, congrArg V.int (Int.zero_add _), SqL.of D8.d, atI_nat (lk_at hi), ?_⟩
        have hlk := lk_lst D8 hi
        obtain ⟨us8, hlk⟩ := hlk
        refine ⟨.inl ⟨rfl, _, SqL.of hlk⟩, _, rfl, _, rfl, b, p, _, ws, rfl, B8, by omega, npb, SqL.of hp8, by omega, by omega, nd, fun q1 k1 toks H9 O9 B9 nq1 hq1 ll mm nd1 => ?_⟩
        have R9 : RT H9 q1 k1 toks := ⟨hq1, ll, fun z hz => tw z (mm z hz), nd1⟩
        refine ⟨q1, k1, toks, rfl, SqT.of hq1, ll, R9.words, fun _ x H10 s10 nx hx => ?_, fun z hz => by rw [R9.good] at hz; cases hz⟩
        have D10 := (D8.off B8 O9 ⟨nbd, nb0, nb1⟩).mono s10
        obtain ⟨us, e1, e2, us0', us1', r0', r1', D11, l0', l1'⟩ := D10.push (r := (k1, toks)) hi le0 le1 hx ⟨ll, fun z hz => tw z (mm z hz), nd1⟩
        refine ⟨_, _, _, rfl, rfl, e1, Nat.lt_of_le_of_lt (show us.length ≤ 1000 by omega) (by decide), ?_⟩
        have nlp : lkOf l0 l1 i ≠ p ∧ lkOf l0 l1 i ≠ b := ⟨lk_ne np0 np1 i, lk_ne nb0 nb1 i⟩
        refine ⟨_, us0', us1', r0', r1', rfl, D11, l0', l1', ?_, ?_⟩
        · rw [upd_ne nlp.1.symm]; exact s10 _ _ (O9 _ _ npb hp8)
        · obtain ⟨d, m, c, g1, g2⟩ := (B9.same s10).mono (show _ ≤ 100 + 100 * i + 1 + 3 * (t + 1) by omega)
          exact ⟨d, m, c, by rw [upd_ne nlp.2.symm]; exact g1, g2⟩
      · rintro σ H8 ⟨v8, us0, us1, r0, r1, rfl, D8, le0, le1, hp8, B8⟩
        exact ⟨v8, _, us0, us1, r0, r1, rfl, D8, by omega, by omega, hp8, B8.mono (by omega)⟩
    rintro σ H6 ⟨v6, kv, us0, us1, r0, r1, rfl, D6, le0, le1, hp6, B6⟩
    refine Evl.q_cut (M := fun σ' H' => ∃ (l1 : Addr) (us0 us1 : List V) (r0 r1 : List Rl), σ' = [some (.ref a), some (.ref b), some (.ref p), v6, some (.ref pd), kv, none, none, none, none, none, none, none, none] ∧ Drw H' Cf pd l0 l1 us0 us1 r0 r1 ∧ r0.length ≤ 40 ∧ r1.length ≤ 40) ?_ ?_
    · refine ⟨_, rfl, b, 4, _, rfl, B6, by omega, by decide, by decide, fun u H7 u0 u1 O7 B7 => ⟨rfl, _, rfl, ?_⟩⟩
      have D7 := D6.off B6 O7 ⟨nbd, nb0, nb1⟩
      refine ite2 (fun c => ?_) (fun c => ⟨l1, us0, us1, r0, r1, rfl, D7, by omega, by omega⟩)
      refine ⟨_, rfl, pd, _, 1, _, rfl, rfl, SqL.of D7.d, rfl, _, rfl, pd, _, 0, _, rfl, rfl, SqL.of D7.d, rfl, l1, l0, us1, us0, rfl, rfl, D7.a1, D7.a0, ?_, fun l2 nl2 => ?_⟩
      · rw [D7.n0.1, D7.n1.1]; exact Nat.le_trans (show _ ≤ 1000 by omega) (by decide)
      have s8 : Same H7 (upd H7 l2 (.lst (us1 ++ us0))) := Evl.Ex.new nl2
      have hd8 := s8 _ _ D7.d
      refine ⟨_, rfl, pd, _, _, 1, rfl, rfl, hd8, rfl, ?_⟩
      have n2d : l2 ≠ pd := fun e => by rw [e, D7.d] at nl2; cases nl2
      have n20 : l0 ≠ l2 := ne_of_none D7.a0 nl2
      refine ⟨l2, us0, us1 ++ us0, r0, r1 ++ r0, rfl, ⟨upd_same, ?_, ?_, (D7.n0.mono s8).lst hd8, ((D7.n1.app D7.n0).mono s8).lst hd8, D7.ok0, fun r hr => (List.mem_append.mp hr).elim (D7.ok1 r) (D7.ok0 r), D7.ne0, n2d.symm, n20⟩, by omega, by rw [List.length_append]; omega⟩
      · rw [upd_ne D7.ne0.symm]; exact s8 _ _ D7.a0
      · rw [upd_ne n2d]; exact upd_same
    rintro _ H7 ⟨l1, us0, us1, r0, r1, rfl, D7, le0, le1⟩
    -- the two sets
    refine ⟨rfl, _, rfl, pd, _, 0, _, rfl, rfl, SqL.of D7.d, rfl, l0, us0, r0, rfl, .inr (SqL.of D7.a0), D7.n0, D7.ok0, by omega, fun f1 F1 H8 nf1 s8 hF1 A1 => ?_⟩
    have D8 := D7.mono s8
    refine ⟨rfl, _, rfl, pd, _, 1, _, rfl, rfl, SqL.of D8.d, rfl, l1, us1, r1, rfl, .inr (SqL.of D8.a1), D8.n1, D8.ok1, by omega, fun f2 F2 H9 nf2 s9 hF2 A2 => ?_⟩
    have D9 := D8.mono s9
    have A1 := A1.mono s9
    have n1 : SetN F1 := SetN.of hF1 D7.ok0 r0 (by omega) fun _ h => h
    have n2 : SetN F2 := SetN.of hF2 D7.ok1 r1 (by omega) fun _ h => h
    refine ⟨_, _, rfl, ?_⟩
    refine (ev_texts (es_var rfl A1) n1) H9 (Same.refl H9) _ fun q1 H10 nq1 s10 hq1 => ?_
    refine (ev_texts (es_var rfl (A2.mono s10)) n2) H10 (Same.refl H10) _ fun q2 H11 nq2 s11 hq2 => ?_
    refine ⟨by show 2 ≤ sizeLine; decide, fun pt hpt => ?_⟩
    have s11 := s11.trans (Evl.Ex.new (o := .tup [.ref q1, .ref q2]) hpt)
    have hq2 := (Evl.Ex.new (o := .tup [.ref q1, .ref q2]) hpt) _ _ hq2
    have hq1 := s11 _ _ hq1
    have A1 := A1.mono (s10.trans s11)
    have A2 := A2.mono (s10.trans s11)
    have D11 := D9.mono (s10.trans s11)
    refine ⟨pt, _, rfl, SqT.of upd_same, rfl, _, _, rfl, _, _, rfl, rfl, ?_⟩
    generalize upd H11 pt (.tup [.ref q1, .ref q2]) = H11 at s11 hq1 hq2 A1 A2 D11
    refine ⟨rfl, _, rfl, pd, _, 0, _, rfl, rfl, SqL.of D11.d, rfl, _, rfl, pd, _, 1, _, rfl, rfl, SqL.of D11.d, rfl, l0, l1, us0, us1, rfl, rfl, D11.a0, D11.a1, ?_, fun l3 nl3 => ?_⟩
    · rw [D11.n0.1, D11.n1.1]; exact Nat.le_trans (show _ ≤ 1000 by omega) (by decide)
    have s12 : Same H11 (upd H11 l3 (.lst (us0 ++ us1))) := Evl.Ex.new nl3
    have okB : ∀ r ∈ r0 ++ r1, RlOk r := fun r hr => (List.mem_append.mp hr).elim (D7.ok0 r) (D7.ok1 r)
    refine ⟨l3, us0 ++ us1, r0 ++ r1, rfl, .inr (SqL.of upd_same), (D11.n0.app D11.n1).mono s12, okB, by rw [List.length_append]; omega, fun fb B H13 nfb s13 hB AB => ?_⟩
    have nB : SetN B := SetN.of hB okB (r0 ++ r1) (by rw [List.length_append]; omega) fun _ h => h
    refine ⟨fb, B, rfl, AB, nB.ok, by have := nB.le; omega, fun q3 H14 nq3 s14 hq3 => ?_⟩
    have s := (s12.trans s13).trans s14
    have A1 := A1.mono s
    have A2 := A2.mono s
    have hq1 := s _ _ hq1
    have hq2 := s _ _ hq2
    clear AB D11 D9 D8 D7 D6 D5
    have tB : (B.map strRl).length ≤ 1000 := by rw [List.length_map]; have := nB.le; omega
    have t1' : (F1.map strRl).length ≤ 1000 := by rw [List.length_map]; have := n1.le; omega
    have m1 : ∀ r, RlOk r → (decide (strRl r ∈ F1.map strRl) = true ↔ r ∈ F1) := fun r hr => by rw [decide_eq_true_eq, mem_txt n1.ok hr]
    have m2 : ∀ r, RlOk r → (decide (strRl r ∈ F2.map strRl) = true ↔ r ∈ F2) := fun r hr => by rw [decide_eq_true_eq, mem_txt n2.ok hr]
    have fo : ∀ (l : List Rl) (f : Str → Bool), (∀ r ∈ l, RlOk r) → ((l.map strRl).filter f).all okS = true := fun l f h => List.all_eq_true.mpr fun z hz => List.all_eq_true.mp (txt_ok h) z (List.mem_filter.mp hz).1
    have nA : SetN (sAnd F1 F2) := n1.filter _
    have nS : SetN (sSub F1 F2) := n1.filter _
    have eA : (sAnd F1 F2).map strRl = (B.map strRl).filter fun z => (decide (z ∈ F1.map strRl) != false) && (decide (z ∈ F2.map strRl) != false) := by
      refine pick_eq nA.s hB nB.ok _ (fun r hr => ?_) nA.ok
      rw [Bool.bne_false, Bool.bne_false, Bool.and_eq_true, m1 r hr, m2 r hr, List.mem_filter, decide_eq_true_eq, List.mem_append, ← hF1.2, ← hF2.2]
      exact ⟨fun h => ⟨.inl h.1, h⟩, fun h => h.2⟩
    refine Evl.q_when (b := false) (et_neTx (ev_texts (es_op (es_var rfl A1) (es_var rfl A2) n1 n2 nA.s) nA) (el_filtS (fun z => (decide (z ∈ F1.map strRl) != false) && (decide (z ∈ F2.map strRl) != false)) (Evl.ev_var rfl) hq3 tB (fun _ => rfl) (fun _ => rfl) (fun z G sg => Evl.et_and (Evl.et_test (ev_inS rfl rfl (sg _ _ hq1))) fun _ => Evl.et_test (ev_inS rfl rfl (sg _ _ hq2)))) (txt_ok nA.ok) (fo B _ nB.ok) (by rw [decide_eq_true eA]; rfl)) (fun e => Bool.noConfusion e) (fun _ G1 g1 => ?_)
    have A1 := A1.mono g1
    have A2 := A2.mono g1
    have hq1 := g1 _ _ hq1
    have hq2 := g1 _ _ hq2
    have hq3 := g1 _ _ hq3
    refine q_asgE ?_
    refine (el_filtS (K := K) (σ := [some (.ref a), some (.ref b), some (.ref p), v6, some (.ref pd), kv, some (.ref f1), some (.ref f2), some (.ref q1), some (.ref q2), some (.ref q3), none, none, none]) (j := 11) (fun z => decide (z ∈ F2.map strRl) != true) (Evl.ev_var (i := 8) rfl) hq1 t1' (fun _ => rfl) (fun _ => rfl) (fun z G sg => Evl.et_test (ev_inS (K := K) (i := 11) (j := 9) (neg := true) rfl rfl (sg _ _ hq2)))) G1 (Same.refl G1) _ fun q4 G2 nq4 g2 hq4 => ?_
    have A1 := A1.mono g2
    have A2 := A2.mono g2
    have hq1 := g2 _ _ hq1
    have hq2 := g2 _ _ hq2
    have hq3 := g2 _ _ hq3
    have eS : (sSub F1 F2).map strRl = (F1.map strRl).filter fun z => decide (z ∈ F2.map strRl) != true := by
      refine pick_eq nS.s n1.s n1.ok _ (fun r hr => ?_) nS.ok
      have h2 := m2 r hr
      rw [Bool.bne_true, List.mem_filter]
      refine ⟨fun h => ⟨h.1, ?_⟩, fun h => ⟨h.1, ?_⟩⟩
      · have h := h.2
        rw [Bool.not_eq_true', decide_eq_false_iff_not] at h ⊢
        rw [decide_eq_true_eq] at h2
        exact fun z => h (h2.mp z)
      · have h := h.2
        rw [Bool.not_eq_true', decide_eq_false_iff_not] at h ⊢
        rw [decide_eq_true_eq] at h2
        exact fun z => h (h2.mpr z)
    rw [← eS] at hq4
    have hBo : SetOf B (sOr F1 F2) := hB.eq fun r => by rw [List.mem_append, List.mem_append, hF1.2, hF2.2]
    refine Evl.q_when (b := false) (Evl.et_is (Evl.et_or (a := false) (b := false) (et_neTxV (ev_texts (es_op (es_var rfl A1) (es_var rfl A2) n1 n2 hBo) nB) (Evl.ev_var rfl) hq3 (txt_ok nB.ok) (txt_ok nB.ok) (by rw [decide_eq_true rfl]; rfl)) fun _ => et_neTxV (ev_texts (es_op (es_var rfl A1) (es_var rfl A2) n1 n2 nS.s) nS) (Evl.ev_var rfl) hq4 (txt_ok nS.ok) (txt_ok nS.ok) (by rw [decide_eq_true rfl]; rfl)) rfl) (fun e => Bool.noConfusion e) (fun _ G3 g3 => ?_)
    have A1 := A1.mono g3
    have A2 := A2.mono g3
    have hq1 := g3 _ _ hq1
    have hq2 := g3 _ _ hq2
    have hq3 := g3 _ _ hq3
    have hq4 := g3 _ _ hq4
    have nX : SetN (B.filter fun r => decide (r ∈ F1) != decide (r ∈ F2)) := nB.filter _
    have hX : SetOf (B.filter fun r => decide (r ∈ F1) != decide (r ∈ F2)) (sXor F1 F2) := (hB.filter _).eq fun r => by
      rw [List.mem_filter, List.mem_append, List.mem_append, List.mem_filter, List.mem_filter, ← hF1.2, ← hF2.2]
      by_cases x : r ∈ F1 <;> by_cases y : r ∈ F2 <;> simp [x, y]
    have eX : (B.filter fun r => decide (r ∈ F1) != decide (r ∈ F2)).map strRl = (B.map strRl).filter fun z => (decide (z ∈ F1.map strRl) != false) != (decide (z ∈ F2.map strRl) != false) := by
      refine pick_eq nX.s hB nB.ok _ (fun r hr => ?_) nX.ok
      have h1 : decide (strRl r ∈ F1.map strRl) = decide (r ∈ F1) := by rw [Bool.eq_iff_iff, m1 r hr, decide_eq_true_eq]
      have h2 : decide (strRl r ∈ F2.map strRl) = decide (r ∈ F2) := by rw [Bool.eq_iff_iff, m2 r hr, decide_eq_true_eq]
      rw [h1, h2, Bool.bne_false, Bool.bne_false, List.mem_filter, hB.2]
    refine Evl.q_when (b := false) (et_neTx (ev_texts (es_op (es_var rfl A1) (es_var rfl A2) n1 n2 hX) nX) (el_filtS (fun z => (decide (z ∈ F1.map strRl) != false) != (decide (z ∈ F2.map strRl) != false)) (Evl.ev_var rfl) hq3 tB (fun _ => rfl) (fun _ => rfl) (fun z G sg => Evl.et_test (Evl.ev_is (Evl.ev_op (ev_inS rfl rfl (sg _ _ hq1)) (ev_inS rfl rfl (sg _ _ hq2)) (Evl.rv_ne rfl)) (by rw [bl_ne])))) (txt_ok nX.ok) (fo B _ nB.ok) (by rw [decide_eq_true eX]; rfl)) (fun e => Bool.noConfusion e) (fun _ G4 g4 => ?_)
    have A1 := A1.mono g4
    have A2 := A2.mono g4
    have hq1 := g4 _ _ hq1
    have hq2 := g4 _ _ hq2
    have hq3 := g4 _ _ hq3
    have hq4 := g4 _ _ hq4
    have sub0 : ∀ l m : List Rl, (∀ r ∈ l, r ∈ m) → sSub l m = [] := fun l m h => List.filter_eq_nil_iff.mpr fun r hr => by simp [h r hr]
    have e11 : sSub F1 F1 = [] := sub0 _ _ fun _ h => h
    have eA1 : sSub (sAnd F1 F2) F1 = [] := sub0 _ _ fun r h => (List.mem_filter.mp h).1
    have e0 : sSub [] F2 = [] := rfl
    refine Evl.q_when (b := false) (Evl.et_is (Evl.et_or (a := false) (b := false) (Evl.et_is (Evl.et_test (Evl.ev_op (ev_within (es_var rfl A1) (es_var rfl A2) n1 n2) (Evl.ev_opL (Evl.ev_var rfl) (Evl.el_lst Evl.ea_nil (by decide)) fun pe G5 h5 s5 => rv_eqLs' (a := (sSub F1 F2).map strRl) (b := []) (txt_ok nS.ok) rfl (SqL.of (s5 _ _ hq4)) (SqL.of h5)) (Evl.rv_ne rfl))) (by
        have e : decide ((sSub F1 F2).map strRl = []) = decide (sSub F1 F2 = []) := decide_eq_decide.mpr List.map_eq_nil_iff
        rw [e, decide_eq_true rfl]; rfl)) fun _ => Evl.et_test (Evl.ev_is (Evl.ev_op (ev_within (es_var rfl A1) (es_var rfl A1) n1 n1) Evl.ev_c (fun G5 s5 Q5 q5 => ⟨_, _, rfl, rfl, q5 G5 (Same.refl G5)⟩)) (by rw [e11]; rfl))) rfl) (fun e => Bool.noConfusion e) (fun _ G5 g5 => ?_)
    have A1 := A1.mono g5
    have A2 := A2.mono g5
    have hq1 := g5 _ _ hq1
    have hq2 := g5 _ _ hq2
    have hq3 := g5 _ _ hq3
    refine Evl.q_when (b := false) (Evl.et_is (Evl.et_or (a := false) (b := false) (Evl.et_test (Evl.ev_is (Evl.ev_op (ev_within (es_op (es_var rfl A1) (es_var rfl A2) n1 n2 nA.s) (es_var rfl A1) nA n1) Evl.ev_c (fun G5 s5 Q5 q5 => ⟨_, _, rfl, rfl, q5 G5 (Same.refl G5)⟩)) (by rw [eA1]; rfl))) fun _ => Evl.et_test (Evl.ev_is (Evl.ev_op (ev_within (es_make0 trivial) (es_var rfl A2) SetN.nil n2) Evl.ev_c (fun G5 s5 Q5 q5 => ⟨_, _, rfl, rfl, q5 G5 (Same.refl G5)⟩)) (by rw [e0]; rfl))) rfl) (fun e => Bool.noConfusion e) (fun _ G6 g6 => ?_)
    have A1 := A1.mono g6
    have A2 := A2.mono g6
    have hq1 := g6 _ _ hq1
    have hq2 := g6 _ _ hq2
    have hq3 := g6 _ _ hq3
    refine ⟨_, rfl, _, rfl, _, rfl, f1, f2, rfl, rfl, A1.own, A2.own, f1, f2, F1, F2, rfl, A1, A2, n1.ok, n2.ok, n1.le, n2.le, n1.s.nodup, n2.s.nodup, fun fu U G7 nu g7 hU AU => ?_⟩
    have eU : U = B := hU.uniq hBo fun _ => Iff.rfl
    subst eU
    have A1 := A1.mono g7
    have A2 := A2.mono g7
    have hq1 := g7 _ _ hq1
    have hq2 := g7 _ _ hq2
    have hq3 := g7 _ _ hq3
    refine Evl.q_when (b := false) (et_neTxV (ev_texts (es_var rfl AU) nB) (Evl.ev_var rfl) hq3 (txt_ok nB.ok) (txt_ok nB.ok) (by rw [decide_eq_true rfl]; rfl)) (fun e => Bool.noConfusion e) (fun _ G8 g8 => ?_)
    refine Evl.s_ret (v := .bl true) (Evl.ev_is (Evl.ev_andV (a := true) (b := true) (ev_eqTxV (ev_texts (es_var rfl (A1.mono g8)) n1) (Evl.ev_var rfl) (g8 _ _ hq1) (txt_ok n1.ok) (txt_ok n1.ok) (decide_eq_true rfl)) fun _ => ev_eqTxV (ev_texts (es_var rfl (A2.mono g8)) n2) (Evl.ev_var rfl) (g8 _ _ hq2) (txt_ok n2.ok) (txt_ok n2.ok) (decide_eq_true rfl)) rfl) fun G9 _ => k G9
end
end Ss
namespace Ss
open PySem L2
section
variable {P : Program} {w : World} {K : PySem.W.Frag} {mg : Str → Option Value} {base : Heap}
abbrev sLrule : Stmt := topS 28
theorem scLrule : FnScope ["bag", "every", "word", "at", "other"] ["bag", "every"] (defScope sLrule) := ⟨rfl, rfl, rfl, by decide +kernel, rfl, by decide +kernel, by decide +kernel⟩
theorem ok_lrule (F : DefAt K mg "_law_rule" sLrule) (T : G0 mg) (Dtake : Dk P w K mg base CX0 1 "_law_take" ["dice", "many"] spTake) (Dof : Dk P w K mg base CX0 2 "_law_of" ["dice", "some"] (spOf K)) : Dk P w K mg base CX0 3 "_law_rule" ["bag", "every"] (spRule K) := by
  obtain ⟨f, fd, F, mf⟩ := F.ex
  refine ⟨f, fd, F.ok scLrule (fun vs H Q E h => ?_) (fun cdv A outer s H vs Q E hr h => ?_), mf, F.kp, F.binds fun _ _ _ _ _ _ us hl => match us, hl with | [_, _], _ => rfl⟩
  · obtain ⟨b, p, n, ws, rfl, _⟩ := h; rfl
  · obtain ⟨b, p, n, ws, rfl, hB, hn, hpb, hS, h2, h3, nd, k⟩ := h
    refine ⟨_, (pss_cons (ps_set (i := 2) scLrule.nd rfl (Or.inl rfl) (pe_cd Dof hr pass0 (pa_cons (pv 0) (pa_cons (pe_lst (pa_cons pe_str (pa_cons pe_str (pa_cons pe_str (pa_cons pe_str pa_nil))))) pa_nil)))) (pss_cons (ps_set (i := 3) scLrule.nd rfl (Or.inl rfl) (pe_cd Dtake hr pass0 (pa_cons (pv 0) (pa_cons (pe_callB call_len_seq (by rfl) T.len (by decide +kernel) (pa_cons (pv 1) pa_nil)) pa_nil)))) (pss_cons (ps_set (i := 4) scLrule.nd rfl (Or.inl rfl) (pe_ix ix_list (pv 1) (pe_op op_mod (pe_callTy call_int1 (by rfl) T.int (by decide +kernel) (pa_cons (pe_op op_add (pe_op op_add (pv 3) pe_int) (pe_cd Dtake hr pass0 (pa_cons (pv 0) (pa_cons (pe_op op_sub (pe_callB call_len_seq (by rfl) T.len (by decide +kernel) (pa_cons (pv 1) pa_nil)) pe_int) pa_nil)))) pa_nil)) (pe_callB call_len_seq (by rfl) T.len (by decide +kernel) (pa_cons (pv 1) pa_nil))) (fun _ _ => rfl))) (pss_one (ps_ret (pe_ifExp (pt_cmpR op_in_seq (pv 2) (pe_lst (pa_cons pe_str (pa_cons pe_str pa_nil))) (by rfl)) (pe_tup (pa_cons (pv 2) (pa_cons (pe_ix ix_list (pv 1) (pv 3) (fun _ _ => rfl)) pa_nil))) (pe_tup (pa_cons (pv 2) (pa_cons (pe_ix ix_list (pv 1) (pv 3) (fun _ _ => rfl)) (pa_cons (pv 4) pa_nil)))))))))), ?_⟩
    have h200 : (1000 : Int) < 2 ^ 200 := by decide
    have il : (ws.map V.str).length = ws.length := List.length_map _
    refine ⟨_, rfl, by show 4 ≤ sizeLine; decide, fun q0 hq0 => ?_⟩
    refine ⟨b, n, hB.new hq0, by omega, .inl ⟨q0, _, rfl, (hB.ne hq0).symm, SqL.of upd_same, by show 1 ≤ 4; decide, by show 4 ≤ 1000000; decide, fun x H1 hx O1 B1 => ?_⟩⟩
    obtain ⟨kd, rfl⟩ : ∃ k : RK, x = V.str k.word := by
      simp only [List.mem_cons, List.not_mem_nil, or_false] at hx
      rcases hx with rfl | rfl | rfl | rfl
      · exact ⟨.out, rfl⟩
      · exact ⟨.twice, rfl⟩
      · exact ⟨.swapped, rfl⟩
      · exact ⟨.taken, rfl⟩
    have O1 : Off b H H1 := (Off.new (Off.refl b H) hq0).trans O1
    have S1 := O1.seq hpb hS
    refine ⟨_, rfl, _, rfl, p, _, rfl, .inl S1, ?_⟩
    rw [il]
    refine ⟨b, _, _, rfl, B1, by omega, by omega, by omega, fun i H2 i0 i1 O2 B2 => ?_⟩
    have O2 := O1.trans O2
    have S2 := O2.seq hpb hS
    refine ⟨_, rfl, _, rfl, _, _, rfl, rfl, _, rfl, _, rfl, p, _, rfl, .inl S2, ?_⟩
    rw [il]
    refine ⟨_, _, rfl, rfl, b, _, _, rfl, B2, by omega, by omega, by omega, fun j H3 j0 j1 O3 B3 => ?_⟩
    have O3 := O2.trans O3
    have S3 := O3.seq hpb hS
    refine ⟨_, _, rfl, rfl, .inl ⟨_, rfl, _, rfl, p, _, rfl, .inl S3, ?_⟩⟩
    rw [il]
    have m0 := Int.emod_nonneg (i + 1 + j) (show ((ws.length : Nat) : Int) ≠ 0 by omega)
    have m1 := Int.emod_lt_of_pos (i + 1 + j) (show (0 : Int) < ((ws.length : Nat) : Int) by omega)
    have ne : (i + 1 + j) % (ws.length : Int) ≠ i := by
      intro e
      by_cases c : i + 1 + j < ws.length
      · rw [Int.emod_eq_of_lt (by omega) c] at e; omega
      · have e2 : (i + 1 + j) % (ws.length : Int) = (i + 1 + j - ws.length) % (ws.length : Int) := by rw [Int.sub_emod_right]
        rw [e2, Int.emod_eq_of_lt (by omega) (by omega)] at e
        omega
    generalize hx2 : (i + 1 + j) % ((ws.length : Nat) : Int) = x2 at m0 m1 ne
    obtain ⟨ni, rfl⟩ : ∃ a : Nat, i = (a : Int) := ⟨i.toNat, (Int.toNat_of_nonneg i0).symm⟩
    obtain ⟨nx, rfl⟩ : ∃ a : Nat, x2 = (a : Int) := ⟨x2.toNat, (Int.toNat_of_nonneg m0).symm⟩
    have hni : ni < ws.length := by omega
    have hnx : nx < ws.length := by omega
    have gi : (ws.map V.str)[ni]? = some (V.str ws[ni]) := by rw [List.getElem?_map, List.getElem?_eq_getElem hni]; rfl
    have gx : (ws.map V.str)[nx]? = some (V.str ws[nx]) := by rw [List.getElem?_map, List.getElem?_eq_getElem hnx]; rfl
    refine ⟨_, _, rfl, rfl, (by show (0 : Int) < ((ws.length : Nat) : Int); omega), p, _, (nx : Int), _, rfl, congrArg V.int hx2, S3, atI_nat gx, ?_⟩
    have dif : ws[ni] ≠ ws[nx] := by
      have pw := List.pairwise_iff_getElem.mp nd
      rcases Nat.lt_trichotomy ni nx with h | h | h
      · exact pw ni nx hni hnx h
      · exact absurd (by rw [h]) ne
      · exact (pw nx ni hnx hni h).symm
    refine ⟨_, rfl, by show 2 ≤ sizeLine; decide, fun q1 hq1 => ?_⟩
    have n1 : H q1 = none := by
      cases e : H q1 with
      | none => rfl
      | some o =>
        by_cases c : q1 = b
        · obtain ⟨d, m, cc, hb, _⟩ := B3
          rw [c, hb] at hq1; cases hq1
        · rw [O3 q1 o c e] at hq1; cases hq1
    have O4 : Off b H (upd H3 q1 (.lst [.str "out", .str "twice"])) := O3.new hq1
    have B4 := B3.new (o := .lst [.str "out", .str "twice"]) hq1
    have S4 := O4.seq hpb hS
    refine ⟨q1, _, rfl, .inl (SqL.of upd_same), rfl, rfl, _, rfl, ?_⟩
    generalize upd H3 q1 (.lst [.str "out", .str "twice"]) = H4 at O4 B4 S4
    have fr : ∀ t, H4 t = none → H t = none := fun t ht => by
      cases e : H t with
      | none => rfl
      | some o =>
        by_cases c : t = b
        · obtain ⟨d, m, cc, hb, _⟩ := B4
          rw [c, hb] at ht; cases ht
        · rw [O4 t o c e] at ht; cases ht
    have end1 : ∀ t, H4 t = none → kd.many = 1 → Q (.ref t) (upd H4 t (.tup [.str kd.word, .str ws[ni]])) := fun t ht hk => k t kd [ws[ni]] _ (O4.new ht) (B4.new ht) (fr t ht) upd_same hk.symm (fun z hz => by rw [List.mem_singleton.mp hz]; exact List.getElem_mem hni) (by simp)
    have end2 : ∀ t, H4 t = none → kd.many = 2 → Q (.ref t) (upd H4 t (.tup [.str kd.word, .str ws[ni], .str ws[nx]])) := fun t ht hk => k t kd [ws[ni], ws[nx]] _ (O4.new ht) (B4.new ht) (fr t ht) upd_same hk.symm (fun z hz => by
      simp only [List.mem_cons, List.not_mem_nil, or_false] at hz
      rcases hz with rfl | rfl
      · exact List.getElem_mem hni
      · exact List.getElem_mem hnx) (by simpa using dif)
    refine ite2 (fun c => ?_) (fun c => ?_)
    · refine ⟨_, rfl, _, rfl, _, rfl, p, _, _, _, rfl, rfl, S4, atI_nat gi, by show 2 ≤ sizeLine; decide, fun t ht => end1 t ht ?_⟩
      revert c
      cases kd <;> first | exact fun _ => rfl | (intro c; exact absurd c (by decide +kernel))
    · refine ⟨_, rfl, _, rfl, _, rfl, p, _, _, _, rfl, rfl, S4, atI_nat gi, _, rfl, by show 3 ≤ sizeLine; decide, fun t ht => end2 t ht ?_⟩
      revert c
      cases kd <;> first | exact fun _ => rfl | (intro c; exact absurd (by decide +kernel) c)
end
end Ss
namespace Ss
open PySem L2
section
variable {P : Program} {w : World} {K : PySem.W.Frag} {mg : Str → Option Value} {base : Heap}
abbrev sRuled : Stmt := topS 29
theorem scRuled : FnScope ["rule"] ["rule"] (defScope sRuled) := ⟨rfl, rfl, rfl, by decide +kernel, rfl, by decide +kernel, by decide +kernel⟩
theorem ok_ruled {Cb : Addr} {Cf : RK → Addr} (F : DefAt K mg "_law_ruled" sRuled) (DOut : NewD P w K mg base (L2.CX P w) (Cf .out) 6 "Out" ["self", "token"] (spNew Cb (Cf .out) .out)) (DTwice : NewD P w K mg base (L2.CX P w) (Cf .twice) 6 "Twice" ["self", "token"] (spNew Cb (Cf .twice) .twice))
    (DSwapped : NewD P w K mg base (L2.CX P w) (Cf .swapped) 6 "Swapped" ["self", "first", "second"] (spNew Cb (Cf .swapped) .swapped)) (DTaken : NewD P w K mg base (L2.CX P w) (Cf .taken) 6 "Taken" ["self", "first", "second"] (spNew Cb (Cf .taken) .taken)) :
    Dk P w K mg base (L2.CX P w) 8 "_law_ruled" ["rule"] (spRuled K Cb Cf) := by
  obtain ⟨f, fd, F, mf⟩ := F.ex
  refine ⟨f, fd, F.okX scRuled (fun vs H Q E h => ?_) (fun cdv A outer s H vs Q E hr h => ?_), mf, F.kp, F.binds fun _ _ _ _ _ _ us hl => match us, hl with | [_], _ => rfl⟩
  · obtain ⟨q, k, toks, rfl, _⟩ := h; rfl
  · obtain ⟨q, k, toks, rfl, hq, hl, hw, k1, k2⟩ := h
    refine ⟨_, (pss_cons (ps_if (pt_cmpR op_eq (pe_ix ix_tup (pv 0) pe_int (fun _ _ => rfl)) pe_str (nomark _)) (pss_one (ps_ret (pe_mk DOut hr (passes_call (takes_of rfl rfl rfl rfl) (fun _ _ _ _ h => h)) (pa_cons (pe_ix ix_tup (pv 0) pe_int (fun _ _ => rfl)) pa_nil)))) pss_nil) (pss_cons (ps_if (pt_cmpR op_eq (pe_ix ix_tup (pv 0) pe_int (fun _ _ => rfl)) pe_str (nomark _)) (pss_one (ps_ret (pe_mk DTwice hr (passes_call (takes_of rfl rfl rfl rfl) (fun _ _ _ _ h => h)) (pa_cons (pe_ix ix_tup (pv 0) pe_int (fun _ _ => rfl)) pa_nil)))) pss_nil) (pss_cons (ps_if (pt_cmpR op_eq (pe_ix ix_tup (pv 0) pe_int (fun _ _ => rfl)) pe_str (nomark _)) (pss_one (ps_ret (pe_mk DSwapped hr (passes_call (takes_of rfl rfl rfl rfl) (fun _ _ _ _ h => h)) (pa_cons (pe_ix ix_tup (pv 0) pe_int (fun _ _ => rfl)) (pa_cons (pe_ix ix_tup (pv 0) pe_int (fun _ _ => rfl)) pa_nil))))) pss_nil) (pss_one (ps_ret (pe_mk DTaken hr (passes_call (takes_of rfl rfl rfl rfl) (fun _ _ _ _ h => h)) (pa_cons (pe_ix ix_tup (pv 0) pe_int (fun _ _ => rfl)) (pa_cons (pe_ix ix_tup (pv 0) pe_int (fun _ _ => rfl)) pa_nil)))))))), ?_⟩
    have it : ∀ (H2 : Hp) (s2 : Same H H2) (i : Nat) (z : Str) (_ : (k.word :: toks)[i]? = some z), Evl.Ev (tOp (rIxT K) (tVar 0) (tC (.int (i : Nat)))) [some (.ref q)] H2 (.str z) := fun H2 s2 i z hz =>
      Evl.ev_op (Evl.ev_var rfl) Evl.ev_c (Evl.rv_ixT (Evl.ex_t s2 hq) (atI_nat (by rw [List.getElem?_map, hz]; rfl)))
    have te : ∀ (H2 : Hp) (s2 : Same H H2) (w : Str), Evl.EvT (tTest (tOp rEq (tOp (rIxT K) (tVar 0) (tC (.int ((0 : Nat) : Int)))) (tC (.str w)))) [some (.ref q)] H2 (decide (V.str k.word = V.str w)) := fun H2 s2 w =>
      Evl.et_test (Evl.ev_op (it H2 s2 0 k.word rfl) Evl.ev_c (Evl.rv_eq rfl))
    -- behind the making
    have fin : ∀ (H2 : Hp) (s2 : Same H H2) (x dx : Addr), H2 x = none → H2 dx = none → dx ≠ x → spNew Cb (Cf k) k (.ref x :: toks.map V.str) (upd (upd H2 dx (.own x)) x (.ins (Cf k) dx [])) (fun v H3 => v = .non ∧ Q (.ref x) H3) E := fun H2 s2 x dx nx ndx nex => by
      refine ⟨x, dx, toks, rfl, hl, upd_same, hw, fun hb H3 o r => ⟨rfl, k1 hb x H3 (fun a u ha => ?_) (Evl.fresh_back s2 nx) r⟩, fun z hz => (k2 z hz).mono (s2.trans ((Evl.Ex.new ndx).trans (Evl.Ex.new (by rw [upd_ne nex.symm]; exact nx))))⟩
      have h2 := s2 _ _ ha
      exact o a u (ne_of_none h2 nx) (by rw [upd_ne (ne_of_none h2 nx), upd_ne (ne_of_none h2 ndx)]; exact h2)
    match k, toks, hl, it, te, fin with
    | .out, [a], _, it, te, fin =>
      refine Evl.q_when (b := true) (Evl.et_is (te H (Same.refl H) "out") (by decide +kernel)) (fun _ H1 s1 => ?_) (fun e => Bool.noConfusion e)
      exact it H1 s1 1 a rfl H1 (Evl.Ex.refl H1) _ fun H2 s2 => fun x dx nx ndx nex => fin H2 (s1.trans s2) x dx nx ndx nex
    | .twice, [a], _, it, te, fin =>
      refine Evl.q_when (b := false) (Evl.et_is (te H (Same.refl H) "out") (by decide +kernel)) (fun e => Bool.noConfusion e) (fun _ H1 s1 => ?_)
      refine Evl.q_when (b := true) (Evl.et_is (te H1 s1 "twice") (by decide +kernel)) (fun _ H2 s2 => ?_) (fun e => Bool.noConfusion e)
      exact it H2 (s1.trans s2) 1 a rfl H2 (Evl.Ex.refl H2) _ fun H3 s3 => fun x dx nx ndx nex => fin H3 ((s1.trans s2).trans s3) x dx nx ndx nex
    | .swapped, [a, b], _, it, te, fin =>
      refine Evl.q_when (b := false) (Evl.et_is (te H (Same.refl H) "out") (by decide +kernel)) (fun e => Bool.noConfusion e) (fun _ H1 s1 => ?_)
      refine Evl.q_when (b := false) (Evl.et_is (te H1 s1 "twice") (by decide +kernel)) (fun e => Bool.noConfusion e) (fun _ H2 s2 => ?_)
      refine Evl.q_when (b := true) (Evl.et_is (te H2 (s1.trans s2) "swapped") (by decide +kernel)) (fun _ H3 s3 => ?_) (fun e => Bool.noConfusion e)
      have t3 := (s1.trans s2).trans s3
      exact it H3 t3 1 a rfl H3 (Evl.Ex.refl H3) _ fun H4 s4 => it H4 (t3.trans s4) 2 b rfl H4 (Evl.Ex.refl H4) _ fun H5 s5 => fun x dx nx ndx nex => fin H5 ((t3.trans s4).trans s5) x dx nx ndx nex
    | .taken, [a, b], _, it, te, fin =>
      refine Evl.q_when (b := false) (Evl.et_is (te H (Same.refl H) "out") (by decide +kernel)) (fun e => Bool.noConfusion e) (fun _ H1 s1 => ?_)
      refine Evl.q_when (b := false) (Evl.et_is (te H1 s1 "twice") (by decide +kernel)) (fun e => Bool.noConfusion e) (fun _ H2 s2 => ?_)
      refine Evl.q_when (b := false) (Evl.et_is (te H2 (s1.trans s2) "swapped") (by decide +kernel)) (fun e => Bool.noConfusion e) (fun _ H3 s3 => ?_)
      have t3 := (s1.trans s2).trans s3
      exact it H3 t3 1 a rfl H3 (Evl.Ex.refl H3) _ fun H4 s4 => it H4 (t3.trans s4) 2 b rfl H4 (Evl.Ex.refl H4) _ fun H5 s5 => fun x dx nx ndx nex => fin H5 ((t3.trans s4).trans s5) x dx nx ndx nex
end
end Ss
namespace Ss
open PySem L2 PyProof.Rows
/-- what an error class is asked for, in one word -/
def topB (K : PySem.W.Frag) (C : Addr) (fs : List Str) : Bool :=
  PySem.W.findIn K (.ref C) "__setattr__" == some (some (.builtin "object.__setattr__")) && (PySem.W.findIn K (.ref C) "__getattribute__" == some (some (.builtin "BaseException.__getattribute__")) && (PySem.W.findIn K (.ref C) "__getattr__" == some none &&
  (PySem.W.subIn K (.ref C) (.type "BaseException") == some true && (PySem.W.typeIn K (.ref C) == some (.type "type") && (PySem.W.hasDictIn K C && (PySem.W.keepIn K (.ref C) && (PySem.W.findIn K (.ref C) "__class__" == some (some (.builtin "object.__class__")) &&
  (PySem.W.specialIn K (.builtin "object.__class__") "__get__" == some (some (.builtin "getset_descriptor.__get__")) && (PySem.W.takesIn K (.builtin "object.__class__") == some true && (PySem.W.mroIn K C (.type "object") == some true && fs.all fun f => PySem.W.findIn K (.ref C) f == some none))))))))))
theorem topB_ok {K : PySem.W.Frag} {C : Addr} {fs : List Str} (h : topB K C fs = true) : PySem.W.findIn K (.ref C) "__setattr__" = some (some (.builtin "object.__setattr__")) ∧ PySem.W.findIn K (.ref C) "__getattribute__" = some (some (.builtin "BaseException.__getattribute__")) ∧ PySem.W.findIn K (.ref C) "__getattr__" = some none ∧
  PySem.W.subIn K (.ref C) (.type "BaseException") = some true ∧ PySem.W.typeIn K (.ref C) = some (.type "type") ∧ PySem.W.hasDictIn K C = true ∧ PySem.W.keepIn K (.ref C) = true ∧ PySem.W.findIn K (.ref C) "__class__" = some (some (.builtin "object.__class__")) ∧
  PySem.W.specialIn K (.builtin "object.__class__") "__get__" = some (some (.builtin "getset_descriptor.__get__")) ∧ PySem.W.takesIn K (.builtin "object.__class__") = some true ∧ PySem.W.mroIn K C (.type "object") = some true ∧ ∀ f ∈ fs, PySem.W.findIn K (.ref C) f = some none := by
  simp only [topB, Bool.and_eq_true, beq_iff_eq, List.all_eq_true] at h
  obtain ⟨h1, h2, h3, h4, h5, h6, h7, h8, h9, h10, h11, h12⟩ := h
  exact ⟨h1, h2, h3, h4, h5, h6, h7, h8, h9, h10, h11, h12⟩
theorem etop_S {K : PySem.W.Frag} {h : Heap} {mg : Str → Option Value} {x qual : Str} {C S fI : Addr} {st : Stmt} {fs : List Str} {nm q N bs bm sn sub ab col dd k0 k1 k2 k3 k5} {oc : Value} {od an : Option Addr} {osl : Array (Option Value)} {kV doc pm cdv ct : Value} (X : K.In h) (G : h.Ns mainGlobals mg)
    (a : PySem.W.nsIn K mainGlobals x = some (some (.ref C))) (l : K.lookup C = some (excClassObj nm q C N bs bm true sn sub ab col dd k0 k1 k2 k3 k5 "ValueError.__new__")) (hb : bm = [.ref S, .type "ValueError", .type "Exception", .type "BaseException", .type "object"])
    (e : topB K C fs = true) (i : PySem.W.findIn K (.ref C) "__init__" = some (some (.ref fI))) (lf : K.lookup fI = some ⟨oc, od, .func (PySem.W.fnOf "__init__" qual (defArgs st) (defBody st) (defScope st) .none kV doc pm an cdv ct), osl⟩) (c : PySem.W.codeIn K cdv qual = true) (kf : PySem.W.keepIn K (.ref fI) = true) (tf : PySem.W.isFn K (.ref fI) = true) :
    EAtop K mg x qual C "ValueError.__init__" fs st := by
  subst hb
  have T := topB_ok e
  exact ⟨⟨⟨_, _, _, _, _, _, _, _, _, _, _, _, _, _, _, _, _, _, PySem.F.excBase_ValueError, l, fun Y => by rw [List.contains_cons]; rfl, (SsE.Order.cons SsE.order_VE S)⟩, T.1, T.2.1, T.2.2.1, T.2.2.2.1, T.2.2.2.2.1, T.2.2.2.2.2.1, T.2.2.2.2.2.2.1, T.2.2.2.2.2.2.2.1, T.2.2.2.2.2.2.2.2.1, T.2.2.2.2.2.2.2.2.2.1, T.2.2.2.2.2.2.2.2.2.2.1⟩, PySem.W.mg_of X G a, ⟨fI, _, i, of_decide_eq_true (by simpa [PySem.W.isFn] using tf), fun_mk lf c kf⟩, T.2.2.2.2.2.2.2.2.2.2.2⟩
theorem etop_L {K : PySem.W.Frag} {h : Heap} {mg : Str → Option Value} {x qual : Str} {C fI : Addr} {st : Stmt} {fs : List Str} {nm q N bs bm sn sub ab col dd k0 k1 k2 k3 k5} {oc : Value} {od an : Option Addr} {osl : Array (Option Value)} {kV doc pm cdv ct : Value} (X : K.In h) (G : h.Ns mainGlobals mg)
    (a : PySem.W.nsIn K mainGlobals x = some (some (.ref C))) (l : K.lookup C = some (excClassObj nm q C N bs bm true sn sub ab col dd k0 k1 k2 k3 k5 "LookupError.__new__")) (hb : bm = [.type "LookupError", .type "Exception", .type "BaseException", .type "object"])
    (e : topB K C fs = true) (i : PySem.W.findIn K (.ref C) "__init__" = some (some (.ref fI))) (lf : K.lookup fI = some ⟨oc, od, .func (PySem.W.fnOf "__init__" qual (defArgs st) (defBody st) (defScope st) .none kV doc pm an cdv ct), osl⟩) (c : PySem.W.codeIn K cdv qual = true) (kf : PySem.W.keepIn K (.ref fI) = true) (tf : PySem.W.isFn K (.ref fI) = true) :
    EAtop K mg x qual C "LookupError.__init__" fs st := by
  subst hb
  have T := topB_ok e
  exact ⟨⟨⟨_, _, _, _, _, _, _, _, _, _, _, _, _, _, _, _, _, _, PySem.F.excBase_LookupError, l, fun Y => rfl, SsE.order_LE⟩, T.1, T.2.1, T.2.2.1, T.2.2.2.1, T.2.2.2.2.1, T.2.2.2.2.2.1, T.2.2.2.2.2.2.1, T.2.2.2.2.2.2.2.1, T.2.2.2.2.2.2.2.2.1, T.2.2.2.2.2.2.2.2.2.1, T.2.2.2.2.2.2.2.2.2.2.1⟩, PySem.W.mg_of X G a, ⟨fI, _, i, of_decide_eq_true (by simpa [PySem.W.isFn] using tf), fun_mk lf c kf⟩, T.2.2.2.2.2.2.2.2.2.2.2⟩
theorem etop_R {K : PySem.W.Frag} {h : Heap} {mg : Str → Option Value} {x qual : Str} {C fI : Addr} {st : Stmt} {fs : List Str} {nm q N bs bm sn sub ab col dd k0 k1 k2 k3 k5} {oc : Value} {od an : Option Addr} {osl : Array (Option Value)} {kV doc pm cdv ct : Value} (X : K.In h) (G : h.Ns mainGlobals mg)
    (a : PySem.W.nsIn K mainGlobals x = some (some (.ref C))) (l : K.lookup C = some (excClassObj nm q C N bs bm true sn sub ab col dd k0 k1 k2 k3 k5 "RuntimeError.__new__")) (hb : bm = [.type "RuntimeError", .type "Exception", .type "BaseException", .type "object"])
    (e : topB K C fs = true) (i : PySem.W.findIn K (.ref C) "__init__" = some (some (.ref fI))) (lf : K.lookup fI = some ⟨oc, od, .func (PySem.W.fnOf "__init__" qual (defArgs st) (defBody st) (defScope st) .none kV doc pm an cdv ct), osl⟩) (c : PySem.W.codeIn K cdv qual = true) (kf : PySem.W.keepIn K (.ref fI) = true) (tf : PySem.W.isFn K (.ref fI) = true) :
    EAtop K mg x qual C "RuntimeError.__init__" fs st := by
  subst hb
  have T := topB_ok e
  exact ⟨⟨⟨_, _, _, _, _, _, _, _, _, _, _, _, _, _, _, _, _, _, PySem.F.excBase_RuntimeError, l, fun Y => rfl, SsE.order_RE⟩, T.1, T.2.1, T.2.2.1, T.2.2.2.1, T.2.2.2.2.1, T.2.2.2.2.2.1, T.2.2.2.2.2.2.1, T.2.2.2.2.2.2.2.1, T.2.2.2.2.2.2.2.2.1, T.2.2.2.2.2.2.2.2.2.1, T.2.2.2.2.2.2.2.2.2.2.1⟩, PySem.W.mg_of X G a, ⟨fI, _, i, of_decide_eq_true (by simpa [PySem.W.isFn] using tf), fun_mk lf c kf⟩, T.2.2.2.2.2.2.2.2.2.2.2⟩

end Ss
namespace Ss
open PySem L2 PyProof.Rows
/-- what a class of rules is asked for, in one word -/
def rcB (K : PySem.W.Frag) (C : Addr) (w : Str) : Bool :=
  PySem.W.plainGet K C Str.empty && (PySem.W.hasDictIn K C && (PySem.W.plainOver K C && (PySem.W.findIn K (.ref C) "__setattr__" == some (some (.builtin "object.__setattr__")) && (PySem.W.findIn K (.ref C) "tokens" == some none && (PySem.W.findIn K (.ref C) "removed" == some none &&
  (PySem.W.findIn K (.ref C) "inserted" == some none && (PySem.W.findIn K (.ref C) "__class__" == some (some (.builtin "object.__class__")) && (PySem.W.specialIn K (.builtin "object.__class__") "__get__" == some (some (.builtin "getset_descriptor.__get__")) && (PySem.W.takesIn K (.builtin "object.__class__") == some true &&
  (PySem.W.mroIn K C (.type "object") == some true && (PySem.W.makesIn K C && (PySem.W.keepIn K (.ref C) && (PySem.W.readsIn K C (.type "type") && (PySem.W.specialIn K (.ref C) "__getattribute__" == some (some (.builtin "type.__getattribute__")) &&
  ((match PySem.W.findIn K (.ref C) "word" with | some (some (.str z t)) => z == w && PySem.W.specialIn K (.str z t) "__get__" == some none | _ => false) && (match PySem.W.findCls K (.ref C) (.type "type") "word" with | some (.val (.str z _)) => z == w | _ => false))))))))))))))))
structure RTop (K : PySem.W.Frag) (C : Addr) (w : Str) : Prop where
  cl : RCl K C w
  makes : PySem.W.makesIn K C = true
  kp : PySem.W.keepIn K (.ref C) = true
  rd : PySem.W.readsIn K C (.type "type") = true
  ga : PySem.W.specialIn K (.ref C) "__getattribute__" = some (some (.builtin "type.__getattribute__"))
  con : ∃ u, PySem.W.findCls K (.ref C) (.type "type") "word" = some (.val u) ∧ RelV (.str w) u ∧ PySem.W.handedIn u = true
theorem rcB_ok {K : PySem.W.Frag} {C : Addr} {w : Str} (h : rcB K C w = true) : RTop K C w := by
  simp only [rcB, Bool.and_eq_true, beq_iff_eq] at h
  obtain ⟨h1, h2, h3, h4, h5, h6, h7, h8, h9, h10, h11, h12, h13, h14, h15, h16, h17⟩ := h
  have hw : ∃ u, Con K C "word" (.str w) u := by
    split at h16
    · rename_i z t e
      simp only [Bool.and_eq_true, beq_iff_eq] at h16
      obtain ⟨q1, q2⟩ := h16
      subst q1
      exact ⟨_, e, ⟨t, rfl⟩, q2, by decide +kernel⟩
    · cases h16
  have hc : ∃ u, PySem.W.findCls K (.ref C) (.type "type") "word" = some (.val u) ∧ RelV (.str w) u ∧ PySem.W.handedIn u = true := by
    split at h17
    · rename_i z t e
      simp only [beq_iff_eq] at h17
      subst h17
      exact ⟨_, e, ⟨t, rfl⟩, rfl⟩
    · cases h17
  exact ⟨⟨⟨h1, h2, h3, h4⟩, h5, h6, h7, hw, h8, h9, h10, h11⟩, h12, h13, h14, h15, hc⟩
/-- one class for each kind of rule -/
def cfOf (C0 C1 C2 C3 : Addr) : RK → Addr
  | .out => C0
  | .twice => C1
  | .swapped => C2
  | .taken => C3
def allRK : List RK := [.out, .twice, .swapped, .taken]
theorem mem_allRK (k : RK) : k ∈ allRK := by cases k <;> simp [allRK]
def rtB (K : PySem.W.Frag) (Cf : RK → Addr) (R fs fe : Addr) : Bool :=
  (allRK.all fun a => rcB K (Cf a) a.word && ((allRK.all fun b => PySem.W.kitOne K (.ref (Cf a)) (.ref (Cf b)) == some (decide (a = b)) && PySem.W.notFirst K (Cf a) (.ref (Cf b))) && (PySem.W.kitOne K (.ref (Cf a)) (.ref R) == some true && (PySem.W.notFirst K (Cf a) (.type "tuple") &&
    (PySem.W.findIn K (.ref (Cf a)) "__str__" == some (some (.ref fs)) && PySem.W.findIn K (.ref (Cf a)) "__eq__" == some (some (.ref fe))))))) &&
  (PySem.W.kitOne K (.type "tuple") (.ref R) == some false && (PySem.W.readsIn K R (.type "type") && (PySem.W.specialIn K (.ref R) "__getattribute__" == some (some (.builtin "type.__getattribute__")) && (PySem.W.isFn K (.ref fs) && PySem.W.isFn K (.ref fe)))))
structure RTops (K : PySem.W.Frag) (mg : Str → Option Value) (Cf : RK → Addr) (R fs fe : Addr) : Prop where
  tab : RTab K mg Cf R
  top : ∀ k, RTop K (Cf k) k.word
  rR : ClsRd K mg "Rule" R
  str : ∀ k, PySem.W.findIn K (.ref (Cf k)) "__str__" = some (some (.ref fs))
  eq : ∀ k, PySem.W.findIn K (.ref (Cf k)) "__eq__" = some (some (.ref fe))
  fns : PySem.W.isFn K (.ref fs) = true
  fne : PySem.W.isFn K (.ref fe) = true
theorem rtB_ok {K : PySem.W.Frag} {mg : Str → Option Value} {Cf : RK → Addr} {R fs fe : Addr} (h : rtB K Cf R fs fe = true) (g : ∀ k, mg (RK.cls k) = some (.ref (Cf k))) (gR : mg "Rule" = some (.ref R)) : RTops K mg Cf R fs fe := by
  simp only [rtB, Bool.and_eq_true, List.all_eq_true, beq_iff_eq] at h
  obtain ⟨h1, h2, h3, h4, h5, h6⟩ := h
  have t : ∀ k, RTop K (Cf k) k.word := fun k => rcB_ok (h1 k (mem_allRK k)).1
  exact ⟨⟨fun k => (t k).cl, g, gR, fun a b => ((h1 a (mem_allRK a)).2.1 b (mem_allRK b)).1, fun a => (h1 a (mem_allRK a)).2.2.1, h2, fun a b => ((h1 a (mem_allRK a)).2.1 b (mem_allRK b)).2, fun a => (h1 a (mem_allRK a)).2.2.2.1⟩, t, ⟨gR, h3, h4⟩, fun k => (h1 k (mem_allRK k)).2.2.2.2.1, fun k => (h1 k (mem_allRK k)).2.2.2.2.2, h5, h6⟩
end Ss
namespace Ss
open PySem L2 PyProof.Rows
/-- the built-in names that the text leaves as they are -/
def noB (K : PySem.W.Frag) : Bool := (["len", "abs", "int", "range", "tuple", "list", "str", "isinstance", "sorted", "set", "enumerate", "max", "min", "sum", "all", "ord"] : List Str).all fun x => PySem.W.nsIn K mainGlobals x == some none
theorem noB_ok {K : PySem.W.Frag} {h : Heap} {mg : Str → Option Value} (X : K.In h) (G : h.Ns mainGlobals mg) (e : noB K = true) : G0 mg ∧ mg "all" = none ∧ mg "ord" = none := by
  simp only [noB, List.all_cons, List.all_nil, Bool.and_eq_true, beq_iff_eq, and_true] at e
  obtain ⟨e1, e2, e3, e4, e5, e6, e7, e8, e9, e10, e11, e12, e13, e14, e15, e16⟩ := e
  exact ⟨⟨PySem.W.mg_none_of X G e1, PySem.W.mg_none_of X G e2, PySem.W.mg_none_of X G e3, PySem.W.mg_none_of X G e4, PySem.W.mg_none_of X G e5, PySem.W.mg_none_of X G e6, PySem.W.mg_none_of X G e7, PySem.W.mg_none_of X G e8, PySem.W.mg_none_of X G e9, PySem.W.mg_none_of X G e10, PySem.W.mg_none_of X G e11, PySem.W.mg_none_of X G e12, PySem.W.mg_none_of X G e13, PySem.W.mg_none_of X G e14⟩, PySem.W.mg_none_of X G e15, PySem.W.mg_none_of X G e16⟩
theorem fnR_ofS {P : Program} {w : World} {K : PySem.W.Frag} {mg : Str → Option Value} {base : Heap} {CT : CXT} {k : Nat} {f : Addr} {fd : FuncData} {ps : List Str} {sp : Sp} (F : FnOk P w K mg base CT k f fd ps sp) (B : Binds K fd ps []) : FnR P w K mg base CT k f sp := by
  intro A outer s H us vs Q E hr e0 r hsp
  have hl := F.len vs H Q E hsp
  have b := B s us
  exact F.run A outer s H ⟨us, []⟩ us vs Q E hr e0 (by
    have KX : K.In s.heap := e0.mod.kin.keeps fun b o e => (e0.bs b o e).1
    have z := b KX (by rw [List.append_nil, ← r.length, hl])
    rwa [List.append_nil] at z) r hsp
/-- what the class of sets is asked for, in one word -/
def scB (K : PySem.W.Frag) (C : Addr) : Bool :=
  PySem.W.plainGet K C Str.empty && (PySem.W.hasDictIn K C && (PySem.W.plainOver K C && (PySem.W.findIn K (.ref C) "__setattr__" == some (some (.builtin "object.__setattr__")) && (PySem.W.findIn K (.ref C) "_named" == some none && (PySem.W.findIn K (.ref C) "rules" == some none &&
  (PySem.W.makesIn K C && (PySem.W.keepIn K (.ref C) && (PySem.W.readsIn K C (.type "type") && (PySem.W.specialIn K (.ref C) "__getattribute__" == some (some (.builtin "type.__getattribute__")) && (PySem.W.selfFirst K C && ((match PySem.W.clsIn K C with | some cd => cd.mro == [.ref C, .type "object"] | none => false) &&
  (PySem.W.findIn K (.ref C) (dunderI "or") == some none && PySem.W.findIn K (.type "object") (dunderI "or") == some none))))))))))))
theorem scB_ok {K : PySem.W.Frag} {C : Addr} (h : scB K C = true) : SCl K C ∧ PySem.W.makesIn K C = true ∧ PySem.W.keepIn K (.ref C) = true ∧ ClX.CRead K C (.type "type") ∧ PySem.W.selfFirst K C = true ∧ NoIp K C "or" := by
  simp only [scB, Bool.and_eq_true, beq_iff_eq] at h
  obtain ⟨h1, h2, h3, h4, h5, h6, h7, h8, h9, h10, h11, h12, h13, h14⟩ := h
  refine ⟨⟨⟨h1, h2, h3, h4⟩, h5, h6⟩, h7, h8, ⟨h9, h10⟩, h11, ⟨?_, h13, h14⟩⟩
  split at h12
  · rename_i cd e
    exact ⟨cd, e, beq_iff_eq.mp h12⟩
  · cases h12
theorem all_mk {l : PySem.W.OpenLaw} {w : World} {K : PySem.W.Frag} {h : Heap} {mg : Str → Option Value} {fa : Addr}
    {fd0 : Addr} {od0 an0 : Option Addr} {sl0 : Array (Option Value)} {oc0 kV0 dc0 pm0 cd0 ct0 : Value}
    {fd1 : Addr} {od1 an1 : Option Addr} {sl1 : Array (Option Value)} {oc1 kV1 dc1 pm1 cd1 ct1 : Value}
    {fd2 : Addr} {od2 an2 : Option Addr} {sl2 : Array (Option Value)} {oc2 kV2 dc2 pm2 cd2 ct2 : Value}
    {fd3 : Addr} {od3 an3 : Option Addr} {sl3 : Array (Option Value)} {oc3 kV3 dc3 pm3 cd3 ct3 : Value}
    {fd4 : Addr} {od4 an4 : Option Addr} {sl4 : Array (Option Value)} {oc4 kV4 dc4 pm4 cd4 ct4 : Value}
    {fd5 : Addr} {od5 an5 : Option Addr} {sl5 : Array (Option Value)} {oc5 kV5 dc5 pm5 cd5 ct5 : Value}
    {fd6 : Addr} {od6 an6 : Option Addr} {sl6 : Array (Option Value)} {oc6 kV6 dc6 pm6 cd6 ct6 : Value}
    {fd7 : Addr} {od7 an7 : Option Addr} {sl7 : Array (Option Value)} {oc7 kV7 dc7 pm7 cd7 ct7 : Value}
    {fd8 : Addr} {od8 an8 : Option Addr} {sl8 : Array (Option Value)} {oc8 kV8 dc8 pm8 cd8 ct8 : Value}
    {fd9 : Addr} {od9 an9 : Option Addr} {sl9 : Array (Option Value)} {oc9 kV9 dc9 pm9 cd9 ct9 : Value}
    {fd10 : Addr} {od10 an10 : Option Addr} {sl10 : Array (Option Value)} {oc10 kV10 dc10 pm10 cd10 ct10 : Value}
    {fd11 : Addr} {od11 an11 : Option Addr} {sl11 : Array (Option Value)} {oc11 kV11 dc11 pm11 cd11 ct11 : Value}
    {Cb fe0 S : Addr} {nm0 q0 N0 bs0 bm0 sn0 sub0 ab0 col0 dd0 ka0 kb0 kc0 kd0 ke0} {oe0 : Value} {ode0 ane0 : Option Addr} {sle0 : Array (Option Value)} {kVe0 dce0 pme0 cde0 cte0 : Value}
    {um up : Value}
    {aW : Addr} {itW : Array Value} {nW : Nat} {slW : Array (Option Value)}
    {R C0 C1 C2 C3 Cs : Addr}
    {fg : Addr} {o_fg : Value} {od_fg an_fg : Option Addr} {sl_fg : Array (Option Value)} {kv_fg dc_fg pm_fg cd_fg ct_fg : Value}
    {fs : Addr} {o_fs : Value} {od_fs an_fs : Option Addr} {sl_fs : Array (Option Value)} {kv_fs dc_fs pm_fs cd_fs ct_fs : Value}
    {fe : Addr} {o_fe : Value} {od_fe an_fe : Option Addr} {sl_fe : Array (Option Value)} {kv_fe dc_fe pm_fe cd_fe ct_fe : Value}
    {fi0 : Addr} {o_fi0 : Value} {od_fi0 an_fi0 : Option Addr} {sl_fi0 : Array (Option Value)} {kv_fi0 dc_fi0 pm_fi0 cd_fi0 ct_fi0 : Value}
    {fi1 : Addr} {o_fi1 : Value} {od_fi1 an_fi1 : Option Addr} {sl_fi1 : Array (Option Value)} {kv_fi1 dc_fi1 pm_fi1 cd_fi1 ct_fi1 : Value}
    {fi2 : Addr} {o_fi2 : Value} {od_fi2 an_fi2 : Option Addr} {sl_fi2 : Array (Option Value)} {kv_fi2 dc_fi2 pm_fi2 cd_fi2 ct_fi2 : Value}
    {fi3 : Addr} {o_fi3 : Value} {od_fi3 an_fi3 : Option Addr} {sl_fi3 : Array (Option Value)} {kv_fi3 dc_fi3 pm_fi3 cd_fi3 ct_fi3 : Value}
    {zi : Addr} {o_zi : Value} {od_zi an_zi : Option Addr} {sl_zi : Array (Option Value)} {kv_zi dc_zi pm_zi cd_zi ct_zi : Value}
    {zc : Addr} {o_zc : Value} {od_zc an_zc : Option Addr} {sl_zc : Array (Option Value)} {kv_zc dc_zc pm_zc cd_zc ct_zc : Value}
    {zl : Addr} {o_zl : Value} {od_zl an_zl : Option Addr} {sl_zl : Array (Option Value)} {kv_zl dc_zl pm_zl cd_zl ct_zl : Value}
    {za : Addr} {o_za : Value} {od_za an_za : Option Addr} {sl_za : Array (Option Value)} {kv_za dc_za pm_za cd_za ct_za : Value}
    {zo : Addr} {o_zo : Value} {od_zo an_zo : Option Addr} {sl_zo : Array (Option Value)} {kv_zo dc_zo pm_zo cd_zo ct_zo : Value}
    {zs : Addr} {o_zs : Value} {od_zs an_zs : Option Addr} {sl_zs : Array (Option Value)} {kv_zs dc_zs pm_zs cd_zs ct_zs : Value}
    {zx : Addr} {o_zx : Value} {od_zx an_zx : Option Addr} {sl_zx : Array (Option Value)} {kv_zx dc_zx pm_zx cd_zx ct_zx : Value}
    {zw : Addr} {o_zw : Value} {od_zw an_zw : Option Addr} {sl_zw : Array (Option Value)} {kv_zw dc_zw pm_zw cd_zw ct_zw : Value}
    {zf : Addr} {o_zf : Value} {od_zf an_zf : Option Addr} {sl_zf : Array (Option Value)} {kv_zf dc_zf pm_zf cd_zf ct_zf : Value}
    {p_zf : Addr} {re_zf : List Value}
    (X : K.In h) (G : h.Ns mainGlobals mg) (hfa : mg "law" = some (.ref fa))
    (da0 : PySem.W.nsIn K mainGlobals "_law_bag" = some (some (.ref fd0))) (dl0 : K.lookup fd0 = some ⟨oc0, od0, .func (PySem.W.fnOf "_law_bag" "_law_bag" (defArgs sBag) (defBody sBag) (defScope sBag) .none kV0 dc0 pm0 an0 cd0 ct0), sl0⟩) (dc_0 : PySem.W.codeIn K cd0 "_law_bag" = true) (dk0 : PySem.W.keepIn K (.ref fd0) = true)
    (da1 : PySem.W.nsIn K mainGlobals "_law_take" = some (some (.ref fd1))) (dl1 : K.lookup fd1 = some ⟨oc1, od1, .func (PySem.W.fnOf "_law_take" "_law_take" (defArgs sTake) (defBody sTake) (defScope sTake) .none kV1 dc1 pm1 an1 cd1 ct1), sl1⟩) (dc_1 : PySem.W.codeIn K cd1 "_law_take" = true) (dk1 : PySem.W.keepIn K (.ref fd1) = true)
    (da2 : PySem.W.nsIn K mainGlobals "_law_of" = some (some (.ref fd2))) (dl2 : K.lookup fd2 = some ⟨oc2, od2, .func (PySem.W.fnOf "_law_of" "_law_of" (defArgs sOf) (defBody sOf) (defScope sOf) .none kV2 dc2 pm2 an2 cd2 ct2), sl2⟩) (dc_2 : PySem.W.codeIn K cd2 "_law_of" = true) (dk2 : PySem.W.keepIn K (.ref fd2) = true)
    (da3 : PySem.W.nsIn K mainGlobals "_law_signs" = some (some (.ref fd3))) (dl3 : K.lookup fd3 = some ⟨oc3, od3, .func (PySem.W.fnOf "_law_signs" "_law_signs" (defArgs sSigns) (defBody sSigns) (defScope sSigns) .none kV3 dc3 pm3 an3 cd3 ct3), sl3⟩) (dc_3 : PySem.W.codeIn K cd3 "_law_signs" = true) (dk3 : PySem.W.keepIn K (.ref fd3) = true)
    (da4 : PySem.W.nsIn K mainGlobals "_law_token" = some (some (.ref fd4))) (dl4 : K.lookup fd4 = some ⟨oc4, od4, .func (PySem.W.fnOf "_law_token" "_law_token" (defArgs sToken) (defBody sToken) (defScope sToken) .none kV4 dc4 pm4 an4 cd4 ct4), sl4⟩) (dc_4 : PySem.W.codeIn K cd4 "_law_token" = true) (dk4 : PySem.W.keepIn K (.ref fd4) = true)
    (da5 : PySem.W.nsIn K mainGlobals "_law_rule" = some (some (.ref fd5))) (dl5 : K.lookup fd5 = some ⟨oc5, od5, .func (PySem.W.fnOf "_law_rule" "_law_rule" (defArgs sLrule) (defBody sLrule) (defScope sLrule) .none kV5 dc5 pm5 an5 cd5 ct5), sl5⟩) (dc_5 : PySem.W.codeIn K cd5 "_law_rule" = true) (dk5 : PySem.W.keepIn K (.ref fd5) = true)
    (da6 : PySem.W.nsIn K mainGlobals "_law_ruled" = some (some (.ref fd6))) (dl6 : K.lookup fd6 = some ⟨oc6, od6, .func (PySem.W.fnOf "_law_ruled" "_law_ruled" (defArgs sRuled) (defBody sRuled) (defScope sRuled) .none kV6 dc6 pm6 an6 cd6 ct6), sl6⟩) (dc_6 : PySem.W.codeIn K cd6 "_law_ruled" = true) (dk6 : PySem.W.keepIn K (.ref fd6) = true)
    (da7 : PySem.W.nsIn K mainGlobals "_law_texts" = some (some (.ref fd7))) (dl7 : K.lookup fd7 = some ⟨oc7, od7, .func (PySem.W.fnOf "_law_texts" "_law_texts" (defArgs sZtexts) (defBody sZtexts) (defScope sZtexts) .none kV7 dc7 pm7 an7 cd7 ct7), sl7⟩) (dc_7 : PySem.W.codeIn K cd7 "_law_texts" = true) (dk7 : PySem.W.keepIn K (.ref fd7) = true)
    (da8 : PySem.W.nsIn K mainGlobals "_rank" = some (some (.ref fd8))) (dl8 : K.lookup fd8 = some ⟨oc8, od8, .func (PySem.W.fnOf "_rank" "_rank" (defArgs sZrank) (defBody sZrank) (defScope sZrank) .none kV8 dc8 pm8 an8 cd8 ct8), sl8⟩) (dc_8 : PySem.W.codeIn K cd8 "_rank" = true) (dk8 : PySem.W.keepIn K (.ref fd8) = true)
    (da9 : PySem.W.nsIn K mainGlobals "kept" = some (some (.ref fd9))) (dl9 : K.lookup fd9 = some ⟨oc9, od9, .func (PySem.W.fnOf "kept" "kept" (defArgs sKept) (defBody sKept) (defScope sKept) .none kV9 dc9 pm9 an9 cd9 ct9), sl9⟩) (dc_9 : PySem.W.codeIn K cd9 "kept" = true) (dk9 : PySem.W.keepIn K (.ref fd9) = true)
    (da10 : PySem.W.nsIn K mainGlobals "is_token" = some (some (.ref fd10))) (dl10 : K.lookup fd10 = some ⟨oc10, od10, .func (PySem.W.fnOf "is_token" "is_token" (defArgs sIstok) (defBody sIstok) (defScope sIstok) .none kV10 dc10 pm10 an10 cd10 ct10), sl10⟩) (dc_10 : PySem.W.codeIn K cd10 "is_token" = true) (dk10 : PySem.W.keepIn K (.ref fd10) = true)
    (da11 : PySem.W.nsIn K mainGlobals "law" = some (some (.ref fd11))) (dl11 : K.lookup fd11 = some ⟨oc11, od11, .func (PySem.W.fnOf "law" "law" (defArgs sLaw46) (defBody sLaw46) (defScope sLaw46) .none kV11 dc11 pm11 an11 cd11 ct11), sl11⟩) (dc_11 : PySem.W.codeIn K cd11 "law" = true) (dk11 : PySem.W.keepIn K (.ref fd11) = true)
    (ea0 : PySem.W.nsIn K mainGlobals "BadRule" = some (some (.ref Cb))) (el0 : K.lookup Cb = some (excClassObj nm0 q0 Cb N0 bs0 bm0 true sn0 sub0 ab0 col0 dd0 ka0 kb0 kc0 kd0 ke0 "ValueError.__new__")) (eb0 : bm0 = [.ref S, .type "ValueError", .type "Exception", .type "BaseException", .type "object"]) (et0 : topB K Cb ["worth"] = true) (ei0 : PySem.W.findIn K (.ref Cb) "__init__" = some (some (.ref fe0))) (ef0 : K.lookup fe0 = some ⟨oe0, ode0, .func (PySem.W.fnOf "__init__" "BadRule.__init__" (defArgs sBadRule) (defBody sBadRule) (defScope sBadRule) .none kVe0 dce0 pme0 ane0 cde0 cte0), sle0⟩) (eco0 : PySem.W.codeIn K cde0 "BadRule.__init__" = true) (ek0 : PySem.W.keepIn K (.ref fe0) = true) (eu0 : PySem.W.isFn K (.ref fe0) = true)
    (sS : PySem.W.nsIn K mainGlobals "SlipError" = some (some (.ref S))) (sr : PySem.W.readsIn K S (.type "type") = true) (sg : PySem.W.specialIn K (.ref S) "__getattribute__" = some (some (.builtin "type.__getattribute__"))) (sv : PySem.W.findCls K (.ref S) (.type "type") "__init__" = some (.val (.builtin "ValueError.__init__")))
    (cM : PySem.W.nsIn K mainGlobals "MOST_SIGNS" = some (some um)) (cMe : ∃ t, um = .int 4 t) (cP : PySem.W.nsIn K mainGlobals "PERCENT" = some (some up)) (cPe : ∃ t, up = .int 37 t)
    (cW : PySem.W.nsIn K mainGlobals "WORDS" = some (some (.ref aW))) (lW : K.lookup aW = some ⟨.type "tuple", none, .seq itW nW, slW⟩) (vW : ∃ t1 t2 t3 t4, itW = #[.str "out" t1, .str "twice" t2, .str "swapped" t3, .str "taken" t4])
    (gR : PySem.W.nsIn K mainGlobals "Rule" = some (some (.ref R)))
    (gZ : PySem.W.nsIn K mainGlobals "Slips" = some (some (.ref Cs)))
    (gc0 : PySem.W.nsIn K mainGlobals "Out" = some (some (.ref C0)))
    (gc1 : PySem.W.nsIn K mainGlobals "Twice" = some (some (.ref C1)))
    (gc2 : PySem.W.nsIn K mainGlobals "Swapped" = some (some (.ref C2)))
    (gc3 : PySem.W.nsIn K mainGlobals "Taken" = some (some (.ref C3)))
    (in0 : PySem.W.findIn K (.ref C0) "__init__" = some (some (.ref fi0)))
    (in1 : PySem.W.findIn K (.ref C1) "__init__" = some (some (.ref fi1)))
    (in2 : PySem.W.findIn K (.ref C2) "__init__" = some (some (.ref fi2)))
    (in3 : PySem.W.findIn K (.ref C3) "__init__" = some (some (.ref fi3)))
    (vR : PySem.W.findCls K (.ref R) (.type "type") "__init__" = some (.val (.ref fg)))
    (vs_ : PySem.W.findIn K (.ref C0) "__str__" = some (some (.ref fs))) (ve_ : PySem.W.findIn K (.ref C0) "__eq__" = some (some (.ref fe)))
    (f_zi : PySem.W.findIn K (.ref Cs) "__init__" = some (some (.ref zi)))
    (f_zc : PySem.W.findIn K (.ref Cs) "__contains__" = some (some (.ref zc)))
    (f_zl : PySem.W.findIn K (.ref Cs) "__len__" = some (some (.ref zl)))
    (f_za : PySem.W.findIn K (.ref Cs) "__and__" = some (some (.ref za)))
    (f_zo : PySem.W.findIn K (.ref Cs) "__or__" = some (some (.ref zo)))
    (f_zs : PySem.W.findIn K (.ref Cs) "__sub__" = some (some (.ref zs)))
    (f_zx : PySem.W.findIn K (.ref Cs) "__xor__" = some (some (.ref zx)))
    (f_zw : PySem.W.findIn K (.ref Cs) "within" = some (some (.ref zw)))
    (a_zf : PySem.W.findCls K (.ref Cs) (.type "type") "of" = some (.get (.builtin "classmethod.__get__") (.ref p_zf) .none (.ref Cs))) (r_zf : PySem.W.recIn K p_zf "classmethod" = some (.ref zf :: re_zf)) (n_zf : PySem.W.fnIn K zf = true)
    (l_fg : K.lookup fg = some ⟨o_fg, od_fg, .func (PySem.W.fnOf "__init__" "Rule.__init__" (defArgs sRinit) (defBody sRinit) (defScope sRinit) .none kv_fg dc_fg pm_fg an_fg cd_fg ct_fg), sl_fg⟩) (c_fg : PySem.W.codeIn K cd_fg "Rule.__init__" = true) (k_fg : PySem.W.keepIn K (.ref fg) = true) (u_fg : PySem.W.isFn K (.ref fg) = true)
    (l_fs : K.lookup fs = some ⟨o_fs, od_fs, .func (PySem.W.fnOf "__str__" "Rule.__str__" (defArgs sRstr) (defBody sRstr) (defScope sRstr) .none kv_fs dc_fs pm_fs an_fs cd_fs ct_fs), sl_fs⟩) (c_fs : PySem.W.codeIn K cd_fs "Rule.__str__" = true) (k_fs : PySem.W.keepIn K (.ref fs) = true) (u_fs : PySem.W.isFn K (.ref fs) = true)
    (l_fe : K.lookup fe = some ⟨o_fe, od_fe, .func (PySem.W.fnOf "__eq__" "Rule.__eq__" (defArgs sReq) (defBody sReq) (defScope sReq) .none kv_fe dc_fe pm_fe an_fe cd_fe ct_fe), sl_fe⟩) (c_fe : PySem.W.codeIn K cd_fe "Rule.__eq__" = true) (k_fe : PySem.W.keepIn K (.ref fe) = true) (u_fe : PySem.W.isFn K (.ref fe) = true)
    (l_fi0 : K.lookup fi0 = some ⟨o_fi0, od_fi0, .func (PySem.W.fnOf "__init__" "Out.__init__" (defArgs sOinit) (defBody sOinit) (defScope sOinit) .none kv_fi0 dc_fi0 pm_fi0 an_fi0 cd_fi0 ct_fi0), sl_fi0⟩) (c_fi0 : PySem.W.codeIn K cd_fi0 "Out.__init__" = true) (k_fi0 : PySem.W.keepIn K (.ref fi0) = true) (u_fi0 : PySem.W.isFn K (.ref fi0) = true)
    (l_fi1 : K.lookup fi1 = some ⟨o_fi1, od_fi1, .func (PySem.W.fnOf "__init__" "Twice.__init__" (defArgs sWinit) (defBody sWinit) (defScope sWinit) .none kv_fi1 dc_fi1 pm_fi1 an_fi1 cd_fi1 ct_fi1), sl_fi1⟩) (c_fi1 : PySem.W.codeIn K cd_fi1 "Twice.__init__" = true) (k_fi1 : PySem.W.keepIn K (.ref fi1) = true) (u_fi1 : PySem.W.isFn K (.ref fi1) = true)
    (l_fi2 : K.lookup fi2 = some ⟨o_fi2, od_fi2, .func (PySem.W.fnOf "__init__" "Swapped.__init__" (defArgs sSinit) (defBody sSinit) (defScope sSinit) .none kv_fi2 dc_fi2 pm_fi2 an_fi2 cd_fi2 ct_fi2), sl_fi2⟩) (c_fi2 : PySem.W.codeIn K cd_fi2 "Swapped.__init__" = true) (k_fi2 : PySem.W.keepIn K (.ref fi2) = true) (u_fi2 : PySem.W.isFn K (.ref fi2) = true)
    (l_fi3 : K.lookup fi3 = some ⟨o_fi3, od_fi3, .func (PySem.W.fnOf "__init__" "Taken.__init__" (defArgs sKinit) (defBody sKinit) (defScope sKinit) .none kv_fi3 dc_fi3 pm_fi3 an_fi3 cd_fi3 ct_fi3), sl_fi3⟩) (c_fi3 : PySem.W.codeIn K cd_fi3 "Taken.__init__" = true) (k_fi3 : PySem.W.keepIn K (.ref fi3) = true) (u_fi3 : PySem.W.isFn K (.ref fi3) = true)
    (l_zi : K.lookup zi = some ⟨o_zi, od_zi, .func (PySem.W.fnOf "__init__" "Slips.__init__" (defArgs sZinit) (defBody sZinit) (defScope sZinit) .none kv_zi dc_zi pm_zi an_zi cd_zi ct_zi), sl_zi⟩) (c_zi : PySem.W.codeIn K cd_zi "Slips.__init__" = true) (k_zi : PySem.W.keepIn K (.ref zi) = true) (u_zi : PySem.W.isFn K (.ref zi) = true)
    (l_zc : K.lookup zc = some ⟨o_zc, od_zc, .func (PySem.W.fnOf "__contains__" "Slips.__contains__" (defArgs sZin) (defBody sZin) (defScope sZin) .none kv_zc dc_zc pm_zc an_zc cd_zc ct_zc), sl_zc⟩) (c_zc : PySem.W.codeIn K cd_zc "Slips.__contains__" = true) (k_zc : PySem.W.keepIn K (.ref zc) = true) (u_zc : PySem.W.isFn K (.ref zc) = true)
    (l_zl : K.lookup zl = some ⟨o_zl, od_zl, .func (PySem.W.fnOf "__len__" "Slips.__len__" (defArgs sZlen) (defBody sZlen) (defScope sZlen) .none kv_zl dc_zl pm_zl an_zl cd_zl ct_zl), sl_zl⟩) (c_zl : PySem.W.codeIn K cd_zl "Slips.__len__" = true) (k_zl : PySem.W.keepIn K (.ref zl) = true) (u_zl : PySem.W.isFn K (.ref zl) = true)
    (l_za : K.lookup za = some ⟨o_za, od_za, .func (PySem.W.fnOf "__and__" "Slips.__and__" (defArgs sZand) (defBody sZand) (defScope sZand) .none kv_za dc_za pm_za an_za cd_za ct_za), sl_za⟩) (c_za : PySem.W.codeIn K cd_za "Slips.__and__" = true) (k_za : PySem.W.keepIn K (.ref za) = true) (u_za : PySem.W.isFn K (.ref za) = true)
    (l_zo : K.lookup zo = some ⟨o_zo, od_zo, .func (PySem.W.fnOf "__or__" "Slips.__or__" (defArgs sZor) (defBody sZor) (defScope sZor) .none kv_zo dc_zo pm_zo an_zo cd_zo ct_zo), sl_zo⟩) (c_zo : PySem.W.codeIn K cd_zo "Slips.__or__" = true) (k_zo : PySem.W.keepIn K (.ref zo) = true) (u_zo : PySem.W.isFn K (.ref zo) = true)
    (l_zs : K.lookup zs = some ⟨o_zs, od_zs, .func (PySem.W.fnOf "__sub__" "Slips.__sub__" (defArgs sZsub) (defBody sZsub) (defScope sZsub) .none kv_zs dc_zs pm_zs an_zs cd_zs ct_zs), sl_zs⟩) (c_zs : PySem.W.codeIn K cd_zs "Slips.__sub__" = true) (k_zs : PySem.W.keepIn K (.ref zs) = true) (u_zs : PySem.W.isFn K (.ref zs) = true)
    (l_zx : K.lookup zx = some ⟨o_zx, od_zx, .func (PySem.W.fnOf "__xor__" "Slips.__xor__" (defArgs sZxor) (defBody sZxor) (defScope sZxor) .none kv_zx dc_zx pm_zx an_zx cd_zx ct_zx), sl_zx⟩) (c_zx : PySem.W.codeIn K cd_zx "Slips.__xor__" = true) (k_zx : PySem.W.keepIn K (.ref zx) = true) (u_zx : PySem.W.isFn K (.ref zx) = true)
    (l_zw : K.lookup zw = some ⟨o_zw, od_zw, .func (PySem.W.fnOf "within" "Slips.within" (defArgs sZwith) (defBody sZwith) (defScope sZwith) .none kv_zw dc_zw pm_zw an_zw cd_zw ct_zw), sl_zw⟩) (c_zw : PySem.W.codeIn K cd_zw "Slips.within" = true) (k_zw : PySem.W.keepIn K (.ref zw) = true) (u_zw : PySem.W.isFn K (.ref zw) = true)
    (l_zf : K.lookup zf = some ⟨o_zf, od_zf, .func (PySem.W.fnOf "of" "Slips.of" (defArgs sZof) (defBody sZof) (defScope sZof) .none kv_zf dc_zf pm_zf an_zf cd_zf ct_zf), sl_zf⟩) (c_zf : PySem.W.codeIn K cd_zf "Slips.of" = true) (k_zf : PySem.W.keepIn K (.ref zf) = true)
    (rt : rtB K (cfOf C0 C1 C2 C3) R fs fe = true)
    (sc : scB K Cs = true)
    (no : noB K = true) :
    ∃ fd : FuncData, (∀ (s : Shared) (v : Value), BindsTo s fd ⟨[v], []⟩ [("script", v)]) ∧ ∀ base : Heap, K.In base → base.Ns mainGlobals mg → FnOk l.prog w K mg base CX0 10 fa fd ["script"] (spLaw K) := by
  have e := hfa.symm.trans (PySem.W.mg_of X G da11)
  cases e
  obtain ⟨T, nall, nord⟩ := noB_ok X G no
  have F0 : DefAt K mg "_law_bag" sBag := def_at X G da0 dl0 dc_0 dk0
  have F1 : DefAt K mg "_law_take" sTake := def_at X G da1 dl1 dc_1 dk1
  have F2 : DefAt K mg "_law_of" sOf := def_at X G da2 dl2 dc_2 dk2
  have F3 : DefAt K mg "_law_signs" sSigns := def_at X G da3 dl3 dc_3 dk3
  have F4 : DefAt K mg "_law_token" sToken := def_at X G da4 dl4 dc_4 dk4
  have F5 : DefAt K mg "_law_rule" sLrule := def_at X G da5 dl5 dc_5 dk5
  have F6 : DefAt K mg "_law_ruled" sRuled := def_at X G da6 dl6 dc_6 dk6
  have F7 : DefAt K mg "_law_texts" sZtexts := def_at X G da7 dl7 dc_7 dk7
  have F8 : DefAt K mg "_rank" sZrank := def_at X G da8 dl8 dc_8 dk8
  have F9 : DefAt K mg "kept" sKept := def_at X G da9 dl9 dc_9 dk9
  have F10 : DefAt K mg "is_token" sIstok := def_at X G da10 dl10 dc_10 dk10
  refine ⟨PySem.W.fnOf "law" "law" (defArgs sLaw46) (defBody sLaw46) (defScope sLaw46) .none kV11 dc11 pm11 an11 cd11 ct11, fun s v => .of_eq rfl, fun base _ _ => ?_⟩
  have FL : Fun K "law" "law" sLaw46 _ _ := fun_mk (st := sLaw46) dl11 dc_11 dk11
  have Dtake : Dk l.prog w K mg base CX0 1 "_law_take" ["dice", "many"] spTake := ok_take F1 T
  have Dof := ok_of F2 T Dtake
  have Dsigns : Dk l.prog w K mg base CX0 1 "_law_signs" [] spSigns := ok_signs F3
  have Dkept : Dk l.prog w K mg base CX0 2 "kept" ["value"] (spKept K 1) := ok_kept F9 T 1
  have E0 : EAtop K mg "BadRule" "BadRule.__init__" Cb "ValueError.__init__" ["worth"] sBadRule := etop_S X G ea0 el0 eb0 et0 ei0 ef0 eco0 ek0 eu0
  have BS : SlipB K mg S := ⟨PySem.W.mg_of X G sS, sr, sg, sv⟩
  have DB := ok_BadRule (P := l.prog) (w := w) (base := base) E0 BS Dkept
  have Dtok : Dk l.prog w K mg base CX0 1 "is_token" ["text"] spIsTok := ok_istok F10 T nall nord (by
    obtain ⟨t, e⟩ := cMe; exact ⟨t, e ▸ PySem.W.mg_of X G cM⟩) (by obtain ⟨t, e⟩ := cPe; exact ⟨t, e ▸ PySem.W.mg_of X G cP⟩)
  have Z : RTops K mg (cfOf C0 C1 C2 C3) R fs fe := rtB_ok rt (fun k => by
    cases k
    · exact PySem.W.mg_of X G gc0
    · exact PySem.W.mg_of X G gc1
    · exact PySem.W.mg_of X G gc2
    · exact PySem.W.mg_of X G gc3) (PySem.W.mg_of X G gR)
  have Lg : Fun K "__init__" "Rule.__init__" sRinit fg _ := fun_mk (st := sRinit) l_fg c_fg k_fg
  have Ls : Fun K "__str__" "Rule.__str__" sRstr fs _ := fun_mk (st := sRstr) l_fs c_fs k_fs
  have L0 : Fun K "__init__" "Out.__init__" sOinit fi0 _ := fun_mk (st := sOinit) l_fi0 c_fi0 k_fi0
  have L1 : Fun K "__init__" "Twice.__init__" sWinit fi1 _ := fun_mk (st := sWinit) l_fi1 c_fi1 k_fi1
  have LS2 : Fun K "__init__" "Swapped.__init__" sSinit fi2 _ := fun_mk (st := sSinit) l_fi2 c_fi2 k_fi2
  have L3 : Fun K "__init__" "Taken.__init__" sKinit fi3 _ := fun_mk (st := sKinit) l_fi3 c_fi3 k_fi3
  have Fr := ok_Rinit (P := l.prog) (w := w) (base := base) Lg T Dtok DB
  have N0 : NewD l.prog w K mg base (L2.CX l.prog w) C0 6 "Out" ["self", "token"] (spNew Cb C0 .out) := ⟨fi0, _, ⟨(Z.top .out).makes, in0, u_fi0, (Z.top .out).kp⟩, ok_Oinit L0 Z.rR vR k_fg (Z.top .out).cl Fr, PySem.W.mg_of X G gc0, L0.binds fun _ _ _ _ _ _ us hl => match us, hl with | [_, _], _ => rfl⟩
  have N1 : NewD l.prog w K mg base (L2.CX l.prog w) C1 6 "Twice" ["self", "token"] (spNew Cb C1 .twice) := ⟨fi1, _, ⟨(Z.top .twice).makes, in1, u_fi1, (Z.top .twice).kp⟩, ok_Winit L1 Z.rR vR k_fg (Z.top .twice).cl Fr, PySem.W.mg_of X G gc1, L1.binds fun _ _ _ _ _ _ us hl => match us, hl with | [_, _], _ => rfl⟩
  have N2 : NewD l.prog w K mg base (L2.CX l.prog w) C2 6 "Swapped" ["self", "first", "second"] (spNew Cb C2 .swapped) := ⟨fi2, _, ⟨(Z.top .swapped).makes, in2, u_fi2, (Z.top .swapped).kp⟩, ok_Sinit LS2 Z.rR vR k_fg (Z.top .swapped).cl Fr, PySem.W.mg_of X G gc2, LS2.binds fun _ _ _ _ _ _ us hl => match us, hl with | [_, _, _], _ => rfl⟩
  have N3 : NewD l.prog w K mg base (L2.CX l.prog w) C3 6 "Taken" ["self", "first", "second"] (spNew Cb C3 .taken) := ⟨fi3, _, ⟨(Z.top .taken).makes, in3, u_fi3, (Z.top .taken).kp⟩, ok_Kinit L3 Z.rR vR k_fg (Z.top .taken).cl Fr, PySem.W.mg_of X G gc3, L3.binds fun _ _ _ _ _ _ us hl => match us, hl with | [_, _, _], _ => rfl⟩
  have DR := ok_ruled (Cf := cfOf C0 C1 C2 C3) F6 N0 N1 N2 N3
  have DS : ∀ k, Mm l.prog w K mg base CX0 (cfOf C0 C1 C2 C3 k) 1 "__str__" ["self"] (spRStr (cfOf C0 C1 C2 C3)) := fun k => ⟨fs, _, ok_Rstr Ls Z.tab, ⟨Z.str k, Z.fns, k_fs⟩, Ls.binds fun _ _ _ _ _ _ us hl => match us, hl with | [_], _ => rfl⟩
  obtain ⟨Sc, mkS, kpS, Rd, sf, nip⟩ := scB_ok sc
  have gS := PySem.W.mg_of X G gZ
  have hW : ∀ H, SqT K H aW (WORDS4.map V.str) := fun H => by
    obtain ⟨t1, t2, t3, t4, e⟩ := vW
    subst e
    exact .inr ⟨_, _, _, lW, rfl, rfl, by show 4 ≤ sizeLine; decide, .cons ⟨t1, rfl⟩ (.cons ⟨t2, rfl⟩ (.cons ⟨t3, rfl⟩ (.cons ⟨t4, rfl⟩ .nil)))⟩
  have DRank := ok_Zrank (P := l.prog) (w := w) (base := base) F8 Z.tab (PySem.W.mg_of X G cW) hW ⟨_, lW, rfl, rfl⟩
  have Lz : Fun K "__init__" "Slips.__init__" sZinit zi _ := fun_mk (st := sZinit) l_zi c_zi k_zi
  have MS : Mk K Cs zi := ⟨mkS, f_zi, u_zi, kpS⟩
  have FS := ok_Zinit Lz T Sc T.sorted DRank DS
  have Lof : Fun K "of" "Slips.of" sZof zf _ := fun_mk (st := sZof) l_zf c_zf k_zf
  have Fof := fnR_ofS (ok_Zof Lof MS FS) (Lof.binds (ps := ["cls", "rules"]) fun _ _ _ _ _ _ us hl => match us, hl with | [_, _], _ => rfl)
  have Cm : ClX.CMet K Cs (.type "type") "of" p_zf zf := ⟨a_zf, ⟨_, r_zf⟩, n_zf⟩
  have DIn := ok_Zin (meth_at (st := sZin) f_zc u_zc l_zc c_zc k_zc) T Sc Z.tab DS
  have DLen := ok_Zlen (P := l.prog) (w := w) (mg := mg) (base := base) (Cf := cfOf C0 C1 C2 C3) (meth_at (st := sZlen) f_zl u_zl l_zl c_zl k_zl) T Sc
  have DAnd := ok_Zand (meth_at (st := sZand) f_za u_za l_za c_za k_za) Sc gS MS FS DIn
  have DSub := ok_Zsub (meth_at (st := sZsub) f_zs u_zs l_zs c_zs k_zs) Sc gS MS FS DIn
  have DOr := ok_Zor (meth_at (st := sZor) f_zo u_zo l_zo c_zo k_zo) Sc gS MS FS
  have DXor := ok_Zxor (meth_at (st := sZxor) f_zx u_zx l_zx c_zx k_zx) sf DSub DOr
  have DWith := ok_Zwith (meth_at (st := sZwith) f_zw u_zw l_zw c_zw k_zw) T sf DSub DLen
  have Dtexts := ok_Ztexts (Cs := Cs) F7 T Sc DS
  exact ok_law FL T Sc gS sf nip (ok_bag F0 T) Dtake (ok_token F4 T Dof Dsigns) (ok_lrule F5 T Dtake Dof) DR Dtexts Rd Cm Fof MS FS DAnd DOr DSub DXor DWith
theorem walk {l : PySem.W.OpenLaw} {q : Program} {loose : List Str} {XP : (Str → Option Value) → Heap → Prop} {YP : World → Heap → Prop} {d : DefRec} {K : Params → PySem.W.Frag} (hn : l.most = some 63) (hdf : d.params.defaults = [])
    (hY : ∀ (w : World) (h : Heap), YP w h → (K w.params).In h)
    (F : ∀ (w : World) (mg : Str → Option Value) (fa : Addr) (h : Heap), (K w.params).In h → h.Ns mainGlobals mg → mg d.name = some (.ref fa) →
      ∃ fd : FuncData, (∀ (s : Shared) (u : Value), BindsTo s fd ⟨[u], []⟩ [("script", u)]) ∧ ∀ base : Heap, (K w.params).In base → base.Ns mainGlobals mg → FnOk l.prog w (K w.params) mg base CX0 10 fa fd ["script"] (spLaw (K w.params))) :
    PySem.W.WalkO q loose XP YP l.row.toRowW d [] (fun f vs => PySem.call f vs) :=
  L2.walk_of (n := 63) (k := 10) (x := "script") (CX := fun _ => CX0) (sp := fun w => spLaw (K w.params)) hn (by decide) hdf ⟨rfl, by decide, by decide⟩ hY F (fun _ _ a ns hl _ hS => ⟨a, ns, rfl, hS, hl, fun _ => rfl⟩) fun _ _ _ _ _ z => z
end Ss
open PySem PySem.W PyProof.Rows in
set_option maxRecDepth 100000 in
set_option maxHeartbeats 0 in
theorem PySem.Challenge.cw_silentslips_k46_signs_between_sets_holds : PySem.Challenge.rw_silentslips_k46_signs_between_sets.Holds := by
  w_on; o_law; k_head; (case hw => w_witness2)
  k_fill
  refine Ss.walk (l := PySem.Challenge.rw_silentslips_k46_signs_between_sets) rfl rfl (fun w h Y => PySem.W.kIn_of Y) ?F
  case F =>
    intro w mg fa h KX G hmg
    refine' Ss.all_mk KX G hmg ?da0 ?dl0 ?dc_0 ?dk0 ?da1 ?dl1 ?dc_1 ?dk1 ?da2 ?dl2 ?dc_2 ?dk2 ?da3 ?dl3 ?dc_3 ?dk3 ?da4 ?dl4 ?dc_4 ?dk4 ?da5 ?dl5 ?dc_5 ?dk5 ?da6 ?dl6 ?dc_6 ?dk6 ?da7 ?dl7 ?dc_7 ?dk7 ?da8 ?dl8 ?dc_8 ?dk8 ?da9 ?dl9 ?dc_9 ?dk9 ?da10 ?dl10 ?dc_10 ?dk10 ?da11 ?dl11 ?dc_11 ?dk11 ?ea0 ?el0 ?eb0 ?et0 ?ei0 ?ef0 ?eco0 ?ek0 ?eu0 ?sS ?sr ?sg ?sv ?cM ?cMe ?cP ?cPe ?cW ?lW ?vW ?gR ?gZ ?gc0 ?gc1 ?gc2 ?gc3 ?in0 ?in1 ?in2 ?in3 ?vR ?vs_ ?ve_ ?f_zi ?f_zc ?f_zl ?f_za ?f_zo ?f_zs ?f_zx ?f_zw ?a_zf ?r_zf ?n_zf ?l_fg ?c_fg ?k_fg ?u_fg ?l_fs ?c_fs ?k_fs ?u_fs ?l_fe ?c_fe ?k_fe ?u_fe ?l_fi0 ?c_fi0 ?k_fi0 ?u_fi0 ?l_fi1 ?c_fi1 ?k_fi1 ?u_fi1 ?l_fi2 ?c_fi2 ?k_fi2 ?u_fi2 ?l_fi3 ?c_fi3 ?k_fi3 ?u_fi3 ?l_zi ?c_zi ?k_zi ?u_zi ?l_zc ?c_zc ?k_zc ?u_zc ?l_zl ?c_zl ?k_zl ?u_zl ?l_za ?c_za ?k_za ?u_za ?l_zo ?c_zo ?k_zo ?u_zo ?l_zs ?c_zs ?k_zs ?u_zs ?l_zx ?c_zx ?k_zx ?u_zx ?l_zw ?c_zw ?k_zw ?u_zw ?l_zf ?c_zf ?k_zf ?rt ?sc ?no
    (case da0 => k_is)
    (case dl0 => k_is)
    (case dc_0 => k_is)
    (case dk0 => k_is)
    (case da1 => k_is)
    (case dl1 => k_is)
    (case dc_1 => k_is)
    (case dk1 => k_is)
    (case da2 => k_is)
    (case dl2 => k_is)
    (case dc_2 => k_is)
    (case dk2 => k_is)
    (case da3 => k_is)
    (case dl3 => k_is)
    (case dc_3 => k_is)
    (case dk3 => k_is)
    (case da4 => k_is)
    (case dl4 => k_is)
    (case dc_4 => k_is)
    (case dk4 => k_is)
    (case da5 => k_is)
    (case dl5 => k_is)
    (case dc_5 => k_is)
    (case dk5 => k_is)
    (case da6 => k_is)
    (case dl6 => k_is)
    (case dc_6 => k_is)
    (case dk6 => k_is)
    (case da7 => k_is)
    (case dl7 => k_is)
    (case dc_7 => k_is)
    (case dk7 => k_is)
    (case da8 => k_is)
    (case dl8 => k_is)
    (case dc_8 => k_is)
    (case dk8 => k_is)
    (case da9 => k_is)
    (case dl9 => k_is)
    (case dc_9 => k_is)
    (case dk9 => k_is)
    (case da10 => k_is)
    (case dl10 => k_is)
    (case dc_10 => k_is)
    (case dk10 => k_is)
    (case da11 => k_is)
    (case dl11 => k_is)
    (case dc_11 => k_is)
    (case dk11 => k_is)
    (case ea0 => k_is)
    (case el0 => k_is)
    (case eb0 => rfl)
    (case et0 => first | rfl | kernel_rfl)
    (case ei0 => k_is)
    (case ef0 => k_is)
    (case eco0 => k_is)
    (case ek0 => k_is)
    (case eu0 => k_is)
    (case sS => k_is)
    (case sr => k_is)
    (case sg => k_is)
    (case sv => k_is)
    (case cM => k_is)
    (case cMe => exact ⟨_, rfl⟩)
    (case cP => k_is)
    (case cPe => exact ⟨_, rfl⟩)
    (case cW => k_is)
    (case lW => k_is)
    (case vW => exact ⟨_, _, _, _, rfl⟩)
    (case gR => k_is)
    (case gZ => k_is)
    (case gc0 => k_is)
    (case gc1 => k_is)
    (case gc2 => k_is)
    (case gc3 => k_is)
    (case in0 => k_is)
    (case in1 => k_is)
    (case in2 => k_is)
    (case in3 => k_is)
    (case vR => k_is)
    (case vs_ => k_is)
    (case ve_ => k_is)
    (case f_zi => k_is)
    (case f_zc => k_is)
    (case f_zl => k_is)
    (case f_za => k_is)
    (case f_zo => k_is)
    (case f_zs => k_is)
    (case f_zx => k_is)
    (case f_zw => k_is)
    (case a_zf => k_is)
    (case r_zf => k_is)
    (case n_zf => first | rfl | kernel_rfl)
    (case l_fg => k_is)
    (case c_fg => k_is)
    (case k_fg => k_is)
    (case u_fg => k_is)
    (case l_fs => k_is)
    (case c_fs => k_is)
    (case k_fs => k_is)
    (case u_fs => k_is)
    (case l_fe => k_is)
    (case c_fe => k_is)
    (case k_fe => k_is)
    (case u_fe => k_is)
    (case l_fi0 => k_is)
    (case c_fi0 => k_is)
    (case k_fi0 => k_is)
    (case u_fi0 => k_is)
    (case l_fi1 => k_is)
    (case c_fi1 => k_is)
    (case k_fi1 => k_is)
    (case u_fi1 => k_is)
    (case l_fi2 => k_is)
    (case c_fi2 => k_is)
    (case k_fi2 => k_is)
    (case u_fi2 => k_is)
    (case l_fi3 => k_is)
    (case c_fi3 => k_is)
    (case k_fi3 => k_is)
    (case u_fi3 => k_is)
    (case l_zi => k_is)
    (case c_zi => k_is)
    (case k_zi => k_is)
    (case u_zi => k_is)
    (case l_zc => k_is)
    (case c_zc => k_is)
    (case k_zc => k_is)
    (case u_zc => k_is)
    (case l_zl => k_is)
    (case c_zl => k_is)
    (case k_zl => k_is)
    (case u_zl => k_is)
    (case l_za => k_is)
    (case c_za => k_is)
    (case k_za => k_is)
    (case u_za => k_is)
    (case l_zo => k_is)
    (case c_zo => k_is)
    (case k_zo => k_is)
    (case u_zo => k_is)
    (case l_zs => k_is)
    (case c_zs => k_is)
    (case k_zs => k_is)
    (case u_zs => k_is)
    (case l_zx => k_is)
    (case c_zx => k_is)
    (case k_zx => k_is)
    (case u_zx => k_is)
    (case l_zw => k_is)
    (case c_zw => k_is)
    (case k_zw => k_is)
    (case u_zw => k_is)
    (case l_zf => k_is)
    (case c_zf => k_is)
    (case k_zf => k_is)
    (case rt => first | rfl | kernel_rfl)
    (case sc => first | rfl | kernel_rfl)
    (case no => first | rfl | kernel_rfl)
