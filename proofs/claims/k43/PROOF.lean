import PyProof.Rows.All
import Wide.All
import OpenK.AllK
import Wide.FinOn
import HandS.ForMost
import HandS.EndBits
import HandS.Wide
import HandS.WideBits
import HandS.Style
import HandS.IsInst
import HandS.TupAny
import HandS.OwnEq
import HandS.Evl
import HandS.Exc
import HandS.WordsExc
import HandS.Walk
import HandS.Replace
import HandS.ReplaceLit
import HandS.ReplaceDef
import HandS.ReplaceList
import OpenK.KMeth
import OpenK.KOps
import KE.KOpsOwn
import HandS.Star
import KE.KCallOwn
import HandS.ExcInit
import HandS.ExcIs
import HandS.ExcField
import HandS.MakeKw
import HandS.FStr
import KE.KExcInit
import HandS.ClsMeth
import HandS.FStrTup
import PyProof.FString5
import PyProof.StrHeap
import PySem.Challenge.RW_silentslips_k43_places_and_slips
import HandS.Codes
import HandS.Deep
import HandS.DeepEq
import HandS.DictComp
import HandS.GenYield
import PyProof.GenComp
import HandS.GenList
import PyProof.PlainList
import HandS.ExcOwn
import HandS.Iter
import KE.GoesEnum
import KE.OsArith
import KE.IntBitsLaws
import PyProof.LongRange
import HandS.Conv
set_option Elab.async false
set_option linter.all false
set_option maxRecDepth 100000
set_option maxHeartbeats 4000000
namespace Ss
open PySem L2
/-! ### defs by name -/
/-- the def st of the module stands under the name x -/
structure DefAt (K : PySem.W.Frag) (mg : Str → Option Value) (x : Str) (st : Stmt) : Prop where
  ex : ∃ (f : Addr) (fd : FuncData), Fun K x x st f fd ∧ mg x = some (.ref f)
/-- the module's def x keeps the promise sp, at most level k -/
structure Dk (P : Program) (w : World) (K : PySem.W.Frag) (mg : Str → Option Value) (base : Heap) (CX : CXT) (k : Nat) (x : Str) (ps : List Str) (sp : Sp) : Prop where
  ex : ∃ (f : Addr) (fd : FuncData), FnOk P w K mg base CX k f fd ps sp ∧ mg x = some (.ref f) ∧ PySem.W.keepIn K (.ref f) = true ∧ Binds K fd ps []
/-- the method st of the class at C -/
structure MethAt (K : PySem.W.Frag) (C : Addr) (m qual : Str) (st : Stmt) : Prop where
  ex : ∃ (f : Addr) (fd : FuncData), Fun K m qual st f fd ∧ Meth K C m f
structure Mm (P : Program) (w : World) (K : PySem.W.Frag) (mg : Str → Option Value) (base : Heap) (CX : CXT) (C : Addr) (k : Nat) (m : Str) (ps : List Str) (sp : Sp) : Prop where
  ex : ∃ (f : Addr) (fd : FuncData), FnOk P w K mg base CX k f fd ps sp ∧ Meth K C m f ∧ Binds K fd ps []
theorem def_at {K : PySem.W.Frag} {h : Heap} {mg : Str → Option Value} {x : Str} {st : Stmt} {f : Addr} {oc : Value} {od an : Option Addr} {osl : Array (Option Value)} {kV doc pm cdv ct : Value} (X : K.In h) (G : h.Ns mainGlobals mg)
    (a : PySem.W.nsIn K mainGlobals x = some (some (.ref f))) (l : K.lookup f = some ⟨oc, od, .func (PySem.W.fnOf x x (defArgs st) (defBody st) (defScope st) .none kV doc pm an cdv ct), osl⟩)
    (c : PySem.W.codeIn K cdv x = true) (k : PySem.W.keepIn K (.ref f) = true) : DefAt K mg x st := ⟨f, _, fun_mk l c k, PySem.W.mg_of X G a⟩
theorem meth_at {K : PySem.W.Frag} {C : Addr} {m qual : Str} {st : Stmt} {f : Addr} {oc : Value} {od an : Option Addr} {osl : Array (Option Value)} {kV doc pm cdv ct : Value}
    (a : PySem.W.findIn K (.ref C) m = some (some (.ref f))) (i : PySem.W.isFn K (.ref f) = true) (l : K.lookup f = some ⟨oc, od, .func (PySem.W.fnOf m qual (defArgs st) (defBody st) (defScope st) .none kV doc pm an cdv ct), osl⟩)
    (c : PySem.W.codeIn K cdv qual = true) (k : PySem.W.keepIn K (.ref f) = true) : MethAt K C m qual st := ⟨f, _, fun_mk l c k, a, i, k⟩
section
variable {X : Cx} {CX : CXT} {k j : Nat} {C : Addr} {ps : List Str} {sp : Sp} {E : XK} {x m : Str} {p pos apos : Pos} {e o : Expr} {es : List Expr} {ta : TE} {t : TA}
/-- x(e, ..) of a def that keeps sp -/
theorem pe_cd (D : Dk X.prog X.w X.K X.mg X.base CX k x ps sp) (hr : Room j X.A) (hx : Passes CX X E) (ha : PA X (e :: es) t) (hk : k ≤ j := by decide) (hg : Gl X x := by rfl) (hdb : (x == ("__debug__" : Str)) = false := by decide)
    (he : starEach (e :: es) X.env = (false, eval e X.env) :: starEach es X.env := by rfl) (hpl : (backTo pos (starEach es X.env)).any (·.1) = false := by rfl) : PE X (.Call (.Name x p) (e :: es) [] pos) (tCall sp [] E t) := by
  obtain ⟨f, fd, F, mf, kp, b⟩ := D.ex
  exact pe_call F (hr.mono hk) hg mf kp b .nil hx ha hdb he hpl
theorem pe_cd0 (D : Dk X.prog X.w X.K X.mg X.base CX k x ps sp) (hr : Room j X.A) (hx : Passes CX X E) (hk : k ≤ j := by decide) (hg : Gl X x := by rfl) (hdb : (x == ("__debug__" : Str)) = false := by decide) :
    PE X (.Call (.Name x p) [] [] pos) (tCall sp [] E tNil) := by
  obtain ⟨f, fd, F, mf, kp, b⟩ := D.ex
  exact pe_call0 F (hr.mono hk) hg mf kp b .nil hx hdb
/-- o.m(e, ..) -/
theorem pe_md {pl : Sem Bool} (he : PE X o ta) (c : Cls X.K C) (D : Mm X.prog X.w X.K X.mg X.base CX C k m ps sp) (hr : Room j X.A) (hx : Passes CX X E) (ha : PA X (e :: es) t) (hk : k ≤ j := by decide)
    (hst : starEach (e :: es) X.env = (false, eval e X.env) :: starEach es X.env := by rfl) (hpl : (backTo pos (starEach es X.env)).any (·.1) = false := by rfl)
    (ht : eval (.Call (.Attribute o m apos) (e :: es) [] pos) X.env = (do
      let ov ← eval o X.env
      standAt apos.atName
      let (f, first) ← holding [ov] (getMethod ov m pl)
      callWith pos f first (backTo pos (starEach (e :: es) X.env)) (backToKw pos (keywordEach [] X.env))) := by rfl) :
    PE X (.Call (.Attribute o m apos) (e :: es) [] pos) (tMeth C m sp [] E ta t) := by
  obtain ⟨f, fd, F, mf, b⟩ := D.ex
  exact pe_meth he c mf F (hr.mono hk) b .nil hx ha hst hpl ht
theorem pe_md0 {pl : Sem Bool} (he : PE X o ta) (c : Cls X.K C) (D : Mm X.prog X.w X.K X.mg X.base CX C k m ps sp) (hr : Room j X.A) (hx : Passes CX X E) (hk : k ≤ j := by decide)
    (ht : eval (.Call (.Attribute o m apos) [] [] pos) X.env = (do
      let ov ← eval o X.env
      standAt apos.atName
      let (f, first) ← holding [ov] (getMethod ov m pl)
      callWith pos f first (backTo pos (starEach [] X.env)) (backToKw pos (keywordEach [] X.env))) := by rfl) :
    PE X (.Call (.Attribute o m apos) [] [] pos) (tMeth C m sp [] E ta tNil) := by
  obtain ⟨f, fd, F, mf, b⟩ := D.ex
  exact pe_meth0 he c mf F (hr.mono hk) b .nil hx ht
end
/-- all that stood at other places than b stands -/
def Off (b : Addr) (H H' : Hp) : Prop := ∀ a o, a ≠ b → H a = some o → H' a = some o
theorem Off.refl (b : Addr) (H : Hp) : Off b H H := fun _ _ _ h => h
theorem Off.trans {b : Addr} {H H1 H2 : Hp} (x : Off b H H1) (y : Off b H1 H2) : Off b H H2 := fun a o n h => y a o n (x a o n h)
theorem Off.upd {b : Addr} {H H1 : Hp} {o : HO} (x : Off b H H1) : Off b H (L2.upd H1 b o) := fun a u n h => by
  rw [upd_ne n]; exact x a u n h
theorem Off.new {b p : Addr} {H H1 : Hp} {o : HO} (x : Off b H H1) (hp : H1 p = none) : Off b H (L2.upd H1 p o) := fun a u n h => by
  rw [upd_ne (ne_of_none (x a u n h) hp)]; exact x a u n h
theorem Off.of {b : Addr} {H H' : Hp} (x : Same H H') : Off b H H' := fun a o _ h => x a o h
theorem Same.new {H H1 : Hp} {p : Addr} {o : HO} (x : Same H H1) (hp : H1 p = none) : Same H (L2.upd H1 p o) := fun a u h => by
  rw [upd_ne (ne_of_none (x a u h) hp)]; exact x a u h
theorem Off.seq {K : PySem.W.Frag} {H H' : Hp} {a b : Addr} {xs : List V} (e : Off b H H') (n : a ≠ b) (h : SqL K H a xs) : SqL K H' a xs := by
  rcases h with (h | ⟨o, h⟩) | h
  · exact .inl (.inl (e _ _ n h))
  · exact .inl (.inr ⟨o, e _ _ n h⟩)
  · exact .inr h
theorem Off.tup {K : PySem.W.Frag} {H H' : Hp} {a b : Addr} {xs : List V} (e : Off b H H') (n : a ≠ b) (h : SqT K H a xs) : SqT K H' a xs := by
  rcases h with (h | ⟨o, h⟩) | h
  · exact .inl (.inl (e _ _ n h))
  · exact .inl (.inr ⟨o, e _ _ n h⟩)
  · exact .inr h
abbrev MB : Int := 11529215047000000000
/-- dice at b, asked at most n times -/
def Bag (H : Hp) (b : Addr) (n : Nat) : Prop := ∃ d m c : Int, H b = some (.lst [.int d, .int m, .int c]) ∧ 0 ≤ d ∧ 0 ≤ m ∧ m < MB ∧ 0 ≤ c ∧ c ≤ n
theorem Bag.mono {H : Hp} {b : Addr} {n k : Nat} (h : Bag H b n) (hk : n ≤ k) : Bag H b k := by
  obtain ⟨d, m, c, h1, h2, h3, h4, h5, h6⟩ := h
  exact ⟨d, m, c, h1, h2, h3, h4, h5, by omega⟩
theorem Bag.same {H H' : Hp} {b : Addr} {n : Nat} (h : Bag H b n) (s : Same H H') : Bag H' b n := by
  obtain ⟨d, m, c, h1, r⟩ := h
  exact ⟨d, m, c, s _ _ h1, r⟩
theorem Bag.new {H : Hp} {b p : Addr} {n : Nat} {o : HO} (h : Bag H b n) (hp : H p = none) : Bag (upd H p o) b n := by
  obtain ⟨d, m, c, h1, r⟩ := h
  exact ⟨d, m, c, by rw [upd_ne (ne_of_none h1 hp)]; exact h1, r⟩
theorem Bag.ne {H : Hp} {b p : Addr} {n : Nat} (h : Bag H b n) (hp : H p = none) : b ≠ p := by
  obtain ⟨d, m, c, h1, r⟩ := h
  exact ne_of_none h1 hp
/-- the names of the built-ins are the built-ins' -/
structure G0 (mg : Str → Option Value) : Prop where
  len : mg "len" = none
  abs : mg "abs" = none
  int : mg "int" = none
  range : mg "range" = none
  tuple : mg "tuple" = none
  list : mg "list" = none
  str : mg "str" = none
  isinstance : mg "isinstance" = none
  sorted : mg "sorted" = none
  set : mg "set" = none
  enumerate : mg "enumerate" = none
  max : mg "max" = none
  min : mg "min" = none
  sum : mg "sum" = none

/-! ### texts by their codes -/
def mkS (l : List Nat) : Str := ⟨l.toArray⟩
theorem mkS_inj {a b : List Nat} (h : mkS a = mkS b) : a = b := by
  have e : a.toArray = b.toArray := congrArg Str.cps h
  simpa using e
theorem mkS_app (a b : List Nat) : mkS a ++ mkS b = mkS (a ++ b) := by
  show (⟨a.toArray ++ b.toArray⟩ : Str) = ⟨(a ++ b).toArray⟩
  rw [List.append_toArray]
theorem mkS_len (a : List Nat) : (mkS a).length = a.length := by
  show a.toArray.size = a.length
  simp
theorem mkS_cps (a : List Nat) : (mkS a).cps.toList = a := by
  show a.toArray.toList = a
  simp
theorem mkS_one (c : Nat) : (⟨#[c]⟩ : Str) = mkS [c] := rfl
theorem mkS_nil : ("" : Str) = mkS [] := by decide +kernel
theorem mkS_of (z : Str) : z = mkS z.cps.toList := by
  show z = ⟨z.cps.toList.toArray⟩
  cases z; simp
theorem cut_to (a : List Nat) (k : Nat) : cutS (mkS a) none (some (k : Int)) = mkS (a.take k) := by
  unfold cutS
  rw [HT.sIx_none, HT.sIx_nat, mkS_cps, mkS_len]
  show mkS ((a.drop 0).take (min k a.length - 0)) = mkS (a.take k)
  rw [List.drop_zero, Nat.sub_zero]
  have e : a.take (min k a.length) = a.take k := List.take_eq_take_iff.mpr (by omega)
  rw [e]
theorem inV_str {x : Str} {xs : List Str} : inV (.str x) (xs.map V.str) = decide (x ∈ xs) := by
  induction xs with
  | nil => simp [inV]
  | cons y xs ih =>
    have e : inV (.str x) ((y :: xs).map V.str) = (eqV (.str y) (.str x) || inV (.str x) (xs.map V.str)) := rfl
    rw [e, ih]
    have e2 : eqV (.str y) (.str x) = (y == x) := rfl
    rw [e2]
    by_cases h : x = y
    · subst h; simp
    · have h2 : (y == x) = false := by
        cases q : (y == x) with
        | false => rfl
        | true => exact absurd (eq_of_beq q).symm h
      rw [h2]; simp [h]
theorem flat_strs (xs : List Str) : (xs.map V.str).all flatV = true := by
  rw [List.all_map]
  exact List.all_eq_true.mpr fun _ _ => rfl
theorem atI_int {α : Type} {xs : List α} {i : Int} (h0 : 0 ≤ i) (h : i.toNat < xs.length) : atI xs i = some xs[i.toNat] := by
  have q := atI_nat (List.getElem?_eq_getElem h)
  have e : ((i.toNat : Nat) : Int) = i := Int.toNat_of_nonneg h0
  exact (congrArg (atI xs) e).symm.trans q
/-- the characters of tokens, the letters -/
def SGN : List Nat := ((List.range 94).map (· + 33)).filter (· != 37)
def LET : List Nat := (List.range 26).map (· + 97)
theorem sgn_len : SGN.length = 93 := by decide +kernel
theorem let_len : LET.length = 26 := by decide +kernel
theorem sgn_nd : SGN.Nodup := by decide +kernel
theorem let_nd : LET.Nodup := by decide +kernel
/-- a list without repetition, all of whose items stand in another one, is not longer -/
theorem nodup_le {α : Type} [DecidableEq α] : ∀ {l m : List α}, l.Nodup → (∀ x ∈ l, x ∈ m) → l.length ≤ m.length
  | [], m, _, _ => Nat.zero_le _
  | a :: l, m, hn, hs => by
    have ha : a ∈ m := hs a List.mem_cons_self
    have h1 := nodup_le (l := l) (m := m.erase a) (List.nodup_cons.mp hn).2 fun x hx => by
      have hne : x ≠ a := fun e => (List.nodup_cons.mp hn).1 (e ▸ hx)
      exact (List.mem_erase_of_ne hne).mpr (hs x (List.mem_cons_of_mem _ hx))
    have h2 := List.length_erase_of_mem ha
    have h3 : 0 < m.length := List.length_pos_of_mem ha
    rw [List.length_cons]
    omega
theorem nodup_map_inj {α β : Type} {f : α → β} : ∀ {l : List α}, l.Nodup → (∀ a b, f a = f b → a = b) → (l.map f).Nodup
  | [], _, _ => List.nodup_nil
  | a :: l, hn, hf => by
    rw [List.map_cons]
    refine List.nodup_cons.mpr ⟨fun h => ?_, nodup_map_inj (List.nodup_cons.mp hn).2 hf⟩
    obtain ⟨b, hb, e⟩ := List.mem_map.mp h
    exact (List.nodup_cons.mp hn).1 (hf _ _ e ▸ hb)
/-- one more sign behind the base, where made is taken: what comes of it -/
def more1 (xs : List Str) (bs : List Nat) (m : List Nat) (c : Nat) : List Nat := if mkS m ∈ xs then bs ++ [c] else m
theorem more_yes {xs : List Str} {bs m : List Nat} {c : Nat} (h : mkS m ∈ xs) : more1 xs bs m c = bs ++ [c] := if_pos h
theorem more_no {xs : List Str} {bs m : List Nat} {c : Nat} (h : mkS m ∉ xs) : more1 xs bs m c = m := if_neg h
theorem more_keep {xs : List Str} {bs : List Nat} : ∀ (cs : List Nat) {m : List Nat}, mkS m ∉ xs → cs.foldl (more1 xs bs) m = m
  | [], _, _ => rfl
  | c :: cs, m, h => by
    rw [List.foldl_cons]
    have e : more1 xs bs m c = m := if_neg h
    rw [e]
    exact more_keep cs h
theorem more_all {xs : List Str} {bs : List Nat} : ∀ (cs : List Nat) {m : List Nat}, mkS (cs.foldl (more1 xs bs) m) ∈ xs → mkS m ∈ xs ∧ ∀ c ∈ cs, mkS (bs ++ [c]) ∈ xs
  | [], m, h => ⟨h, fun _ hc => by cases hc⟩
  | c :: cs, m, h => by
    rw [List.foldl_cons] at h
    obtain ⟨h1, h2⟩ := more_all cs h
    have hm : mkS m ∈ xs := by
      by_cases q : mkS m ∈ xs
      · exact q
      · have e : more1 xs bs m c = m := if_neg q
        rw [e] at h1
        exact h1
    have e : more1 xs bs m c = bs ++ [c] := if_pos hm
    rw [e] at h1
    refine ⟨hm, fun d hd => ?_⟩
    rcases List.mem_cons.mp hd with rfl | hd
    · exact h1
    · exact h2 d hd
theorem more_new {xs : List Str} {bs cs m : List Nat} (hn : cs.Nodup) (hl : xs.length < cs.length) : mkS (cs.foldl (more1 xs bs) m) ∉ xs := fun h => by
  have h2 := (more_all cs h).2
  have h3 : (cs.map fun c => mkS (bs ++ [c])).Nodup := by
    exact nodup_map_inj hn fun a b e => by
      have q := mkS_inj e
      simpa using q
  have h4 := nodup_le h3 fun x hx => by
    obtain ⟨c, hc, rfl⟩ := List.mem_map.mp hx
    exact h2 c hc
  rw [List.length_map] at h4
  omega
theorem more_shape {xs : List Str} {bs cs : List Nat} {S : List Nat → Prop} (hb : ∀ c, c ∈ cs → S (bs ++ [c])) : ∀ {m : List Nat}, S m → S (cs.foldl (more1 xs bs) m) := by
  induction cs with
  | nil => intro m h; exact h
  | cons c cs ih =>
    intro m h
    rw [List.foldl_cons]
    refine ih (fun d hd => hb d (List.mem_cons_of_mem _ hd)) ?_
    unfold more1
    split
    · exact hb c List.mem_cons_self
    · exact h
end Ss
namespace Ss
open PySem L2 PySem.Spec PyProof.Rows
/-! ### the block of a comprehension, whatever it fills -/
/-- ahead of a turn -/
def BlkJ (Y : Cx) (τ : L2.St) (tn : Nat → Heap → Prop) (fp : List Addr) (W : Nat → Nat → Hp → Prop) (n : Nat) (u : Shared) : Prop := ∃ (i : Nat) (G : Hp), Inv Y [] τ G u ∧ tn i u.heap ∧ (∀ b ∈ fp, G b = none) ∧ W i n G
/-- one turn: tests, then the act -/
abbrev TAct := L2.St → Hp → (Hp → Prop) → Prop
def Steps (J : It) (W : Nat → Nat → Hp → Prop) (g : TG) (tt : TT) (ta : TAct) (τ : L2.St) (vs : List Nat) (Qd : Hp → Prop) : Prop := ∀ i m G, W i m G →
  (J.stop i G ∧ Qd G) ∨ (J.go i G ∧ ∃ Nx : Hp → Prop, (∀ G', Nx G' → ∃ m', m' < m ∧ W (i + 1) m' G') ∧ ∀ x G', J.yld i G x G' → g x τ G' fun σ2 G2 => wipe σ2 vs = τ ∧ tt σ2 G2 fun b G3 => if b = true then ta σ2 G3 Nx else Nx G3)
theorem blk_turn {Y : Cx} {tg : Expr} {it : Addr} {fp : List Addr} {tn : Nat → Heap → Prop} {J : It} {τ : L2.St} {vs : List Nat} {W : Nat → Nat → Hp → Prop} {Qd : Hp → Prop} {g : TG} {tt : TT} {ta : TAct} {ifs : List Expr} {Rend : Shared → Prop} {Ac : (Shared → Prop) → Shared → Prop} {E1 E2 E3 E4 : Value → Shared → Prop}
    (hc : Y.calm = true) (T : Turn Y.prog Y.w Y.K tg J fp it tn) (pg : PG Y tg g) (pt : PTs Y ifs tt) (hx : Y.xe = fun _ _ => False)
    (hfp : ∀ (σ' : L2.St) (G : Hp) (u : Shared), Inv Y [] σ' G u → (∀ b ∈ fp, G b = none) → ∀ b ∈ fp, FpOk Y [] G b) (step : Steps J W g tt ta τ vs Qd)
    (hact : ∀ (pins : List (Addr × Obj)) (σ2 : L2.St) (G : Hp) (u : Shared) (Nx : Hp → Prop) (Fin : Shared → Prop), Inv Y pins σ2 G u → ta σ2 G Nx → (∀ u' G', Inv Y pins σ2 G' u' → Nx G' → Fin u') → Ac Fin u)
    (hend : ∀ u G, Inv Y [] τ G u → Qd G → Rend u) (n : Nat) (u : Shared) (hJ : BlkJ Y τ tn fp W n u) :
    wpAny (model Y.prog Y.w) Y.A (pyNext (.ref it)) (fun r s1 => match r with
      | none => Rend s1
      | some v => wpAny (model Y.prog Y.w) Y.A (letOwnedTupleGo tg (.ref it) v) (fun _ s2 => wpAny (model Y.prog Y.w) Y.A (assign tg Y.env v) (fun _ s3 =>
          wpAny (model Y.prog Y.w) Y.A (forIn ifs true fun c r => if r = true then do let ok ← isTrue c Y.env (eval c Y.env); pure (ForInStep.yield ok) else pure (ForInStep.yield r)) (fun ok s4 =>
            if ok = true then Ac (fun s5 => ∃ m, m < n ∧ BlkJ Y τ tn fp W m s5) s4 else ∃ m, m < n ∧ BlkJ Y τ tn fp W m s4) E1 s3) E2 s2) E3 s1) E4 u := by
  obtain ⟨i, G, I, st, hn, w⟩ := hJ
  have noE : ∀ {α : Type} {t : Sem α} {Q1 Q2 : α → Shared → Prop} {E : Value → Shared → Prop} {z : Shared}, wpAny (model Y.prog Y.w) Y.A t Q1 Y.xe z → (∀ a s, Q1 a s → Q2 a s) → wpAny (model Y.prog Y.w) Y.A t Q2 E z := fun h k => by
    rw [hx] at h
    exact thnF h k
  rcases step i n G w with ⟨hs, qd⟩ | ⟨hg, Nx, hNx, go⟩
  · refine thnF (T.done Y rfl rfl rfl hc i [] u τ G (fun _ _ => False) I (hfp _ _ _ I hn) st hs) fun r s1 z => ?_
    obtain ⟨rfl, I1⟩ := z
    exact hend s1 G I1 qd
  · refine thnF (T.item Y rfl rfl rfl hc i [] u τ G (fun _ _ => False) I (hfp _ _ _ I hn) st hg) fun r s1 z => ?_
    obtain ⟨y, rfl, z⟩ := z
    refine thnF z fun _ s2 z2 => ?_
    obtain ⟨x, G2, I2, rx, hy, st2, hn2⟩ := z2
    have I2p := I2.pinned (hfp _ _ _ I2 hn2) (T.obj _ _ st2)
    refine noE (pg.run _ s2 _ G2 x y _ I2p rx (go x G2 hy)) fun _ s3 z3 => ?_
    obtain ⟨σ3, G3, I3, hw, q3⟩ := z3
    refine noE (pt.run _ s3 σ3 G3 _ I3 q3) fun b s4 z4 => ?_
    obtain ⟨G4, I4, q4⟩ := z4
    have close : ∀ u' G', Inv Y ([] ++ pinsAt fp s2.heap) σ3 G' u' → Nx G' → ∃ m, m < n ∧ BlkJ Y τ tn fp W m u' := fun u' G' I' nx => by
      obtain ⟨m', hm, w'⟩ := hNx G' nx
      have at_ : ∀ b ∈ fp, ∀ o, s2.heap.get? b = some o → u'.heap.get? b = some o ∧ G' b = none := fun b hb o e => by
        have z := I'.pin (b, o) (List.mem_append_right _ (List.mem_append_right _ (mem_pinsAt hb e)))
        exact ⟨z.1, z.2.1⟩
      have len : τ.length = σ3.length := by rw [← hw, wipe_length]
      refine ⟨m', hm, i + 1, G', (I'.unpinned (pins := [])).weak len (fun j v e => ?_), T.keep _ _ _ st2 (fun b hb o e => (at_ b hb o e).1), (fun b hb => ?_), w'⟩
      · rw [← hw] at e
        exact (wipe_some e).1
      · obtain ⟨o, e, _⟩ := T.obj _ _ st2 b hb
        exact (at_ b hb o e).2
    cases b with
    | true => exact hact _ σ3 G4 s4 Nx _ I4 (by simpa using q4) close
    | false => exact close s4 G4 I4 (by simpa using q4)
/-- what a comprehension's turn asks of the loop -/
def TurnOf (M : Model) (A : Around) (tg : Expr) (ifs : List Expr) (env : Env) (it : Addr) (Ac : (Shared → Prop) → Shared → Prop) (R : Result → Shared → Prop) (J : Nat → Shared → Prop) : Prop := ∀ (E1 E2 E3 E4 : Value → Shared → Prop) (n : Nat) (u : Shared), J n u →
  wpAny M A (pyNext (.ref it)) (fun r s1 => match r with
      | none => R (.ok .next) s1
      | some v => wpAny M A (letOwnedTupleGo tg (.ref it) v) (fun _ s2 => wpAny M A (assign tg env v) (fun _ s3 =>
          wpAny M A (forIn ifs true fun c r => if r = true then do let ok ← isTrue c env (eval c env); pure (ForInStep.yield ok) else pure (ForInStep.yield r)) (fun ok s4 =>
            if ok = true then Ac (fun s5 => ∃ m, m < n ∧ J m s5) s4 else ∃ m, m < n ∧ J m s4) E1 s3) E2 s2) E3 s1) E4 u
/-- the word of a comprehension that fills the new thing O D -/
def tFill (wi : TI) (g : TG) (tt : TT) (ta : Addr → TAct) (O : Addr → HO) (vs : List Nat) : TE := fun σ H Q => wi σ H fun J H1 => ∀ D, H1 D = none → ∃ W : Nat → Nat → Hp → Prop, (∃ m, W 0 m (upd H1 D (O D))) ∧ Steps J W g tt (ta D) (wipe σ vs) vs (Q (.ref D))
theorem comp_runE {X : Cx} {pins : List (Addr × Obj)} {s : Shared} {σ : L2.St} {H : Hp} {Q : VK} {node tg iter : Expr} {ifs : List Expr} {scope : Scope} {own : List (Str × Nat)} {pos' : Pos} {wi : TI} {g : TG} {tt : TT} {ta : Addr → TAct} {O : Addr → HO} {newX : Sem Value} {o0 : Obj} {use : Option (Value → Sem Unit)} {Qf : Value → Shared → Prop}
    {Ac : Addr → Env → (Shared → Prop) → Shared → Prop}
    (hc : X.calm = true) (hN : X.N.Nodup) (I : Inv X pins σ H s) (hi : ∀ R : It → Hp → Prop, wi σ H R → wpAny (model X.prog X.w) X.A (eval iter X.env) (fun v s1 => wpAny (model X.prog X.w) X.A (pyIter v) (PIE X pins σ tg R) X.xe s1) X.xe s) (ok : BlkOk X.N X.env.scope scope own) (hcl : clausesOf node = [⟨tg, iter, ifs, 0⟩]) (hs : ∀ x, foldedSetIterable iter X.env x = pure x)
    (hnew : ∀ (z : Shared) (Q1 : Value → Shared → Prop) (E : Value → Shared → Prop), Q1 (.ref z.heap.objs.size) { z with heap := z.heap.push o0 } → wpAny (model X.prog X.w) X.A newX Q1 E z)
    (hobj : ∀ (H' : Hp) (h : Heap), sysModules < h.objs.size → ObjOk X.prog X.w H' (h.push o0) h.objs.size (O h.objs.size))
    (hg : ∀ (s : Shared) (H : Hp) (C : Addr) (cl : List (Str × Addr)) (fp : List Addr), PG (X.blk s H scope (compEnvC scope cl C X.env) fp) tg g) (ht : ∀ (s : Shared) (H : Hp) (C : Addr) (cl : List (Str × Addr)) (fp : List Addr), PTs (X.blk s H scope (compEnvC scope cl C X.env) fp) ifs tt)
    (hact : ∀ (s : Shared) (H : Hp) (C : Addr) (cl : List (Str × Addr)) (fp : List Addr) (D : Addr) (pins : List (Addr × Obj)) (σ2 : L2.St) (G : Hp) (u : Shared) (Nx : Hp → Prop) (Fin : Shared → Prop), Inv (X.blk s H scope (compEnvC scope cl C X.env) fp) pins σ2 G u → ta D σ2 G Nx →
      (∀ u' G', Inv (X.blk s H scope (compEnvC scope cl C X.env) fp) pins σ2 G' u' → Nx G' → Fin u') → Ac D (compEnvC scope cl C X.env) Fin u)
    (hstart : ∀ (it D : Addr) (env : Env) (R : Result → Shared → Prop) (z : Shared), codeAny (model X.prog X.w) X.A (.compLoop node 0 (.ref it) (.ref D) env) R z →
      (∀ (Q1 : Value → Shared → Prop) (E : Value → Shared → Prop), Q1 (.ref it) z → wpAny (model X.prog X.w) X.A (pyIter (.ref it)) Q1 E z) → codeAny (model X.prog X.w) X.A (.compStart node 0 (.ref it) (.ref D) env) R z)
    (hloop : ∀ (it D : Addr) (env : Env) (R : Result → Shared → Prop) (J : Nat → Shared → Prop), TurnOf (model X.prog X.w) X.A tg ifs env it (Ac D env) R J → ∀ n z, J n z → codeAny (model X.prog X.w) X.A (.compLoop node 0 (.ref it) (.ref D) env) R z)
    (h : tFill wi g tt ta O (own.map (·.2)) σ H Q)
    (hRR : ∀ D C s' m H', Inv X pins σ H' s' → Q (.ref D) H' → s'.heap.Ns C m → FpOk X pins H' C → compPost (model X.prog X.w) X.A X.xe use Qf (.ref D) C (.ok .next) s') :
    wpAny (model X.prog X.w) X.A (comprehension node scope X.env pos' newX false (eval iter X.env) use) Qf X.xe s := by
  have cells : ∀ y ∈ scope.names, y.2 = .free → ∃ c, X.env.cells.lookup y.1 = some c := fun y hy e => (ok.free y hy e).elim (fun k => I.ok.has _ (.inl k)) fun k => I.ok.has _ (.inr k)
  refine wpAny_comprehension_free (use := use) hcl hs (closure_ok cells) ok.kind (fun y hy e => by rw [ok.uniq y hy, e]) (thn (hi _ h) fun v s1 h1 => thn h1 fun itv s2 h2 => ?_)
  obtain ⟨it, fp, tn, J, H2, rfl, I2, T, st, f2, q⟩ := h2
  refine hnew s2 _ _ (newEnv_comp ?_)
  have n0 : H2 s2.heap.objs.size = none := I2.hok.fresh (Nat.le_refl _)
  obtain ⟨W, ⟨m0, w0⟩, steps⟩ := q _ n0
  generalize hs3 : ({ s2 with heap := s2.heap.push o0 } : Shared) = s3
  have e3 : s3.heap = s2.heap.push o0 := by rw [← hs3]
  have I3 : Inv X pins σ (upd H2 s2.heap.objs.size (O s2.heap.objs.size)) s3 := by
    rw [← hs3]
    exact I2.laid (t' := s2.toks) (fun b o e => Heap.get?_push_of_some _ e) (Nat.le_refl _) (hobj _ s2.heap I2.big)
  have low : ∀ b ∈ fp, b < s2.heap.objs.size := fun b hb => by
    obtain ⟨o, e, _⟩ := T.obj _ _ st b hb
    exact Heap.lt_size e
  have f3 : ∀ b ∈ fp, FpOk X pins (upd H2 s2.heap.objs.size (O s2.heap.objs.size)) b ∧ b < s3.heap.objs.size := fun b hb =>
    ⟨⟨by rw [upd_ne (Nat.ne_of_lt (low b hb))]; exact (f2 b hb).1, (f2 b hb).2⟩, by rw [e3, Heap.size_push]; exact Nat.lt_succ_of_lt (low b hb)⟩
  have I4 := block_start I3 ok hN f3
  have pg := hg s3 (upd H2 s2.heap.objs.size (O s2.heap.objs.size)) s3.heap.objs.size (cellsFrom (s3.heap.objs.size + 1) scope.names (cloFrom X.env.cells scope.names [])) fp
  have pt := ht s3 (upd H2 s2.heap.objs.size (O s2.heap.objs.size)) s3.heap.objs.size (cellsFrom (s3.heap.objs.size + 1) scope.names (cloFrom X.env.cells scope.names [])) fp
  have pa := hact s3 (upd H2 s2.heap.objs.size (O s2.heap.objs.size)) s3.heap.objs.size (cellsFrom (s3.heap.objs.size + 1) scope.names (cloFrom X.env.cells scope.names [])) fp s2.heap.objs.size
  show codeAny _ _ (.compStart node 0 (.ref it) (.ref s2.heap.objs.size) (compEnvC scope (cellsFrom (s3.heap.objs.size + 1) scope.names (cloFrom X.env.cells scope.names [])) s3.heap.objs.size X.env)) (compPost (model X.prog X.w) X.A X.xe use Qf (.ref s2.heap.objs.size) s3.heap.objs.size) { s3 with heap := pushCells (s3.heap.push { cls := .type "dict", data := .dict #[] }) scope.names }
  have none3 : ∀ b ∈ fp, (upd H2 s2.heap.objs.size (O s2.heap.objs.size)) b = none := fun b hb => (f3 b hb).1.1
  have loc4 : (compEnvC scope (cellsFrom (s3.heap.objs.size + 1) scope.names (cloFrom X.env.cells scope.names [])) s3.heap.objs.size X.env).locals = s3.heap.objs.size := rfl
  generalize compEnvC scope (cellsFrom (s3.heap.objs.size + 1) scope.names (cloFrom X.env.cells scope.names [])) s3.heap.objs.size X.env = ce at I4 pg pt pa loc4 ⊢
  have st4 : tn 0 (pushCells (s3.heap.push { cls := .type "dict", data := .dict #[] }) scope.names) := T.keep _ _ _ st fun b _ o e => pushCells_keeps _ _ _ _ (Heap.get?_push_of_some _ (by rw [e3]; exact Heap.get?_push_of_some _ e))
  refine hstart it _ ce _ _ (hloop it _ ce _ (BlkJ (X.blk s3 (upd H2 s2.heap.objs.size (O s2.heap.objs.size)) scope ce fp) (wipe σ (own.map (·.2))) tn fp W) (fun E1 E2 E3 E4 n u hJ => ?_) m0 _ ⟨0, _, I4, st4, none3, w0⟩) fun Q1 E z => T.self X.A 0 _ _ _ st4 z
  refine blk_turn (Y := X.blk s3 (upd H2 s2.heap.objs.size (O s2.heap.objs.size)) scope ce fp) hc T pg pt rfl (fun σ' G u' I' hn b hb => ?_) steps (fun pins σ2 G u' Nx Fin I' ta' k => pa pins σ2 G u' Nx Fin I' ta' k) (fun u' G I' qd => ?_) n u hJ
  · exact ⟨hn b hb, (I'.ok.exf b hb).1, I'.ok.exfs b hb, .inl hb, fun x c e => (I'.ok.exf b hb).2 x c e, fun p hp => nomatch (show p ∈ ([] : List (Addr × Obj)) ++ [] from hp)⟩
  · have I7 : Inv X pins σ G u' := I3.call' (ch := fp) I'.os I'.base I'.hok I'.bare fun b hb => ⟨(f3 b hb).1.2.2.2.1, (f3 b hb).1.2.1, (f3 b hb).1.2.2.2.2.1, (f3 b hb).1.2.2.2.2.2⟩
    have nC : G s3.heap.objs.size = none := by
      have z : G ce.locals = none := I'.free
      rwa [loc4] at z
    obtain ⟨m, hn, _⟩ := I'.loc
    have hn : u'.heap.Ns ce.locals m := hn
    rw [loc4] at hn
    exact hRR _ _ u' m G I7 qd hn (I3.fpOk (Nat.le_refl _) nC)
theorem TurnOf.at {M : Model} {A : Around} {tg : Expr} {ifs : List Expr} {env : Env} {it : Addr} {Ac1 : (Value → Shared → Prop) → (Shared → Prop) → Shared → Prop} {R : Result → Shared → Prop} {J : Nat → Shared → Prop} (t : TurnOf M A tg ifs env it (fun Fin z => ∀ E, Ac1 E Fin z) R J) (E0 : Value → Shared → Prop) (n : Nat) (u : Shared) (hJ : J n u) :
    wpAny M A (pyNext (.ref it)) (fun r s1 => match r with
      | none => R (.ok .next) s1
      | some v => wpAny M A (letOwnedTupleGo tg (.ref it) v) (fun _ s2 => wpAny M A (assign tg env v) (fun _ s3 =>
          wpAny M A (forIn ifs true fun c r => if r = true then do let ok ← isTrue c env (eval c env); pure (ForInStep.yield ok) else pure (ForInStep.yield r)) (fun ok s4 =>
            if ok = true then Ac1 E0 (fun s5 => ∃ m, m < n ∧ J m s5) s4 else ∃ m, m < n ∧ J m s4) E0 s3) E0 s2) E0 s1) E0 u := by
  refine wpAny_mono (t E0 E0 E0 E0 n u hJ) (fun r s1 h1 => ?_) fun _ _ z => z
  cases r with
  | none => exact h1
  | some v =>
    refine wpAny_mono h1 (fun _ s2 h2 => wpAny_mono h2 (fun _ s3 h3 => wpAny_mono h3 (fun ok s4 h4 => ?_) fun _ _ z => z) fun _ _ z => z) fun _ _ z => z
    cases ok with
    | true => exact (show ∀ E, Ac1 E (fun s5 => ∃ m, m < n ∧ J m s5) s4 from by simpa using h4) E0
    | false => exact h4
section
variable {X : Cx}
/-- [e for x in it if ..], the first token is out -/
theorem pet_lc {elt tg iter : Expr} {ifs : List Expr} {scope : Scope} {own : List (Str × Nat)} {pos : Pos} {wi : TI} {g : TG} {tt : TT} {te : TE} (hc : X.calm = true) (hN : X.N.Nodup) (hi : PIT X tg iter wi) (ok : BlkOk X.N X.env.scope scope own)
    (hg : ∀ (s : Shared) (H : Hp) (C : Addr) (cl : List (Str × Addr)) (fp : List Addr), PG (X.blk s H scope (compEnvC scope cl C X.env) fp) tg g) (ht : ∀ (s : Shared) (H : Hp) (C : Addr) (cl : List (Str × Addr)) (fp : List Addr), PTs (X.blk s H scope (compEnvC scope cl C X.env) fp) ifs tt)
    (he : ∀ (s : Shared) (H : Hp) (C : Addr) (cl : List (Str × Addr)) (fp : List Addr), PE (X.blk s H scope (compEnvC scope cl C X.env) fp) elt te) (hs : ∀ x, foldedSetIterable iter X.env x = pure x := by intro _; rfl) :
    PET X (.ListComp elt [⟨tg, iter, ifs, 0⟩] scope pos) (tLc wi g tt te (own.map (·.2))) := by
  intro pins s σ H Q h0 I h
  rw [eval_ListComp]
  refine comp_runE (o0 := { cls := .type "list", data := .seq ([] : List Value).toArray }) (O := fun _ => .lst []) (ta := fun D σ G Nx => te σ G fun y G1 => ∃ acc, G1 D = some (.lst acc) ∧ acc.length < sizeLine ∧ Nx (upd G1 D (.lst (acc ++ [y]))))
    (Ac := fun D env Fin u => ∀ E, wpAny (model X.prog X.w) X.A (eval elt env) (fun x s5 => wpAny (model X.prog X.w) X.A (call (.builtin "list.append") [.ref D, x]) (fun _ s6 => Fin s6) E s5) E u)
    hc hN I (fun R r => hi pins s σ H R h0 I r) ok rfl hs (fun z Q1 E q => wpAny_newObj_type q (by show 0 ≤ sizeLine; decide)) (fun H' hp hb => ⟨Nat.zero_le _, [], 0, .nil, Heap.get?_push_size _ rfl⟩) hg ht
    (fun s0 H0 C cl fp D pins σ2 G u Nx Fin I' ta k E => thnF ((he s0 H0 C cl fp).run pins u σ2 G _ I' ta) fun x s5 ⟨y, G1, I1, ry, acc, hD, hz, nx⟩ => app_ok (X := X.blk s0 H0 scope (compEnvC scope cl C X.env) fp) I1 hD hz ry fun s6 I6 => k s6 _ I6 nx)
    (fun it D env R z loop self => codeAny_compStart_list loop (self _ _ loop)) (fun it D env R J t n z hJ => compLoop_any J (fun n z hJ => TurnOf.at t _ n z hJ) n hJ) h (fun D C s' m H' I' q hn f => ⟨m, hn, fun h'' sb => ?_⟩)
  obtain ⟨f0, f1, f2, f3, f4, f5⟩ := f
  exact ⟨.ref D, H', I'.turned (t' := s'.toks) (fun b o hb e => (sb.2 b hb).trans e) f0 f1 f3 f4 f5, rfl, q⟩
/-- e.split(sep), the first token is out -/
theorem pet_split {o e : Expr} {to te : TE} {apos pos : Pos} (ho : PET X o to) (he : PE X e te) (hs : starEach [e] X.env = [(false, eval e X.env)] := by rfl)
    (hbase : attributeBase o "split" X.env (eval o X.env) = eval o X.env := by rfl) (hline : (apos.endLine == pos.line) = true := by rfl) :
    PET X (.Call (.Attribute o "split" apos) [e] [] pos) (fun σ H Q => to σ H fun x H1 => ∃ a, x = .str a ∧ te σ H1 fun y H2 => ∃ b, y = .str b ∧ (b.length == 0) = false ∧ a.length + 2 ≤ sizeLine ∧ rNewStrs (Txt.split a b) H2 Q) := by
  intro pins s σ H Q h0 I h
  refine PySem.Call_method1 hbase hs hline (thn (ho pins s σ H _ h0 I h) fun v s1 ⟨x, H1, I1, r1, a, ea, q1⟩ => ?_)
  subst ea
  cases r1 with
  | intro tk e1 =>
    subst e1
    exact ⟨"str", _, F.plainAttrs_str, F.slot_str_split, F.type_str_split, typeIs_str _ _ _, (fun _ z => nomatch z), Calls.callWith_builtin rfl (Calls.evalArgs_plain (Calls.spliced_cons (thn (he.run pins s1 σ H1 _ I1 q1) fun u s2 ⟨y, H2, I2, r2, b, eb, q2⟩ =>
      Calls.spliced_nil (mt_split pins s2 σ H2 _ [y] _ [u] Q I2 (show RelV (.str a) (.str a tk) from ⟨tk, rfl⟩) (.cons r2 .nil) ⟨a, b, rfl, by rw [eb], q2⟩))))⟩
/-- a def by its body, where a token must be out -/
theorem fun_okT {P : Program} {w : World} {K : PySem.W.Frag} {mg : Str → Option Value} {base : Heap} {CX : CXT} {x qual : Str} {st : Stmt} {f : Addr} {fd : FuncData} {N ps : List Str} {k : Nat} {sp : Sp} (F : Fun K x qual st f fd) (S : FnScope N ps (defScope st)) (hnc : ∀ y ∈ (defScope st).names, y.2 ≠ .cell) (hps : 1 ≤ ps.length)
    (len : ∀ vs H Q E, sp vs H Q E → vs.length = ps.length)
    (hbody : ∀ (cdv : Value) (A : Around) (outer : List Env) (s : Shared) (H : Hp) (vs : List V) (Q : VK) (E : XK), Room k (A.deeper (envOfC qual (defScope st) s.heap.objs.size f cdv)) → sp vs H Q E →
      ∃ t, PSsT (cxOf CX P w K mg base N qual (defScope st) f cdv A outer s H E) (defBody st) t ∧ t { nx := fun _ H' => Q .non H', rt := Q } (start N vs) H) :
    FnOk P w K mg base CX (k + 1) f fd ps sp := by
  obtain ⟨oc, od, kV, doc, pm, an, cdv, ct, osl, rfl, lk, hcd⟩ := F.ex
  exact fn_ofT lk hcd S hnc hps len (hbody cdv)
end
end Ss
namespace Ss
open PySem L2
/-! ### the runs of a text -/
/-- blanks and line feeds -/
def gapC (c : Nat) : Bool := c == 32 || c == 10
def rn : List Nat → List Nat → List (List Nat)
  | acc, [] => if acc = [] then [] else [acc]
  | acc, c :: r => if gapC c = true then (if acc = [] then rn [] r else acc :: rn [] r) else rn (acc ++ [c]) r
theorem repl_gap : ∀ L : List Nat, PySem.StrLaws.replL [10] [32] L = L.map fun c => if c = 10 then 32 else c
  | [] => PySem.StrLaws.replL_nil
  | c :: r => by
    by_cases h : c = 10
    · subst h
      rw [PySem.StrLaws.replL_hit (by simp) rfl]
      show 32 :: PySem.StrLaws.replL [10] [32] r = _
      rw [repl_gap r]
      rfl
    · rw [PySem.StrLaws.replL_miss (by show ¬ (c :: r).take 1 = [10]; simpa using h), repl_gap r, List.map_cons, if_neg h]
theorem spl_rn : ∀ (L acc : List Nat), ((TL.spl [32] 0 acc (L.map fun c => if c = 10 then 32 else c)).filter fun t => t != []) = rn acc L
  | [], acc => by
    rw [List.map_nil, TL.spl_nil, rn]
    by_cases h : acc = []
    · rw [if_pos h, List.filter_cons, if_neg (by simpa using h)]; rfl
    · rw [if_neg h, List.filter_cons, if_pos (by simpa using h)]; rfl
  | c :: r, acc => by
    rw [List.map_cons, rn]
    have pr : ∀ d : Nat, TL.pre [32] (d :: (r.map fun c => if c = 10 then 32 else c)) = (d == 32) := fun d => by
      cases hd : (d == 32) with
      | true => have e := eq_of_beq hd; subst e; rfl
      | false =>
        have e : (32 == d) = false := beq_eq_false_iff_ne.mpr fun z => by rw [← z] at hd; exact Bool.noConfusion hd
        first
        | rfl
        | simp [TL.pre, hd, e]
    by_cases h : gapC c = true
    · have e : (if c = 10 then 32 else c) = 32 := by
        unfold gapC at h
        rw [Bool.or_eq_true, beq_iff_eq, beq_iff_eq] at h
        rcases h with h | h
        · subst h; rfl
        · subst h; rfl
      rw [if_pos h, e, TL.spl_hit (by rw [pr]; rfl), List.filter_cons]
      show _ = if acc = [] then rn [] r else acc :: rn [] r
      have ih := spl_rn r []
      by_cases q : acc = []
      · rw [if_neg (by simpa using q), if_pos q]; exact ih
      · rw [if_pos (by simpa using q), if_neg q]; exact congrArg (acc :: ·) ih
    · have h32 : c ≠ 32 := fun z => h (by rw [z]; rfl)
      have h10 : c ≠ 10 := fun z => h (by rw [z]; rfl)
      rw [if_neg h, if_neg h10, TL.spl_miss (by rw [pr]; exact beq_eq_false_iff_ne.mpr h32)]
      exact spl_rn r (acc ++ [c])
/-- the parts of a text between blanks -/
def partsS (z : Str) : List Str := Txt.split (Txt.replace z "\n" " ") " "
theorem parts_rn (z : Str) : (((partsS z).filter fun y : Str => y != "").map V.str) = (rn [] z.cps.toList).map fun t => V.str (mkS t) := by
  have e10 : ("\n" : Str).cps.toList = [10] := by decide +kernel
  have e32 : (" " : Str).cps.toList = [32] := by decide +kernel
  have s1 := TL.split_spl (Txt.replace z "\n" " ") " " (by show (" " : Str).cps.toList ≠ []; rw [e32]; simp) (TL.kind_ok (by decide +kernel))
  have r1 := PySem.StrLaws.replace_list (x := z) (y := "\n") (z := " ") (by decide +kernel)
  rw [e10, e32, repl_gap] at r1
  have s2 : (partsS z).map (fun y => y.cps.toList) = TL.spl [32] 0 [] (z.cps.toList.map fun c => if c = 10 then 32 else c) := by
    have q : (partsS z).map (fun y => y.cps.toList) = TL.spl (" " : Str).cps.toList 0 [] (Txt.replace z "\n" " ").cps.toList := s1
    rw [e32, r1] at q
    exact q
  rw [← spl_rn, ← s2, List.filter_map, List.map_map]
  have f1 : ((fun t : List Nat => t != []) ∘ fun y : Str => y.cps.toList) = fun y : Str => y != "" := by
    funext y
    show (y.cps.toList != []) = (y != "")
    by_cases h : y = ""
    · subst h; rfl
    · exact (bne_iff_ne.mpr (fun z => h (by rw [mkS_of y, z]; exact mkS_nil.symm))).trans (bne_iff_ne.mpr h).symm
  have f2 : ((fun t => V.str (mkS t)) ∘ fun y : Str => y.cps.toList) = V.str := by
    funext y
    show V.str (mkS y.cps.toList) = V.str y
    rw [← mkS_of]
  rw [f1, f2]
theorem parts_len (z : Str) : (partsS z).length ≤ z.length + z.length + 3 := by
  have h1 := PyProof.Rows.split_le (Txt.replace z "\n" " ") " "
  have h2 := TK.replace_len z "\n" " "
  have h3 : (" " : Str).length = 1 := by decide +kernel
  rw [h3, Nat.mul_one] at h2
  unfold partsS
  omega
/-! ### what is laid -/
theorem rn_gap : ∀ {g : List Nat} (r : List Nat), (∀ c ∈ g, gapC c = true) → rn [] (g ++ r) = rn [] r
  | [], r, _ => rfl
  | c :: g, r, h => by
    rw [List.cons_append, rn, if_pos (h c List.mem_cons_self), if_pos rfl]
    exact rn_gap r fun d hd => h d (List.mem_cons_of_mem _ hd)
theorem rn_tok : ∀ {t : List Nat} (acc r : List Nat), (∀ c ∈ t, gapC c = false) → rn acc (t ++ r) = rn (acc ++ t) r
  | [], acc, r, _ => by rw [List.append_nil]; rfl
  | c :: t, acc, r, h => by
    rw [List.cons_append, rn, if_neg (by rw [h c List.mem_cons_self]; exact Bool.false_ne_true), rn_tok (acc ++ [c]) r (fun d hd => h d (List.mem_cons_of_mem _ hd)), List.append_assoc]
    rfl
theorem rn_end {acc g : List Nat} (r : List Nat) (ha : acc ≠ []) (hg : g ≠ []) (h : ∀ c ∈ g, gapC c = true) : rn acc (g ++ r) = acc :: rn [] r := by
  cases g with
  | nil => exact absurd rfl hg
  | cons c g =>
    rw [List.cons_append, rn, if_pos (h c List.mem_cons_self), if_neg ha, rn_gap r fun d hd => h d (List.mem_cons_of_mem _ hd)]
/-- a text whose runs are these, the last one perhaps not at its end -/
structure Laid (z : List Nat) (ts : List (List Nat)) : Prop where
  run : ∀ g r : List Nat, (∀ c ∈ g, gapC c = true) → g ≠ [] → rn [] (z ++ (g ++ r)) = ts ++ rn [] r
  fin : ∀ g : List Nat, (∀ c ∈ g, gapC c = true) → rn [] (z ++ g) = ts
theorem laid_nil : Laid [] [] := ⟨fun g r h _ => rn_gap r h, fun g h => by
  have q := rn_gap (g := g) [] h
  rw [List.append_nil] at q
  exact q⟩
theorem laid_first {g t : List Nat} (hg : ∀ c ∈ g, gapC c = true) (ht : ∀ c ∈ t, gapC c = false) (h1 : t ≠ []) : Laid (g ++ t) [t] := by
  have base : ∀ r, rn [] (g ++ t ++ r) = rn t r := fun r => by rw [List.append_assoc, rn_gap _ hg, rn_tok [] r ht, List.nil_append]
  refine ⟨fun g2 r h2 hn => ?_, fun g2 h2 => ?_⟩
  · rw [base, rn_end r h1 hn h2]; rfl
  · rw [base]
    by_cases hn : g2 = []
    · rw [hn, rn, if_neg h1]
    · have q := rn_end [] h1 hn h2
      rw [List.append_nil] at q
      rw [q]; rfl
theorem laid_more {z g t : List Nat} {ts : List (List Nat)} (L : Laid z ts) (hg : ∀ c ∈ g, gapC c = true) (hn : g ≠ []) (ht : ∀ c ∈ t, gapC c = false) (h1 : t ≠ []) : Laid (z ++ g ++ t) (ts ++ [t]) := by
  have T := laid_first (g := []) (t := t) (fun c hc => nomatch hc) ht h1
  have base : ∀ r, rn [] (z ++ g ++ t ++ r) = ts ++ rn [] (t ++ r) := fun r => by rw [List.append_assoc, List.append_assoc, L.run g _ hg hn]
  refine ⟨fun g2 r h2 hn2 => ?_, fun g2 h2 => ?_⟩
  · rw [base, show t ++ (g2 ++ r) = [] ++ t ++ (g2 ++ r) from rfl, T.run g2 r h2 hn2, List.append_assoc]
  · rw [base, show t ++ g2 = [] ++ t ++ g2 from rfl, T.fin g2 h2]
theorem sgn_gap : ∀ c ∈ SGN, gapC c = false := by decide +kernel
theorem gap_more {x : V} (h : x ∈ [V.str " ", V.str " ", V.str " ", V.str "  ", V.str "\n", V.str " \n ", V.str "\n\n"]) : ∃ g : List Nat, x = .str (mkS g) ∧ (∀ c ∈ g, gapC c = true) ∧ g ≠ [] ∧ g.length ≤ 3 := by
  simp only [List.mem_cons, List.not_mem_nil, or_false] at h
  rcases h with rfl | rfl | rfl | rfl | rfl | rfl | rfl
  · exact ⟨[32], congrArg V.str (by decide +kernel), by decide, by decide, by decide⟩
  · exact ⟨[32], congrArg V.str (by decide +kernel), by decide, by decide, by decide⟩
  · exact ⟨[32], congrArg V.str (by decide +kernel), by decide, by decide, by decide⟩
  · exact ⟨[32, 32], congrArg V.str (by decide +kernel), by decide, by decide, by decide⟩
  · exact ⟨[10], congrArg V.str (by decide +kernel), by decide, by decide, by decide⟩
  · exact ⟨[32, 10, 32], congrArg V.str (by decide +kernel), by decide, by decide, by decide⟩
  · exact ⟨[10, 10], congrArg V.str (by decide +kernel), by decide, by decide, by decide⟩
theorem gap_first {x : V} (h : x ∈ [V.str "", V.str "", V.str " ", V.str "\n"]) : ∃ g : List Nat, x = .str (mkS g) ∧ (∀ c ∈ g, gapC c = true) ∧ g.length ≤ 3 := by
  simp only [List.mem_cons, List.not_mem_nil, or_false] at h
  rcases h with rfl | rfl | rfl | rfl
  · exact ⟨[], congrArg V.str (by decide +kernel), by decide, by decide⟩
  · exact ⟨[], congrArg V.str (by decide +kernel), by decide, by decide⟩
  · exact ⟨[32], congrArg V.str (by decide +kernel), by decide, by decide⟩
  · exact ⟨[10], congrArg V.str (by decide +kernel), by decide, by decide⟩
theorem gap_last {x : V} (h : x ∈ [V.str "", V.str "", V.str " ", V.str "\n", V.str "\n \n"]) : ∃ g : List Nat, x = .str (mkS g) ∧ (∀ c ∈ g, gapC c = true) ∧ g.length ≤ 3 := by
  simp only [List.mem_cons, List.not_mem_nil, or_false] at h
  rcases h with rfl | rfl | rfl | rfl | rfl
  · exact ⟨[], congrArg V.str (by decide +kernel), by decide, by decide⟩
  · exact ⟨[], congrArg V.str (by decide +kernel), by decide, by decide⟩
  · exact ⟨[32], congrArg V.str (by decide +kernel), by decide, by decide⟩
  · exact ⟨[10], congrArg V.str (by decide +kernel), by decide, by decide⟩
  · exact ⟨[10, 32, 10], congrArg V.str (by decide +kernel), by decide, by decide⟩
/-- the promise of runs_of -/
def spRuns : Sp := fun vs H Q _ => ∃ z : Str, vs = [.str z] ∧ z.length ≤ 1000000 ∧ ∀ (p : Addr) (H' : Hp), H p = none → Same H H' → H' p = some (.lst ((rn [] z.cps.toList).map fun t => V.str (mkS t))) → Q (.ref p) H'
end Ss
namespace Ss
open PySem L2 PySem.Spec PyProof.Rows
/-- what changes at b alone, b new at first, leaves all as it was -/
theorem same_off {H H1 H2 : Hp} {b : Addr} (s : Same H H1) (hb : H b = none) (o : Off b H1 H2) : Same H H2 := fun a u h => o a u (ne_of_none h hb) (s a u h)
theorem fresh_off {H H1 H2 : Hp} {b p : Addr} (s : Same H H1) (hb : H b = none) (o : Off b H1 H2) (hp : H2 p = none) : H p = none := Evl.fresh_back (same_off s hb o) hp
theorem el_catL {σ : L2.St} {H : Hp} {ta tb : TE} {l : Addr} {xs ys : List V} (ha : Evl.Ev ta σ H (.ref l)) (hl : H l = some (.lst xs)) (hb : Evl.EvL tb σ H ys) (hz : xs.length + ys.length ≤ 100000) : Evl.EvL (tOp rCat ta tb) σ H (xs ++ ys) := fun H1 e Q q =>
  ha H1 e _ fun H2 e2 => hb H2 (e.trans e2) _ fun p H3 hp e3 h3 => ⟨l, p, xs, ys, rfl, rfl, e3 _ _ (e2 _ _ (e _ _ hl)), h3, Evl.sz_of hz, fun r hr => q r _ (Evl.fresh_back (e2.trans e3) hr) ((e2.trans e3).trans (Evl.Ex.new hr)) upd_same⟩
theorem Bag.ne' {H H3 : Hp} {b r : Addr} {n : Nat} {o : HO} (_ : Bag H b n) (h : H3 r = some o) (hb : H3 b = none) : r ≠ b := ne_of_none h hb
/-! ### lists of texts as data -/
theorem dp_strs {K : PySem.W.Frag} {H : Hp} : ∀ ts : List Str, DpAll K H (ts.map V.str) (ts.map PyData.str)
  | [] => .nil
  | t :: ts => .cons (.str t) (dp_strs ts)
/-- a text of signs that there are -/
def okS (z : Str) : Bool := PyData.canLay0 (.str z)
theorem lay_strs : ∀ ts : List Str, ts.all okS = true → PyData.canLayAll0 (ts.map PyData.str) = true
  | [], _ => rfl
  | t :: ts, h => by
    rw [List.all_cons, Bool.and_eq_true] at h
    show (PyData.canLay0 (.str t) && PyData.canLayAll0 (ts.map PyData.str)) = true
    rw [lay_strs ts h.2, Bool.and_true]
    exact h.1
theorem deep_strs : ∀ ts : List Str, PyData.depthAll (ts.map PyData.str) = 0
  | [] => rfl
  | t :: ts => by
    show max (PyData.depth (.str t)) (PyData.depthAll (ts.map PyData.str)) = 0
    rw [deep_strs ts]
    rfl
theorem shaped_strs {ts : List Str} (h : ts.all okS = true) : SeqAt.shaped (.list (ts.map PyData.str)) = true := by
  show (PyData.canLayAll0 (ts.map PyData.str) && decide (PyData.depthAll (ts.map PyData.str) + 1 ≤ 64)) = true
  rw [lay_strs ts h, deep_strs]
  rfl
theorem okS_mk {t : List Nat} (h : ∀ c ∈ t, c < 1114112) : okS (mkS t) = true := by
  show (mkS t).cps.all (fun c => decide (c < 0x110000)) = true
  rw [← Array.all_toList, mkS_cps]
  exact List.all_eq_true.mpr fun c hc => decide_eq_true (h c hc)
theorem data_same {d : PyData} (h : SeqAt.shaped d = true) : PyData.eqv d d = true := SeqAt.eqv_refl d (SeqAt.canLay_of_shaped h)
theorem rv_eqs {K : PySem.W.Frag} {H : Hp} {p q : Addr} {ts : List Str} (h : ts.all okS = true) (h1 : SqL K H p (ts.map V.str)) (h2 : SqL K H q (ts.map V.str)) : Evl.RV (rEqD K) (.ref p) (.ref q) H (.bl true) := fun H1 e Q k =>
  ⟨_, _, .lst (Evl.ex_l e h1) (dp_strs ts), .lst (Evl.ex_l e h2) (dp_strs ts), shaped_strs h, shaped_strs h, by rw [data_same (shaped_strs h)]; exact k H1 (Evl.Ex.refl H1)⟩
theorem rv_nes {K : PySem.W.Frag} {H : Hp} {p q : Addr} {ts : List Str} (h : ts.all okS = true) (h1 : SqL K H p (ts.map V.str)) (h2 : SqL K H q (ts.map V.str)) : Evl.RV (rNeD K) (.ref p) (.ref q) H (.bl false) := fun H1 e Q k =>
  ⟨_, _, .lst (Evl.ex_l e h1) (dp_strs ts), .lst (Evl.ex_l e h2) (dp_strs ts), shaped_strs h, shaped_strs h, by rw [data_same (shaped_strs h)]; exact k H1 (Evl.Ex.refl H1)⟩
/-- isinstance(x, list) of a list -/
theorem rc_isL {K : PySem.W.Frag} {H : Hp} {p : Addr} {xs : List V} (h : H p = some (.lst xs)) : Evl.RC (rIsi K) [.ref p, .ty "list"] H (.bl true) := fun H1 s Q q =>
  ⟨.ref p, .ty "list", .type "list", .type "list", true, rfl, .ty _, .base (.lst (s _ _ h)), kit_ty (by decide +kernel), q H1 (Evl.Ex.refl H1)⟩
/-- lists of texts by their codes -/
theorem map_mk (ts : List (List Nat)) : (ts.map fun t => V.str (mkS t)) = (ts.map mkS).map V.str := by rw [List.map_map]; rfl
end Ss
namespace Ss
open PySem L2 PySem.Spec PyProof.Rows
/-! ### a call sees a part of what is tracked -/
/-- all but what stands at b -/
def rm (H : Hp) (b : Addr) : Hp := fun a => if a = b then none else H a
theorem rm_at (H : Hp) (b : Addr) : rm H b b = none := if_pos rfl
theorem rm_ne {H : Hp} {a b : Addr} (h : a ≠ b) : rm H b a = H a := if_neg h
theorem rm_some {H : Hp} {a b : Addr} {o : HO} (h : rm H b a = some o) : a ≠ b ∧ H a = some o := by
  by_cases e : a = b
  · rw [e, rm_at] at h; cases h
  · rw [rm_ne e] at h; exact ⟨e, h⟩
theorem rm_same (H : Hp) (b : Addr) : Same (rm H b) H := fun _ _ h => (rm_some h).2
theorem rm_off {H H' : Hp} {b : Addr} (h : Off b H H') : Same (rm H b) (rm H' b) := fun a o e => by
  obtain ⟨n, e⟩ := rm_some e
  rw [rm_ne n]
  exact h a o n e
theorem rm_upd {G : Hp} {b : Addr} {o : HO} (h : G b = none) : rm (upd G b o) b = G := by
  funext a
  by_cases e : a = b
  · rw [e, rm_at, h]
  · rw [rm_ne e, upd_ne e]
theorem upd_rm {H : Hp} {b : Addr} {o : HO} (h : H b = some o) : upd (rm H b) b o = H := by
  funext a
  by_cases e : a = b
  · rw [e, upd_same, h]
  · rw [upd_ne e, rm_ne e]
/-- the promise sp, of what is tracked beside a list at b -/
def spF (sp : Sp) : Sp := fun vs H Q E => ∃ (b : Addr) (xs : List V), H b = some (.lst xs) ∧ sp vs (rm H b) (fun v H' => H' b = none → Q v (upd H' b (.lst xs))) E
theorem ok_part {P : Program} {w : World} {H H' : Hp} {h : Heap} {a : Addr} (hs : ∀ b o, (∀ xs, o ≠ .lst xs) → H b = some o → H' b = some o) : ∀ {o : HO}, ObjOk P w H h a o → ObjOk P w H' h a o
  | .lst _, x => x
  | .tup _, x => x
  | .dK _, x => x
  | .dT kvs, x => by
    obtain ⟨h1, h2, xs, p, q⟩ := x
    exact ⟨h1, h2, xs, L2.Paired.mapP p fun _ _ z => ⟨z.1, hs _ _ (fun _ e => by cases e) z.2.1, z.2.2⟩, q⟩
  | .set _ _, x => x
  | .ins C dx fs, x => by
    obtain ⟨h1, h2⟩ := x
    exact ⟨hs _ _ (fun _ e => by cases e) h1, h2⟩
  | .own _, x => x
  | .xd _, x => x
  | .rng _ _, x => x
  | .frz o u, x => ⟨x.1, ok_part hs x.2⟩
  | .tbl _, x => x
  | .met _ _, x => x
  | .ext _, x => x
theorem hok_rm {P : Program} {w : World} {H : Hp} {h : Heap} {b : Addr} {xs : List V} (hb : H b = some (.lst xs)) (k : HOk P w H h) : HOk P w (rm H b) h := fun a o e => by
  obtain ⟨n, e⟩ := rm_some e
  exact ok_part (fun c u nl hc => by
    rw [rm_ne (fun z => by rw [z, hb] at hc; cases hc; exact nl _ rfl)]; exact hc) (k a o e)
theorem FnOk.frame {P : Program} {w : World} {K : PySem.W.Frag} {mg : Str → Option Value} {base : Heap} {k : Nat} {f : Addr} {fd : FuncData} {ps : List Str} {sp : Sp} (F : FnOk P w K mg base CX0 k f fd ps sp) : FnOk P w K mg base CX0 k f fd ps (spF sp) := by
  refine ⟨fun vs H Q E h => let ⟨b, xs, _, q⟩ := h; F.len _ _ _ _ q, fun A outer s H args us vs Q E hr e0 hb hv h => ?_⟩
  obtain ⟨b, xs, hbx, q⟩ := h
  have nf : b ∉ frs outer := fun z => by rw [e0.frf b z] at hbx; cases hbx
  have hob := e0.hok b _ hbx
  obtain ⟨hz, its, n, hvs, hget⟩ := hob
  have e1 : Env0 P w K mg base A outer s (rm H b) := ⟨e0.frames, e0.mod, fun c o z => ⟨(e0.bs c o z).1, by
      by_cases e : c = b
      · rw [e]; exact rm_at H b
      · rw [rm_ne e]; exact (e0.bs c o z).2⟩, e0.bsz, e0.funs, fun c z => by
      by_cases e : c = b
      · rw [e]; exact rm_at H b
      · rw [rm_ne e]; exact e0.frf c z, hok_rm hbx e0.hok, e0.bare⟩
  refine codeAny_mono (F.run A outer s (rm H b) args us vs _ E hr e1 hb hv q) fun r s' hr' => ?_
  cases r with
  | error e => exact hr'
  | ok fl =>
    cases fl with
    | next => exact hr'
    | brk => exact hr'
    | cont => exact hr'
    | ret u =>
      obtain ⟨v, H', os, bare, un, ok, rv, qq⟩ := hr'
      have nb' : H' b = none := un.free b _ hget (rm_at H b) (by simp)
      have gb' := un.keep b _ hget (rm_at H b) nf (by simp)
      refine ⟨v, upd H' b (.lst xs), os, bare, ⟨fun c o z hc hf hx => ?_, fun c o z hc hf hx => ?_, fun c o z hc hx => ?_, un.there, fun c ys z => ?_, fun c o u z => ?_, fun c ps z => ?_⟩, fun c o z => ?_, rv, qq nb'⟩
      · have ne : c ≠ b := fun e => by rw [e, hbx] at hc; cases hc
        exact un.keep c o z (by rw [rm_ne ne]; exact hc) hf hx
      · have ne : c ≠ b := fun e => by rw [e, hbx] at hc; cases hc
        exact un.slot c o z (by rw [rm_ne ne]; exact hc) hf hx
      · have ne : c ≠ b := fun e => by rw [e, hbx] at hc; cases hc
        rw [upd_ne ne]
        exact un.free c o z (by rw [rm_ne ne]; exact hc) hx
      · have ne : c ≠ b := fun e => by rw [e, hbx] at z; cases z
        rw [upd_ne ne]
        exact un.tups c ys (by rw [rm_ne ne]; exact z)
      · have ne : c ≠ b := fun e => by rw [e, hbx] at z; cases z
        rw [upd_ne ne]
        exact un.frzs c o u (by rw [rm_ne ne]; exact z)
      · have ne : c ≠ b := fun e => by rw [e, hbx] at z; cases z
        obtain ⟨more, q⟩ := un.tbls c ps (by rw [rm_ne ne]; exact z)
        exact ⟨more, by rw [upd_ne ne]; exact q⟩
      · by_cases e : c = b
        · subst e
          rw [upd_same] at z
          cases z
          exact ⟨hz, its, n, hvs, gb'⟩
        · rw [upd_ne e] at z
          exact ok_part (fun d u nl hd => by rw [upd_ne (fun y => by rw [y, nb'] at hd; cases hd)]; exact hd) (ok c o z)
variable {P : Program} {w : World} {K : PySem.W.Frag} {mg : Str → Option Value} {base : Heap} {k : Nat} {x m : Str} {C : Addr} {ps : List Str} {sp : Sp}
theorem Dk.frame (D : Dk P w K mg base CX0 k x ps sp) : Dk P w K mg base CX0 k x ps (spF sp) := let ⟨f, fd, F, r⟩ := D.ex; ⟨f, fd, FnOk.frame F, r⟩
theorem Mm.frame (D : Mm P w K mg base CX0 C k m ps sp) : Mm P w K mg base CX0 C k m ps (spF sp) := let ⟨f, fd, F, r⟩ := D.ex; ⟨f, fd, FnOk.frame F, r⟩
end Ss
namespace Ss
open PySem L2 PyProof.Rows
/-! ### the signs of an own class: + | - ~ * .., in, len -/
theorem inv_fr {X : Cx} {pins : List (Addr × Obj)} {σ : L2.St} {H : Hp} {s : Shared} (I : Inv X pins σ H s) : ∃ m, Fr X.base X.env.locals s.heap m :=
  let ⟨m, n, _⟩ := I.loc
  ⟨m, n, I.bk, Nat.le_trans I.ok.bsz I.ok.above⟩
/-- behind a call of an own def: its value is no mark of a sign that isn't there -/
theorem cmp_back {X : Cx} {pins : List (Addr × Obj)} {σ : L2.St} {Q : VK} {v : Value} {s : Shared} (h : EP X pins σ Q v s) : PySem.W.CmpBack (EP X pins σ Q) v s := by
  obtain ⟨x, H', I, r, q⟩ := id h
  cases x with
  | non => obtain rfl : v = .none := r; exact h
  | bl b => obtain rfl : v = .bool b := r; exact h
  | int i => obtain ⟨t, rfl⟩ := (show ∃ t, v = Value.int i t from r); exact h
  | str z => obtain ⟨t, rfl⟩ := (show ∃ t, v = Value.str z t from r); exact h
  | byt b => obtain ⟨t, rfl⟩ := (show ∃ t, v = Value.bytes b t from r); exact h
  | flt b => obtain ⟨t, rfl⟩ := (show ∃ t, v = Value.float b t from r); exact h
  | ref a => obtain rfl : v = .ref a := r; exact h
  | ty n => obtain rfl : v = .type n := r; exact h
/-- an object of the class at C stands at p -/
def Own (H : Hp) (p C : Addr) : Prop := ∃ dx fs, H p = some (.ins C dx fs)
theorem own_inst {X : Cx} {pins : List (Addr × Obj)} {σ : L2.St} {H : Hp} {s : Shared} {p C : Addr} (I : Inv X pins σ H s) (h : Own H p C) : ∃ dx od, PySem.W.InstAt s.heap p (PySem.W.instObj C dx) C (some od) := by
  obtain ⟨dx, fs, e⟩ := h
  obtain ⟨mA, O, _⟩ := ins_get I.hok e
  obtain ⟨od, J, _⟩ := O.look
  exact ⟨dx, od, J⟩
def rOwn (C : Addr) (sp : Sp) (E : XK) : R2 := fun x y H Q => ∃ p q, x = .ref p ∧ y = .ref q ∧ Own H p C ∧ Own H q C ∧ sp [.ref p, .ref q] H Q E
/-- x op T, T a built-in type's value -/
def rOwnT (C : Addr) (sp : Sp) (E : XK) : R2 := fun x y H Q => ∃ p n, x = .ref p ∧ y = .int n ∧ Own H p C ∧ sp [.ref p, .int n] H Q E
def rUnO (C : Addr) (sp : Sp) (E : XK) : V → Hp → VK → Prop := fun x H Q => ∃ p, x = .ref p ∧ Own H p C ∧ sp [.ref p] H Q E
section
variable {X : Cx} {CX : CXT} {C : Addr} {k j : Nat} {m : Str} {ps : List Str} {sp : Sp} {E : XK} {op : Operator}
theorem op_own (D : Mm X.prog X.w X.K X.mg X.base CX C k m ps sp) (hr : Room j X.A) (hx : Passes CX X E) (sf : PySem.W.selfFirst X.K C = true) (hk : k ≤ j := by decide) (hm : m = PySem.dunder op.info.2 := by first | rfl | decide +kernel) : OpR X (binaryOp op) (rOwn C sp E) := by
  intro pins s σ H x y v u Q I rx ry h
  obtain ⟨p, q, rfl, rfl, hp, hq, hs⟩ := h
  obtain rfl : v = Value.ref p := rx
  obtain rfl : u = Value.ref q := ry
  obtain ⟨f, fd, F, mf, b⟩ := D.ex
  obtain ⟨dx, od, J⟩ := own_inst I hp
  obtain ⟨dy, oe, J2⟩ := own_inst I hq
  obtain ⟨m', fr⟩ := inv_fr I
  subst hm
  exact PySem.W.binop_K fr I.ok.mod.kin J J2.type sf mf.at_ mf.fn (wpAny_mono (run_fn (us := [.ref p, .ref q]) (vs := [.ref p, .ref q]) F (hr.mono hk) b .nil hx I (.cons rfl (.cons rfl .nil)) hs) (fun _ _ z => cmp_back z) fun _ _ z => z)
theorem ow_neg (D : Mm X.prog X.w X.K X.mg X.base CX C k "__neg__" ps sp) (hr : Room j X.A) (hx : Passes CX X E) (hk : k ≤ j := by decide) : UnR X (unaryOp .USub) (rUnO C sp E) := by
  intro pins s σ H x v Q I rx h
  obtain ⟨p, rfl, hp, hs⟩ := h
  obtain rfl : v = Value.ref p := rx
  obtain ⟨f, fd, F, mf, b⟩ := D.ex
  obtain ⟨dx, od, J⟩ := own_inst I hp
  obtain ⟨m', fr⟩ := inv_fr I
  exact PySem.W.ksp_neg fr I.ok.mod.kin J mf.at_ mf.fn (run_fn (us := [.ref p]) (vs := [.ref p]) F (hr.mono hk) b .nil hx I (.cons rfl .nil) hs)
theorem ow_pos (D : Mm X.prog X.w X.K X.mg X.base CX C k "__pos__" ps sp) (hr : Room j X.A) (hx : Passes CX X E) (hk : k ≤ j := by decide) : UnR X (unaryOp .UAdd) (rUnO C sp E) := by
  intro pins s σ H x v Q I rx h
  obtain ⟨p, rfl, hp, hs⟩ := h
  obtain rfl : v = Value.ref p := rx
  obtain ⟨f, fd, F, mf, b⟩ := D.ex
  obtain ⟨dx, od, J⟩ := own_inst I hp
  obtain ⟨m', fr⟩ := inv_fr I
  exact PySem.W.ksp_pos fr I.ok.mod.kin J mf.at_ mf.fn (run_fn (us := [.ref p]) (vs := [.ref p]) F (hr.mono hk) b .nil hx I (.cons rfl .nil) hs)
theorem ow_inv (D : Mm X.prog X.w X.K X.mg X.base CX C k "__invert__" ps sp) (hr : Room j X.A) (hx : Passes CX X E) (hk : k ≤ j := by decide) : UnR X (unaryOp .Invert) (rUnO C sp E) := by
  intro pins s σ H x v Q I rx h
  obtain ⟨p, rfl, hp, hs⟩ := h
  obtain rfl : v = Value.ref p := rx
  obtain ⟨f, fd, F, mf, b⟩ := D.ex
  obtain ⟨dx, od, J⟩ := own_inst I hp
  obtain ⟨m', fr⟩ := inv_fr I
  exact PySem.W.ksp_inv fr I.ok.mod.kin J mf.at_ mf.fn (run_fn (us := [.ref p]) (vs := [.ref p]) F (hr.mono hk) b .nil hx I (.cons rfl .nil) hs)
/-- x in y, y of the own class: __contains__ tells a truth value -/
def rInO (C : Addr) (sp : Sp) (E : XK) (neg : Bool) : R2 := fun x y H Q => ∃ p, y = .ref p ∧ Own H p C ∧ sp [.ref p, x] H (fun v H' => ∃ b, v = .bl b ∧ Q (.bl (b != neg)) H') E
theorem op_inO (D : Mm X.prog X.w X.K X.mg X.base CX C k "__contains__" ps sp) (hr : Room j X.A) (hx : Passes CX X E) (hk : k ≤ j := by decide) : OpR X (compareOp .In) (rInO C sp E false) := by
  intro pins s σ H x y v u Q I rx ry h
  obtain ⟨p, rfl, hp, hs⟩ := h
  obtain rfl : u = Value.ref p := ry
  obtain ⟨f, fd, F, mf, b⟩ := D.ex
  obtain ⟨dx, od, J⟩ := own_inst I hp
  obtain ⟨m', fr⟩ := inv_fr I
  refine PySem.W.in_K fr I.ok.mod.kin J mf.at_ mf.fn (wpAny_mono (run_fn (us := [.ref p, v]) (vs := [.ref p, x]) F (hr.mono hk) b .nil hx I (.cons rfl (.cons rx .nil)) hs) (fun r s' hz => ?_) fun _ _ z => z)
  obtain ⟨z, H', I', rz, t, rfl, q⟩ := hz
  obtain rfl : r = Value.bool t := rz
  refine wpAny_pure ?_
  exact ⟨.bl t, H', I', rfl, by simpa using q⟩
theorem op_notInO (D : Mm X.prog X.w X.K X.mg X.base CX C k "__contains__" ps sp) (hr : Room j X.A) (hx : Passes CX X E) (hk : k ≤ j := by decide) : OpR X (compareOp .NotIn) (rInO C sp E true) := by
  intro pins s σ H x y v u Q I rx ry h
  obtain ⟨p, rfl, hp, hs⟩ := h
  obtain rfl : u = Value.ref p := ry
  obtain ⟨f, fd, F, mf, b⟩ := D.ex
  obtain ⟨dx, od, J⟩ := own_inst I hp
  obtain ⟨m', fr⟩ := inv_fr I
  refine PySem.W.notIn_K fr I.ok.mod.kin J mf.at_ mf.fn (wpAny_mono (run_fn (us := [.ref p, v]) (vs := [.ref p, x]) F (hr.mono hk) b .nil hx I (.cons rfl (.cons rx .nil)) hs) (fun r s' hz => ?_) fun _ _ z => z)
  obtain ⟨z, H', I', rz, t, rfl, q⟩ := hz
  obtain rfl : r = Value.bool t := rz
  refine wpAny_pure ?_
  exact ⟨.bl (!t), H', I', rfl, by simpa using q⟩
/-- a call of an own def from within a built-in one -/
theorem run_in1 {f : Addr} {fd : FuncData} {pins : List (Addr × Obj)} {σ : L2.St} {H : Hp} {s : Shared} {Q : VK} {us : List Value} {vs : List V} (F : FnOk X.prog X.w X.K X.mg X.base CX k f fd ps sp) (hr : Room (k + 1) X.A) (hb : Binds X.K fd ps []) (hx : Passes CX X E)
    (I : Inv X pins σ H s) (r : Vals vs us) (h : sp vs H Q E) : wpAny (model X.prog X.w) X.A.in1 (call (.ref f) us) (EP X pins σ Q) X.xe s := by
  have hl : us.length = ps.length := by rw [← r.length]; exact F.len _ _ _ _ h
  refine wpAny_call (codeAny_mono (F.run X.A.in1 X.stack s H ⟨us, []⟩ us vs Q E hr.in1 I.env0.in1 (by
    have q := hb s us I.kIn (by rw [List.append_nil]; exact hl)
    rwa [List.append_nil] at q) r h) fun r s' hq => ?_)
  cases r with
  | error e => exact hx pins σ H s e s' I hq
  | ok fl =>
    cases fl with
    | ret u => exact I.after hq
    | next => exact False.elim hq
    | brk => exact False.elim hq
    | cont => exact False.elim hq
/-- len(x), x of the own class -/
def rLenO (C : Addr) (sp : Sp) (E : XK) : List V → Hp → VK → Prop := fun xs H Q => ∃ p, xs = [.ref p] ∧ Own H p C ∧ sp [.ref p] H (fun v H' => ∃ n : Nat, v = .int n ∧ n < 2 ^ 63 ∧ Q (.int n) H') E
theorem call_lenO (D : Mm X.prog X.w X.K X.mg X.base CX C k "__len__" ps sp) (hr : Room j X.A) (hx : Passes CX X E) (hk : k + 1 ≤ j := by decide) : CallR X (.builtin "len") (rLenO C sp E) := by
  intro pins s σ H xs us Q I r h
  obtain ⟨p, rfl, hp, hs⟩ := h
  obtain ⟨u, rfl, rx⟩ := vals1 r
  obtain rfl : u = Value.ref p := rx
  obtain ⟨f, fd, F, mf, b⟩ := D.ex
  obtain ⟨dx, od, J⟩ := own_inst I hp
  obtain ⟨m', fr⟩ := inv_fr I
  refine PySem.W.len_K fr I.ok.mod.kin J mf.at_ mf.fn (wpAny_mono (run_in1 (us := [.ref p]) (vs := [.ref p]) F (hr.mono hk) b hx I (.cons rfl .nil) hs) (fun r s' hz => ?_) fun _ _ z => z)
  obtain ⟨z, H', I', rz, n, rfl, hn, q⟩ := hz
  obtain ⟨t, rfl⟩ := (show ∃ t, r = Value.int n t from rz)
  refine ⟨⟨by omega, by omega⟩, .int n, H', I'.kept (t' := s'.toks + 1) fun _ _ z => z, ⟨_, rfl⟩, q⟩
/-- C(e, ..) by the class's own __init__ -/
structure NewD (P : Program) (w : World) (K : PySem.W.Frag) (mg : Str → Option Value) (base : Heap) (CX : CXT) (C : Addr) (k : Nat) (x : Str) (ps : List Str) (sp : Sp) : Prop where
  ex : ∃ (f : Addr) (fd : FuncData), Mk K C f ∧ FnOk P w K mg base CX k f fd ps sp ∧ mg x = some (.ref C) ∧ Binds K fd ps []
theorem pe_mk {x : Str} {p pos : Pos} {e : Expr} {es : List Expr} {t : TA} (D : NewD X.prog X.w X.K X.mg X.base CX C k x ps sp) (hr : Room j X.A) (hx : Passes CX X E) (ha : PA X (e :: es) t) (hk : k + 1 ≤ j := by decide) (hg : Gl X x := by rfl) (hdb : (x == ("__debug__" : Str)) = false := by decide)
    (he : starEach (e :: es) X.env = (false, eval e X.env) :: starEach es X.env := by rfl) (hpl : (backTo pos (starEach es X.env)).any (·.1) = false := by rfl) : PE X (.Call (.Name x p) (e :: es) [] pos) (tMake C sp [] E t) := by
  obtain ⟨f, fd, M, F, mx, b⟩ := D.ex
  exact pe_make M F (hr.mono hk) hg mx b .nil hx ha hdb he hpl
/-- a suite that is never reached -/
def tNo : TS := fun _ _ _ => False
theorem pss_no {ss : List Stmt} : PSs X ss tNo := ⟨fun _ _ _ _ _ _ h => h.elim⟩
end
end Ss
namespace Ss
open PySem L2 PyProof.Rows
/-! ### classes of one's own, read and called by their names -/
/-- the class at C may be read under the name x -/
structure ClsRd (K : PySem.W.Frag) (mg : Str → Option Value) (x : Str) (C : Addr) : Prop where
  mg : mg x = some (.ref C)
  rd : PySem.W.readsIn K C (.type "type") = true
  ga : PySem.W.specialIn K (.ref C) "__getattribute__" = some (some (.builtin "type.__getattribute__"))
section
variable {X : Cx} {CX : CXT} {C f : Addr} {k j : Nat} {x m : Str} {ps : List Str} {sp : Sp} {E : XK} {o e : Expr} {es : List Expr} {ta : TA} {p p1 p2 pos : Pos}
/-- x.m(e, ..), x a class: its def -/
theorem pe_clsfn {pl : Sem Bool} (R : ClsRd X.K X.mg x C) (F : FnR X.prog X.w X.K X.mg X.base CX k f sp) (v : PySem.W.findCls X.K (.ref C) (.type "type") m = some (.val (.ref f))) (kp : PySem.W.keepIn X.K (.ref f) = true) (hr : Room j X.A) (hx : Passes CX X E) (ha : PA X (e :: es) ta) (hk : k ≤ j := by decide)
    (hg : Gl X x := by rfl) (hdb : (x == ("__debug__" : Str)) = false := by decide)
    (hc : eval (.Call (.Attribute (.Name x p1) m p2) (e :: es) [] pos) X.env = (do
      let ov ← eval (.Name x p1) X.env
      standAt p2.atName
      let (f, first) ← holding [ov] (getMethod ov m pl)
      callWith pos f first (backTo pos (starEach (e :: es) X.env)) (backToKw pos (keywordEach [] X.env))) := by rfl)
    (he : starEach (e :: es) X.env = (false, eval e X.env) :: starEach es X.env := by rfl) (hpl : (backTo pos (starEach es X.env)).any (·.1) = false := by rfl) :
    PE X (.Call (.Attribute (.Name x p1) m p2) (e :: es) [] pos) (fun σ H Q => ta σ H fun vs H1 => sp vs H1 Q E) := by
  refine ⟨fun pins s σ H Q I h => PySem.W.methodCall_KW (ld_glob I hg R.mg ?_ hdb) hc⟩
  refine PySem.W.method_cls I.kIn R.ga (PySem.W.cls_value I.kIn R.rd v rfl ?_)
  have I2 := I.tok (s.toks + 1)
  exact PySem.W.callWith_K (h₀ := X.base) I2.ok.mod.kin kp (thn (ha.run pos pins _ σ H _ I2 h) fun us s1 ⟨vs, H1, I1, r, q⟩ => ⟨I1.kIn, wpAny_call (run_fnR (us := us) (vs := vs) F (hr.mono hk) hx I1 r q)⟩) he hpl
/-- x.f, x a class: a constant of it -/
theorem pe_clscon {v : V} {u : Value} {f : Str} (R : ClsRd X.K X.mg x C) (vv : PySem.W.findCls X.K (.ref C) (.type "type") f = some (.val u)) (rv : RelV v u) (hh : PySem.W.handedIn u = true) (hg : Gl X x := by rfl) (hdb : (x == ("__debug__" : Str)) = false := by decide)
    (hb : attributeBase (.Name x p1) f X.env (eval (.Name x p1) X.env) = eval (.Name x p1) X.env := by rfl) : PE X (.Attribute (.Name x p1) f pos) (tC v) := by
  refine ⟨fun pins s σ H Q I h => ?_⟩
  refine attr_of hb (ld_glob I hg R.mg ?_ hdb)
  exact PySem.W.cls_value I.kIn R.rd vv hh ⟨v, H, I.tok _, rv, h⟩
/-- str(o) by the own __str__ -/
def rStrO (C : Addr) (sp : Sp) (E : XK) : List V → Hp → VK → Prop := fun xs H Q => ∃ p, xs = [.ref p] ∧ Own H p C ∧ sp [.ref p] H (fun v H' => ∃ z, v = .str z ∧ Q (.str z) H') E
theorem call_strO (D : Mm X.prog X.w X.K X.mg X.base CX C k "__str__" ps sp) (hr : Room j X.A) (hx : Passes CX X E) (hk : k + 2 ≤ j := by decide) : CallR X (.type "str") (rStrO C sp E) := by
  intro pins s σ H xs us Q I r h
  obtain ⟨p, rfl, hp, hs⟩ := h
  cases r with
  | @cons _ u _ ur r1 r2 =>
    cases r2
    obtain rfl : u = Value.ref p := r1
    obtain ⟨f, fd, F, mf, b⟩ := D.ex
    obtain ⟨dx, od, J⟩ := own_inst I hp
    have hr2 : Room (k + 2) X.A := hr.mono hk
    have hl := F.len _ _ _ _ hs
    refine PySem.W.kso_call hr2.in1.in1.units0 I.kIn J mf.at_ mf.fn ?_
    refine wpAny_call (codeAny_mono (F.run X.A.in1.in1 X.stack s H ⟨[.ref p], []⟩ [.ref p] [.ref p] _ E hr2.in1.in1 I.env0.in1.in1 (by
      have q := b s [.ref p] I.kIn (by rw [List.append_nil]; exact hl)
      rwa [List.append_nil] at q) (.cons rfl .nil) hs) fun r s' hq => ?_)
    cases r with
    | error e => exact hx pins σ H s e s' I hq
    | ok fl =>
      cases fl with
      | ret u =>
        obtain ⟨v, H', I', rv, z, rfl, q⟩ := I.after hq
        obtain ⟨t, rfl⟩ := (show ∃ t, u = Value.str z t from rv)
        exact ⟨.str z, H', I', ⟨t, rfl⟩, q⟩
      | next => exact False.elim hq
      | brk => exact False.elim hq
      | cont => exact False.elim hq
/-- what the right side of an == may be: one of a class, or a tuple -/
def tyLook (h : Heap) (u : Value) (t : Value) : Prop := ∀ M : Model, PySem.W.Looks M h (typeOf u) t
/-- x == y by the own __eq__ of x, y of a type that is not below it -/
def rEqO (K : PySem.W.Frag) (C : Addr) (sp : Sp) (E : XK) : R2 := fun x y H Q => ∃ p, x = .ref p ∧ Own H p C ∧
  ((∃ q D, y = .ref q ∧ Own H q D ∧ PySem.W.notFirst K C (.ref D) = true) ∨ (∃ q xs, y = .ref q ∧ SqT K H q xs ∧ PySem.W.notFirst K C (.type "tuple") = true)) ∧ sp [.ref p, y] H (fun v H' => ∃ b, v = .bl b ∧ Q (.bl b) H') E
theorem tup_look {M : Model} {h : Heap} {a : Addr} {items : Array Value} (t : PyProof.Rows.IsTup h a items) : PySem.W.Looks M h (typeOf (.ref a)) (.type "tuple") := by
  obtain ⟨o, ho, hc, _⟩ := t
  exact hc ▸ (PySem.W.Looks.ld ho).andThen .now
theorem op_eqO (D : Mm X.prog X.w X.K X.mg X.base CX C k "__eq__" ps sp) (hr : Room j X.A) (hx : Passes CX X E) (hk : k ≤ j := by decide) : OpR X (compareOp .Eq) (rEqO X.K C sp E) := by
  intro pins s σ H x y v u Q I rx ry h
  obtain ⟨p, rfl, hp, hy, hs⟩ := h
  obtain rfl : v = Value.ref p := rx
  obtain ⟨f, fd, F, mf, b⟩ := D.ex
  obtain ⟨dx, od, J⟩ := own_inst I hp
  obtain ⟨m', fr⟩ := inv_fr I
  have look : ∃ t, PySem.W.Looks (model X.prog X.w) s.heap (typeOf u) t ∧ PySem.W.notFirst X.K C t = true := by
    rcases hy with ⟨q, D, rfl, hq, nf⟩ | ⟨q, xs, rfl, hq, nf⟩
    · obtain rfl : u = Value.ref q := ry
      obtain ⟨dy, oe, J2⟩ := own_inst I hq
      exact ⟨_, J2.type, nf⟩
    · obtain rfl : u = Value.ref q := ry
      obtain ⟨its, r, ht, hz⟩ := I.tuple hq
      exact ⟨_, tup_look ht, nf⟩
  obtain ⟨t, lt, nf⟩ := look
  show wpAny (model X.prog X.w) X.A (richCompare .Eq (.ref p) u) (EP X pins σ Q) X.xe s
  refine PySem.W.cmp_K (op := .Eq) (tb := t) hr.units0 fr I.ok.mod.kin J lt nf mf.at_ mf.fn (wpAny_mono (run_fn (us := [.ref p, u]) (vs := [.ref p, y]) F (hr.mono hk) b .nil hx I (.cons rfl (.cons ry .nil)) hs) (fun r s' hz => ?_) fun _ _ z => z)
  obtain ⟨z, H', I', rz, c, rfl, q⟩ := hz
  obtain rfl : r = Value.bool c := rz
  exact ⟨.bl c, H', I', rfl, q⟩
end
end Ss
namespace PySem
namespace SsE
open PySem.W PySem.Calls PyProof.Rows PySem.HandSPX
section
variable {M : Model} {A : Around} {E : Value → Shared → Prop} {h : Heap} {g : Array GenState} {d : Drawn} {t : Nat} {os : OsState}
variable {nm q : Str} {C N : Addr} {bs bm bmB : List Value} {hdct : Bool} {sn : List Str} {sub : List Value} {ab : Bool} {col : Option Bool} {dd : Option Addr} {k0 k1 k2 k3 k5 : Option Value} {B newId initId : String}
/-- the look ahead of the maker, with keywords -/
theorem new_look (F : ExcBaseFacts B newId initId bmB) (hT : ∀ X : String, bm.contains (.type X) = bmB.contains (.type X)) {rest : List Value} {kw : List (Str × Value)} {Q : Unit → Shared → Prop}
    (hC : h.get? C = some (excClassObj nm q C N bs bm hdct sn sub ab col dd k0 k1 k2 k3 k5 newId)) (hq : Q () ⟨h, g, d, t, os⟩) : wpAny M A (checkBuiltinCall newId ⟨.ref C :: rest, kw⟩) Q E ⟨h, g, d, t, os⟩ := by
  have e1 : (Value.ref C :: bm).contains (.type B) = true := by rw [List.contains_cons, hT, F.hasB, Bool.or_true]
  have e2 := F.noStar
  simp only [checkBuiltinCall, F.newKind, F.newSplit, F.newRow]
  repeat (first | refine wpAny_loadPart_at hC ?_ | (refine wpAny_isSubtype_exc hC ?_; rw [e1]) | refine wpAny_staticBase_exc hC ?_ | refine wpAny_madeBy_exc hC ?_ | simp only [bne_self_eq_false, Bool.false_eq_true, if_false] | wp_step)
  exact hq
end
section
variable {prog : Program} {w : World} {A : Around} {E : Value → Shared → Prop} {R : Result → Shared → Prop} {h : Heap} {g : Array GenState} {d : Drawn} {t : Nat} {os : OsState}
variable {nm q : Str} {C N : Addr} {bs bm bmB : List Value} {hdct : Bool} {sn : List Str} {sub : List Value} {ab : Bool} {col : Option Bool} {dd : Option Addr} {k0 k1 k2 k3 k5 : Option Value} {B newId initId : String}
theorem new_kw (F : ExcBaseFacts B newId initId bmB) (hT : ∀ X : String, bm.contains (.type X) = bmB.contains (.type X)) {rest : List Value} {kw : List (Str × Value)}
    (hC : h.get? C = some (excClassObj nm q C N bs bm hdct sn sub ab col dd k0 k1 k2 k3 k5 newId))
    (hq : R (.ok (.ret (.ref (h.objs.size + 1)))) ⟨(h.push (W.kdv_tup rest)).push (excO C h.objs.size), g, d, t, os⟩) (hrest : rest.length ≤ sizeLine) :
    codeAny (model prog w) A (.builtin newId ⟨.ref C :: rest, kw⟩) R ⟨h, g, d, t, os⟩ := by
  have e0 := F.ends
  have e1 : (Value.ref C :: bm).contains (.type B) = true := by rw [List.contains_cons, hT, F.hasB, Bool.or_true]
  have e2 : (Value.ref C :: bm).contains (.type "AttributeError") = false := by rw [List.contains_cons, hT, F.noAttr]; rfl
  have e3 : (Value.ref C :: bm).contains (.type "NameError") = false := by rw [List.contains_cons, hT, F.noName]; rfl
  refine codeAny_builtinAt F.entry ?_
  unfold Builtin.«BaseException.__new__»
  refine wpAt_bind ?_
  show wpAt _ _ _ (stack >>= _) _ _ _
  refine wpAt_bind (wpAt_stack fun p below => wpAt_of_wpAny ?_)
  wp_walk
  refine wpAt_of_wpAny ?_
  rw [F.owner]
  repeat (first | with_reducible refine wpAny_madeHere_exc F.canon hC ?_ | with_reducible refine wpAny_loadPart_at hC ?_ | (with_reducible refine wpAny_isSubtype_exc hC ?_; first | rw [e1] | rw [e2] | rw [e3]) | wp_step)
  show R _ _
  rw [Heap.size_push]
  exact hq
theorem type_call_kw (F : ExcBaseFacts B newId initId bmB) (hT : ∀ X : String, bm.contains (.type X) = bmB.contains (.type X)) {rest : List Value} {kw : List (Str × Value)} {fI : Addr} {Q : Fin → Shared → Prop}
    (hC : h.get? C = some (excClassObj nm q C N bs bm hdct sn sub ab col dd k0 k1 k2 k3 k5 newId))
    (hi : W.Looks (model prog w) h (typeLookup (.ref C) "__init__") (some (.ref fI))) (hb : ∀ self, W.Looks (model prog w) h (bindSpecial (.ref fI) self) (.ref fI, [self])) (hrest : rest.length ≤ sizeLine)
    (hq : codeAny (model prog w) A (.call (.ref fI) ⟨.ref (h.objs.size + 1) :: rest, kw⟩)
      (fun r s' => match r with | .ok (.ret v) => v = .none ∧ Q (.done (.ret (.ref (h.objs.size + 1)))) s' | .ok _ => False | .error e => E e s')
      ⟨(h.push (W.kdv_tup rest)).push (excO C h.objs.size), g, d, t, os⟩) :
    wpAny (model prog w) A (Builtin.«type.__call__» ⟨.ref C :: rest, kw⟩) Q E ⟨h, g, d, t, os⟩ := by
  repeat (first | with_reducible refine wpAny_loadPart_at hC ?_ | with_reducible refine wpAny_madeBy_exc hC ?_ | wp_step)
  refine codeAny_call_builtin_code (Code.quiet_builtin _ F.quiet) (new_look F hT hC ?_)
  refine new_kw F hT hC ?_ hrest
  show wpAny _ _ _ _ _ _
  have k : ∀ b o, h.get? b = some o → ((h.push (W.kdv_tup rest)).push (excO C h.objs.size)).get? b = some o := fun b o e => Heap.get?_push_of_some _ (Heap.get?_push_of_some _ e)
  have c1 := k _ _ hC
  have hget : ((h.push (W.kdv_tup rest)).push (excO C h.objs.size)).get? (h.objs.size + 1) = some (excO C h.objs.size) := by heap_get
  have c2 : (Value.ref C :: bm).contains (.ref C) = true := by simp
  have i1 := hi.keeps k
  have b1 := (hb (.ref (h.objs.size + 1))).keeps k
  unfold isInstance
  repeat (first | with_reducible refine wpAny_loadPart_at hget ?_ | (with_reducible refine wpAny_isSubtype_exc c1 ?_; rw [c2]) | wp_step)
  show wpAny _ _ (typeLookup (.ref C) _) _ _ _
  refine i1.at ?_
  refine wpAny_holding (wpAny_bind (b1.at ?_))
  refine wpAny_bind (wpAny_call (codeAny_mono hq fun r s' z => ?_))
  rcases r with e | (v | _ | _ | _) <;> first | exact z | exact z.elim | skip
  obtain ⟨rfl, z⟩ := z
  first
    | exact wpAny_pure (wpAny_pure z)
    | (wp_walk; exact z)
theorem call_kw (F : ExcBaseFacts B newId initId bmB) (hT : ∀ X : String, bm.contains (.type X) = bmB.contains (.type X)) {rest : List Value} {kw : List (Str × Value)} {fI : Addr}
    (hC : h.get? C = some (excClassObj nm q C N bs bm hdct sn sub ab col dd k0 k1 k2 k3 k5 newId))
    (hi : W.Looks (model prog w) h (typeLookup (.ref C) "__init__") (some (.ref fI))) (hb : ∀ self, W.Looks (model prog w) h (bindSpecial (.ref fI) self) (.ref fI, [self])) (hrest : rest.length ≤ sizeLine)
    (hq : codeAny (model prog w) (A.under (.builtin "type.__call__" ⟨.ref C :: rest, kw⟩)) (.call (.ref fI) ⟨.ref (h.objs.size + 1) :: rest, kw⟩) (W.InitBack (h.objs.size + 1) R)
      ⟨(h.push (W.kdv_tup rest)).push (excO C h.objs.size), g, d, t, os⟩) :
    codeAny (model prog w) A (.call (.ref C) ⟨rest, kw⟩) R ⟨h, g, d, t, os⟩ := by
  have f1 := tc_lookup
  have f2 := tc_bind (.ref C)
  have hTy : (⟨h, g, d, t, os⟩ : Shared).TypeIs (.ref C) "type" := ⟨_, hC, rfl⟩
  refine codeAny_of_tree ?_
  show wpAny _ _ (callAny (.ref C) _) _ _ _
  repeat (any_goals (first | assumption | with_reducible refine wpAny_loadPart_at hC ?_ | wp_step))
  refine ⟨rfl, ?_⟩
  refine codeAny_call_builtin_at (Code.quiet_builtin _ (by decide +kernel)) entry_typeCall (wpAny_check_type_call_sub hC (type_call_kw F hT hC hi hb hrest ?_))
  refine codeAny_mono hq fun r s' z => ?_
  rcases r with e | (v | _ | _ | _) <;> exact z
end
end SsE
end PySem
namespace PySem
namespace SsE
open PySem.W PySem.Calls PyProof.Rows PySem.HandSPX
/-- what is asked of the order of an error's classes -/
structure Order (l : List Value) : Prop where
  pass : ∀ self, refuseLoop self "__setattr__" l = pure ()
  obj : l.contains (.type "object") = true
  ne : l.isEmpty = false
theorem Order.cons {l : List Value} (o : Order l) (C : Addr) : Order (.ref C :: l) :=
  ⟨fun self => by rw [refuseLoop_ref]; exact o.pass self, by rw [List.contains_cons, o.obj, Bool.or_true], rfl⟩
theorem order_VE : Order [.type "ValueError", .type "Exception", .type "BaseException", .type "object"] := ⟨F.store_ValueError.passes, by decide +kernel, rfl⟩
theorem order_LE : Order [.type "LookupError", .type "Exception", .type "BaseException", .type "object"] := ⟨F.store_LookupError.passes, by decide +kernel, rfl⟩
theorem order_RE : Order [.type "RuntimeError", .type "Exception", .type "BaseException", .type "object"] := ⟨F.store_RuntimeError.passes, by decide +kernel, rfl⟩
section
open Builtin Builtin.ObjectAttr
variable {prog : Program} {w : World} {A : Around} {R : Result → Shared → Prop} {hp : Heap} {g : Array GenState} {d : Drawn} {t : Nat} {os : OsState}
/-- the first field of an error -/
theorem osa_first {K : Frag} {name : Str} {tk : Tok} {v : Value} {x C : Addr} {fv : Array Value} {cd : ClassData}
    (X : K.In hp) (hx : hp.get? x = some { cls := .ref C, data := .fields fv }) (hcd : clsIn K C = some cd) (hm : Order cd.mro) (hh : cd.hasDict = true) (ha : findIn K (.ref C) name = some none)
    (hq : ∀ h' tk' dx, (∀ b o, b ≠ x → hp.get? b = some o → h'.get? b = some o) → hp.objs.size ≤ dx → dx ≠ x → h'.get? x = some { cls := .ref C, dict := some dx, data := .fields fv } →
      h'.Ns1 dx (fun y => if y = name then some v else none) → R (.ok (.ret .none)) ⟨h', g, d, tk', os⟩) :
    codeAny (model prog w) A (.call (.builtin "object.__setattr__") ⟨[.ref x, .str name tk, v], []⟩) R ⟨hp, g, d, t, os⟩ := by
  have I : InstAt hp x { cls := .ref C, data := .fields fv } C none := ⟨hx, rfl, rfl, trivial⟩
  have SF := F.store_object
  have hxs : x ≠ hp.objs.size := Nat.ne_of_lt (Heap.lt_size hx)
  have sub : Looks (model prog w) hp (isInstance (.ref x) (.type "object")) true := I.type.andThen (looks_mroIn X (by unfold mroIn; rw [hcd, Option.bind_some, if_neg (by rw [hm.ne]; decide), hm.obj]))
  refine codeAny_call_builtin SF.slot.plain SF.entry (@check_slot (model prog w) _ _ ⟨hp, g, d, t, os⟩ "object.__setattr__" "object" "__setattr__" (.ref x) [.str name tk, v] [] _ SF.kind SF.split sub (SF.args (.ref x) (.str name tk) v) ?_)
  have hmr : Looks (model prog w) hp (mroOf (.ref C)) cd.mro := (looks_clsIn X hcd).andThen .now
  have l3 : Looks (model prog w) hp (storeTaker? none) none := .now
  have hcls : Looks (model prog w) hp (classData C) cd := looks_clsIn X hcd
  rw [osa_eq, refuse_eq]
  refine wpAny_bind (wpAny_bind (I.type.at (wpAny_bind (hmr.at ?_))))
  rw [hm.pass]
  refine wpAny_pure (wpAny_bind (I.type.at (wpAny_bind ((looks_findIn X ha).at (wpAny_bind (l3.at ?_))))))
  show wpAny _ _ (storeInOwnDict (.ref x) (.ref C) (.str name tk) name v false) _ _ _
  obtain ⟨nm, bs, mro, ns, qn, hd, sn, sb, ab, col, del⟩ := cd
  dsimp only at hh
  subst hh
  unfold storeInOwnDict ownDictForStores
  repeat (first | with_reducible refine store_in_new ?_ ?_ | with_reducible refine wpAny_loadPart_at hx ?_ | with_reducible refine hcls.at ?_ | wp_step)
  · exact ⟨_, #[], _, (Heap.get?_update_ne _ _ _ _ hxs.symm).trans (Heap.get?_push_at rfl rfl), rfl, fun e he => absurd he (by simp), fun _ => rfl⟩
  · intro h' tk' hn' hs
    have hx1 : (hp.push { cls := .type "dict", data := .dict #[] }).get? x = some { cls := .ref C, data := .fields fv } := Heap.get?_push_of_some _ hx
    refine hq h' tk' hp.objs.size (fun b o hb ho => ?_) (Nat.le_refl _) hxs.symm ?_ hn'
    · exact (hs.2 b (Nat.ne_of_lt (Heap.lt_size ho))).trans ((Heap.get?_update_ne _ _ _ _ hb).trans (Heap.get?_push_of_some _ ho))
    · exact (hs.2 x hxs).trans (Heap.get?_update_self _ hx1 rfl)
/-- a further field -/
theorem osa_more {K : Frag} {name : Str} {tk : Tok} {v : Value} {x C dx : Addr} {fv : Array Value} {cd : ClassData} {m0 : Str → Option Value} {nl : List Str}
    (X : K.In hp) (hx : hp.get? x = some { cls := .ref C, dict := some dx, data := .fields fv }) (hns : hp.Ns1 dx m0) (hw : Within m0 nl) (hz : nl.length ≤ 1000) (hcd : clsIn K C = some cd) (hm : Order cd.mro) (hh : cd.hasDict = true)
    (ha : findIn K (.ref C) name = some none)
    (hq : ∀ h' tk', (∀ b o, b ≠ dx → hp.get? b = some o → h'.get? b = some o) → h'.Ns1 dx (fun y => if y = name then some v else m0 y) → R (.ok (.ret .none)) ⟨h', g, d, tk', os⟩) :
    codeAny (model prog w) A (.call (.builtin "object.__setattr__") ⟨[.ref x, .str name tk, v], []⟩) R ⟨hp, g, d, t, os⟩ := by
  obtain ⟨oD, esD, epD, hoD, hdD, _⟩ := hns.count hw
  have I : InstAt hp x { cls := .ref C, dict := some dx, data := .fields fv } C (some oD) := ⟨hx, rfl, rfl, hoD⟩
  have SF := F.store_object
  have sub : Looks (model prog w) hp (isInstance (.ref x) (.type "object")) true := I.type.andThen (looks_mroIn X (by unfold mroIn; rw [hcd, Option.bind_some, if_neg (by rw [hm.ne]; decide), hm.obj]))
  refine codeAny_call_builtin SF.slot.plain SF.entry (@check_slot (model prog w) _ _ ⟨hp, g, d, t, os⟩ "object.__setattr__" "object" "__setattr__" (.ref x) [.str name tk, v] [] _ SF.kind SF.split sub (SF.args (.ref x) (.str name tk) v) ?_)
  have hmr : Looks (model prog w) hp (mroOf (.ref C)) cd.mro := (looks_clsIn X hcd).andThen .now
  have l3 : Looks (model prog w) hp (storeTaker? none) none := .now
  have hcls : Looks (model prog w) hp (classData C) cd := looks_clsIn X hcd
  rw [osa_eq, refuse_eq]
  refine wpAny_bind (wpAny_bind (I.type.at (wpAny_bind (hmr.at ?_))))
  rw [hm.pass]
  refine wpAny_pure (wpAny_bind (I.type.at (wpAny_bind ((looks_findIn X ha).at (wpAny_bind (l3.at ?_))))))
  show wpAny _ _ (storeInOwnDict (.ref x) (.ref C) (.str name tk) name v false) _ _ _
  obtain ⟨nm, bs, mro, ns, qn, hd, sn, sb, ab, col, del⟩ := cd
  dsimp only at hh
  subst hh
  unfold storeInOwnDict ownDictForStores
  repeat (first | with_reducible refine OEX.store_in_old hns hw hz ?_ | with_reducible refine wpAny_loadPart_at hx ?_ | with_reducible refine hcls.at ?_ | wp_step)
  intro h' tk' hn' hs
  exact hq h' tk' (fun b o hb ho => (hs.2 b hb).trans ho) hn'
end
end SsE
end PySem
namespace Ss
open PySem L2 PySem.Spec PyProof.Rows
/-- an error class of the text at C; its built-in base's __init__ is ini -/
structure EC (K : PySem.W.Frag) (C : Addr) (ini : String) : Prop where
  cls : ∃ B newId bmB nm q N bs bm sn sub ab col dd k0 k1 k2 k3 k5, ExcBaseFacts B newId ini bmB ∧ K.lookup C = some (excClassObj nm q C N bs bm true sn sub ab col dd k0 k1 k2 k3 k5 newId) ∧
    (∀ Y : String, bm.contains (.type Y) = bmB.contains (.type Y)) ∧ SsE.Order bm
  sa : PySem.W.findIn K (.ref C) "__setattr__" = some (some (.builtin "object.__setattr__"))
  ga : PySem.W.findIn K (.ref C) "__getattribute__" = some (some (.builtin "BaseException.__getattribute__"))
  gg : PySem.W.findIn K (.ref C) "__getattr__" = some none
  exC : PySem.W.subIn K (.ref C) (.type "BaseException") = some true
  tyC : PySem.W.typeIn K (.ref C) = some (.type "type")
  hdC : PySem.W.hasDictIn K C = true
  kC : PySem.W.keepIn K (.ref C) = true
  ha : PySem.W.findIn K (.ref C) "__class__" = some (some (.builtin "object.__class__"))
  hn : PySem.W.specialIn K (.builtin "object.__class__") "__get__" = some (some (.builtin "getset_descriptor.__get__"))
  ht : PySem.W.takesIn K (.builtin "object.__class__") = some true
  hm : PySem.W.mroIn K C (.type "object") = some true
section
variable {X : Cx} {pins : List (Addr × Obj)} {σ : L2.St} {H : Hp} {s : Shared} {a C dx : Addr} {f : Str} {y : V} {u : Value} {fs : List (Str × V)} {A : Around} {ini : String}
/-- self.f = y, the first one -/
theorem est_new {Q : Unit → Shared → Prop} {E : Value → Shared → Prop} (T : EC X.K C ini) (I : Inv X pins σ H s) (e : H a = some (exo a C none)) (hno : PySem.W.findIn X.K (.ref C) f = some none) (ry : RelV y u)
    (h : ∀ dx s', H dx = none → dx ≠ a → Inv X pins σ (upd (upd H dx (exd dx [(f, y)])) a (exo a C (some dx))) s' → Q () s') : wpAny (model X.prog X.w) A (setAttr (.ref a) f u) Q E s := by
  obtain ⟨B, newId, bmB, nm, q, N, bs, bm, sn, sub, ab, col, dd, k0, k1, k2, k3, k5, F, hC, hT, hbm⟩ := T.cls
  have hcl : PySem.W.clsIn X.K C = some { name := nm, bases := bs, mro := .ref C :: bm, ns := N, qualname := q, hasDict := true, slotNames := sn, subclasses := sub, abstract := ab, collection := col, hasDel := false } := by unfold PySem.W.clsIn; rw [hC] <;> rfl
  obtain ⟨t1, ho⟩ := exo_at I.hok e
  obtain ⟨hp, g, d, t, os⟩ := s
  refine PySem.W.set_plain I.kIn (ox := { cls := .ref C, dict := none, data := .fields #[.ref t1, .none, .none, .none, .bool false, .none] }) (od := none) ⟨ho, rfl, rfl, trivial⟩ T.sa ?_
  refine SsE.osa_first I.kIn ho hcl (hbm.cons C) rfl hno (fun h' tk' dx k dn dne hx hn => ?_)
  have hnd : H dx = none := I.hok.fresh dn
  have nd : ∀ {b : Addr} {o : Obj}, hp.get? b = some o → b ≠ dx := fun {b o} q => Nat.ne_of_lt (Nat.lt_of_lt_of_le (Heap.lt_size q) dn)
  have na : ∀ {b : Addr}, H b = none → b ≠ a := fun {b} n z => by
    rw [z, e] at n
    cases n
  have Un1 : Un X.fs [] H (upd (upd H dx (exd dx [(f, y)])) a (exo a C (some dx))) hp h' := {
    keep := fun b o q n _ _ => k b o (na n) q
    slot := fun b o q n _ _ => ⟨o.slots, k b o (na n) q⟩
    free := fun b o q n _ => by rw [upd_ne (na n), upd_ne (nd q)]; exact n
    there := fun b o q _ => by
      by_cases hb : b = a
      · exact ⟨_, by rw [hb]; exact hx⟩
      · exact ⟨o, k b o hb q⟩
    tups := fun b xs q => by rw [upd_ne (at_ne e q exo_tup), upd_ne (ne_of_none q hnd)]; exact q
    frzs := fun b o v q => by rw [upd_ne (at_ne e q exo_frz), upd_ne (ne_of_none q hnd)]; exact q
    tbls := fun b ps q => ⟨#[], by rw [upd_ne (at_ne e q exo_tbl), upd_ne (ne_of_none q hnd), q]; simp⟩ }
  refine h dx _ hnd dne (I.un (t' := tk') Un1 fun b o q => ?_)
  by_cases hb : b = a
  · subst hb
    rw [upd_same] at q
    cases q
    exact exo_ok hx
  · rw [upd_ne hb] at q
    by_cases hd : b = dx
    · subst hd
      rw [upd_same] at q
      cases q
      exact exd_ok hn (relO_put (fs := []) ry fun g => True.intro)
    · rw [upd_ne hd] at q
      exact (I.hok b o q).stay (fun c v hc z => k c v (by
          rcases hc with hc | hc
          · rw [hc]
            exact hb
          · exact at_ne e hc exo_own) z)
        (fun c hc => by rw [upd_ne (at_ne e hc exo_own), upd_ne (ne_of_none hc hnd)]; exact hc) (fun c xs hc => by rw [upd_ne (at_ne e hc exo_tup), upd_ne (ne_of_none hc hnd)]; exact hc)
/-- self.f = y, a further one -/
theorem est_old {Q : Unit → Shared → Prop} {E : Value → Shared → Prop} (T : EC X.K C ini) (I : Inv X pins σ H s) (e : H a = some (exo a C (some dx))) (ed : H dx = some (exd dx fs)) (hl : fs.length ≤ 900) (hno : PySem.W.findIn X.K (.ref C) f = some none) (ry : RelV y u)
    (h : ∀ s', Inv X pins σ (upd H dx (exd dx ((f, y) :: fs))) s' → Q () s') : wpAny (model X.prog X.w) A (setAttr (.ref a) f u) Q E s := by
  obtain ⟨B, newId, bmB, nm, q, N, bs, bm, sn, sub, ab, col, dd, k0, k1, k2, k3, k5, F, hC, hT, hbm⟩ := T.cls
  have hcl : PySem.W.clsIn X.K C = some { name := nm, bases := bs, mro := .ref C :: bm, ns := N, qualname := q, hasDict := true, slotNames := sn, subclasses := sub, abstract := ab, collection := col, hasDel := false } := by unfold PySem.W.clsIn; rw [hC] <;> rfl
  obtain ⟨t1, ho⟩ := exo_at I.hok e
  obtain ⟨mA, hns, rel⟩ := exd_at I.hok ed
  have hw := within_of rel
  obtain ⟨hp, g, d, t, os⟩ := s
  obtain ⟨oD, _, _, hoD, _, _⟩ := hns.count hw
  refine PySem.W.set_plain I.kIn (ox := { cls := .ref C, dict := some dx, data := .fields #[.ref t1, .none, .none, .none, .bool false, .none] }) (od := some oD) ⟨ho, rfl, rfl, hoD⟩ T.sa ?_
  refine SsE.osa_more I.kIn ho hns hw (by rw [List.length_map]; omega) hcl (hbm.cons C) rfl hno (fun h' tk' k hn => ?_)
  have hd : ∃ o, h'.get? dx = some o := by
    obtain ⟨o, _, _, e', _⟩ := hn
    exact ⟨o, e'⟩
  exact h _ (I.write (t' := tk') (x := dx) (e := dx) (o := exd dx ((f, y) :: fs)) (by rw [ed]; exact True.intro) (.inl rfl) k hd (exd_ok hn (relO_put ry rel)))
/-- the base's __init__ of an error that is being made: nothing of it is told -/
theorem einit_ok {us : List Value} {Q : Value → Shared → Prop} {E : Value → Shared → Prop} (T : EC X.K C ini) (I : Inv X pins σ H s) (e : H a = some (exo a C none)) (hl : us.length ≤ sizeLine) (h : ∀ s', Inv X pins σ H s' → Q .none s') :
    wpAny (model X.prog X.w) A (call (.builtin ini) (.ref a :: us)) Q E s := by
  obtain ⟨B, newId, bmB, nm, q, N, bs, bm, sn, sub, ab, col, dd, k0, k1, k2, k3, k5, F, hC, hT, hbm⟩ := T.cls
  obtain ⟨t1, ho⟩ := exo_at I.hok e
  obtain ⟨hp, g, d, t, os⟩ := s
  refine wpAny_call (PySem.HandSPX.init_base F hT (I.kIn _ _ hC) ho hl fun h' t2 k hx => ?_)
  have J := I.write (t' := t) (x := a) (e := a) (o := exo a C none) (by rw [e]; exact True.intro) (.inl rfl) k ⟨_, hx⟩ (exo_ok hx)
  have eu : upd H a (exo a C none) = H := by
    funext b
    by_cases hb : b = a
    · rw [hb, upd_same, e]
    · rw [upd_ne hb]
  rw [eu] at J
  exact h _ J
end
/-- base.__init__(self, ..) -/
def tEI (K : PySem.W.Frag) (ini : String) (ta : TA) : TE := fun σ H Q => ta σ H fun vs H1 => ∃ (a C : Addr) (ws : List V), vs = .ref a :: ws ∧ ws.length ≤ 1000 ∧ EC K C ini ∧ H1 a = some (exo a C none) ∧ Q .non H1
/-- self.f = e -/
def tEst (K : PySem.W.Frag) (ini : String) (f : Str) (to te : TE) : TS := fun D σ H => te σ H fun y H1 => to σ H1 fun x H2 => ∃ a C : Addr, x = .ref a ∧ EC K C ini ∧ PySem.W.findIn K (.ref C) f = some none ∧
  ((H2 a = some (exo a C none) ∧ ∀ dx, H2 dx = none → dx ≠ a → D.nx σ (upd (upd H2 dx (exd dx [(f, y)])) a (exo a C (some dx)))) ∨
    ∃ (dx : Addr) (fs : List (Str × V)), H2 a = some (exo a C (some dx)) ∧ H2 dx = some (exd dx fs) ∧ fs.length ≤ 900 ∧ D.nx σ (upd H2 dx (exd dx ((f, y) :: fs))))
section
variable {X : Cx} {o e : Expr} {es : List Expr} {to te : TE} {ta tk : TA} {f x : Str} {p p' p1 p2 pos : Pos} {ini : String}
/-- base.__init__(self, ..), base a class of the text -/
theorem pe_einitO {pl : Sem Bool} {S : Addr} (hg : Gl X x) (hm : X.mg x = some (.ref S)) (rd : PySem.W.readsIn X.K S (.type "type") = true) (ga : PySem.W.specialIn X.K (.ref S) "__getattribute__" = some (some (.builtin "type.__getattribute__")))
    (vV : PySem.W.findCls X.K (.ref S) (.type "type") "__init__" = some (.val (.builtin ini))) (hh : PySem.W.handedIn (.builtin ini) = true) (ha : PA X (e :: es) ta) (hdb : (x == ("__debug__" : Str)) = false := by decide)
    (hc : eval (.Call (.Attribute (.Name x p1) "__init__" p2) (e :: es) [] pos) X.env = (do
      let ov ← eval (.Name x p1) X.env
      standAt p2.atName
      let (f, first) ← holding [ov] (getMethod ov "__init__" pl)
      callWith pos f first (backTo pos (starEach (e :: es) X.env)) (backToKw pos (keywordEach [] X.env))) := by rfl)
    (he : starEach (e :: es) X.env = (false, eval e X.env) :: starEach es X.env := by rfl) (hpl : (backTo pos (starEach es X.env)).any (·.1) = false := by rfl) :
    PE X (.Call (.Attribute (.Name x p1) "__init__" p2) (e :: es) [] pos) (tEI X.K ini ta) := by
  refine ⟨fun pins s σ H Q I h => ?_⟩
  refine PySem.W.methodCall_KW (ld_glob I hg hm ?_ hdb) hc
  refine PySem.W.method_cls I.kIn ga (PySem.W.cls_value I.kIn rd vV hh ?_)
  show wpAny _ _ (callWith pos (Value.builtin ini) [] (backTo pos (starEach (e :: es) X.env)) []) _ _ _
  refine PyProof.Rows.callWith_method1 (thn (ha.run pos pins _ σ H _ (I.tok _) h) fun us s1 ⟨vs, H1, I1, r1, a, C, ws, ev, hl, T, ea, q⟩ => ?_) he hpl
  subst ev
  cases r1 with
  | @cons _ u0 _ ur ra rw' =>
    obtain rfl : u0 = Value.ref a := ra
    have hlen : ur.length ≤ sizeLine := by
      rw [← Paired.length rw', sizeLine_eq]
      omega
    exact einit_ok T I1 ea hlen fun s' J => ⟨.non, H1, J, rfl, q⟩
/-- .., base a built-in class -/
theorem pe_einitB {pl : Sem Bool} {B : String} (hg : Gl X x) (hm : X.mg x = none) (hv : bootBuiltins x = some (.type B)) (ty : typeOf (.type B) = pure (.type "type")) (hs : Manifest.isStub B = false)
    (vV : PySem.W.findCls X.K (.type B) (.type "type") "__init__" = some (.val (.builtin ini))) (hh : PySem.W.handedIn (.builtin ini) = true) (ha : PA X (e :: es) ta) (hn : x ≠ "__name__" := by decide) (hdb : (x == ("__debug__" : Str)) = false := by decide)
    (hc : eval (.Call (.Attribute (.Name x p1) "__init__" p2) (e :: es) [] pos) X.env = (do
      let ov ← eval (.Name x p1) X.env
      standAt p2.atName
      let (f, first) ← holding [ov] (getMethod ov "__init__" pl)
      callWith pos f first (backTo pos (starEach (e :: es) X.env)) (backToKw pos (keywordEach [] X.env))) := by rfl)
    (he : starEach (e :: es) X.env = (false, eval e X.env) :: starEach es X.env := by rfl) (hpl : (backTo pos (starEach es X.env)).any (·.1) = false := by rfl) :
    PE X (.Call (.Attribute (.Name x p1) "__init__" p2) (e :: es) [] pos) (tEI X.K ini ta) := by
  refine ⟨fun pins s σ H Q I h => ?_⟩
  refine PySem.W.methodCall_KW (ld_blt I hg hm hv ?_ hn hdb) hc
  obtain ⟨m, fr⟩ := I.fr
  refine PySem.W.method_type fr I.ok.mod.kin ty hs vV hh ?_
  show wpAny _ _ (callWith pos (Value.builtin ini) [] (backTo pos (starEach (e :: es) X.env)) []) _ _ _
  refine PyProof.Rows.callWith_method1 (thn (ha.run pos pins _ σ H _ (I.tok _) h) fun us s1 ⟨vs, H1, I1, r1, a, C, ws, ev, hl, T, ea, q⟩ => ?_) he hpl
  subst ev
  cases r1 with
  | @cons _ u0 _ ur ra rw' =>
    obtain rfl : u0 = Value.ref a := ra
    have hlen : ur.length ≤ sizeLine := by
      rw [← Paired.length rw', sizeLine_eq]
      omega
    exact einit_ok T I1 ea hlen fun s' J => ⟨.non, H1, J, rfl, q⟩
theorem ps_est (ini : String) (ho : PE X o to) (he : PE X e te) (hs : swapsWith e (some (.Attribute o f p')) pos.line X.env = pure false := by rfl) : PS X (.Assign [.Attribute o f p'] e pos) (tEst X.K ini f to te) := by
  refine ⟨fun pins s σ H D I h => ?_⟩
  refine plainObj_wpAny_Assign_Attribute (thn (he.run pins s σ H _ I h) fun v s1 ⟨y, H1, I1, r1, q1⟩ => thn (ho.run pins s1 σ H1 _ I1 q1) fun u s2 ⟨x, H2, I2, r2, a, C, ex, T, hno, q⟩ => ?_) hs
  subst ex
  obtain rfl : u = Value.ref a := r2
  rcases q with ⟨ea, q⟩ | ⟨dx, fs, ea, ed, hl, q⟩
  · exact est_new T I2 ea hno r1 fun dx s' n ne J => ⟨σ, _, J, q dx n ne⟩
  · exact est_old T I2 ea ed hl hno r1 fun s' J => ⟨σ, _, J, q⟩
end
end Ss
namespace Ss
open PySem L2 PySem.Spec PyProof.Rows
/-- n values by position, then the keywords ks in the order of the parameters left -/
structure NB (fd : FuncData) (ps : List Str) (n : Nat) (ks : List Str) : Prop where
  to : ∀ (s : Shared) (us ws : List Value), us.length = n → ws.length = ks.length → BindsTo s fd ⟨us, ks.zip ws⟩ (ps.zip (us ++ ws))
/-- an error class whose own __init__ keeps sp -/
structure EMk (P : Program) (w : World) (K : PySem.W.Frag) (mg : Str → Option Value) (base : Heap) (CX : CXT) (C : Addr) (ini : String) (k : Nat) (ps : List Str) (sp : Sp) (fd : FuncData) : Prop where
  ec : EC K C ini
  ex : ∃ (fI : Addr), PySem.W.findIn K (.ref C) "__init__" = some (some (.ref fI)) ∧ PySem.W.typeIn K (.ref fI) = some (.type "function") ∧ FnOk P w K mg base CX k fI fd ps sp
/-- C(e, .., k = v, ..) as a value: n values, m keywords -/
def tEMk (C : Addr) (n m : Nat) (sp : Sp) (E : XK) (ta tk : TA) : TE := fun σ H Q => ta σ H fun vs H1 => tk σ H1 fun zs H2 => vs.length = n ∧ zs.length = m ∧
  ∀ a, H2 a = none → sp (.ref a :: (vs ++ zs)) (upd H2 a (exo a C none)) (fun v H3 => v = .non ∧ Q (.ref a) H3) E
section
variable {X : Cx} {CX : CXT} {C : Addr} {ini : String} {k j n : Nat} {ps ks : List Str} {sp : Sp} {fd : FuncData} {E : XK} {x : Str} {p pos : Pos} {e : Expr} {es : List Expr} {kws : List Keyword} {ta tk : TA}
theorem run_emk {pins : List (Addr × Obj)} {σ : L2.St} {H : Hp} {s : Shared} {Q : VK} {us ws : List Value} {vs zs : List V} (M : EMk X.prog X.w X.K X.mg X.base CX C ini k ps sp fd) (hr : Room (k + 1) X.A) (hb : NB fd ps (n + 1) ks) (hx : Passes CX X E)
    (hn : n ≤ 1000) (I : Inv X pins σ H s) (r : Vals vs us) (rz : Vals zs ws) (l1 : vs.length = n) (l2 : zs.length = ks.length)
    (h : ∀ a, H a = none → sp (.ref a :: (vs ++ zs)) (upd H a (exo a C none)) (fun v H3 => v = .non ∧ Q (.ref a) H3) E) : wpAny (model X.prog X.w) X.A (call (.ref C) us (ks.zip ws)) (EP X pins σ Q) X.xe s := by
  obtain ⟨fI, iC, tI, F1⟩ := M.ex
  obtain ⟨B, newId, bmB, nm, q, N, bs, bm, sn, sub, ab, col, dd, k0, k1, k2, k3, k5, F, hC, hT, hbm⟩ := M.ec.cls
  obtain ⟨hp, g, dr, tk, os⟩ := s
  have hsz : hp.objs.size ≤ hp.objs.size + 1 := Nat.le_succ _
  have hq := h (hp.objs.size + 1) (I.hok.fresh hsz)
  have kk : ∀ b o, hp.get? b = some o → ((hp.push (PySem.W.kdv_tup us)).push (PySem.HandSPX.excO C hp.objs.size)).get? b = some o := fun b o e => Heap.get?_push_of_some _ (Heap.get?_push_of_some _ e)
  have hget : ((hp.push (PySem.W.kdv_tup us)).push (PySem.HandSPX.excO C hp.objs.size)).get? (hp.objs.size + 1) = some (PySem.HandSPX.excO C hp.objs.size) := by heap_get
  have I2 : Inv X pins σ (upd H (hp.objs.size + 1) (exo (hp.objs.size + 1) C none)) ⟨(hp.push (PySem.W.kdv_tup us)).push (PySem.HandSPX.excO C hp.objs.size), g, dr, tk, os⟩ :=
    I.laid (t' := tk) (a := hp.objs.size + 1) (o := exo (hp.objs.size + 1) C none) (h' := (hp.push (PySem.W.kdv_tup us)).push (PySem.HandSPX.excO C hp.objs.size)) kk hsz (exo_ok hget)
  have r2 : Vals (V.ref (hp.objs.size + 1) :: (vs ++ zs)) (Value.ref (hp.objs.size + 1) :: (us ++ ws)) := .cons rfl (r.append rz)
  have e1 : (Value.ref (hp.objs.size + 1) :: us).length = n + 1 := congrArg Nat.succ (r.length.symm.trans l1)
  have e2 : ws.length = ks.length := rz.length.symm.trans l2
  have hus : us.length ≤ sizeLine := by
    rw [← r.length, l1, sizeLine_eq]
    omega
  refine wpAny_call (SsE.call_kw F hT (I.kIn _ _ hC) (PySem.W.looks_findIn I.kIn iC) (fun self => PySem.W.bind_fn I.kIn self tI) hus
    (codeAny_mono (F1.run _ X.stack _ _ ⟨Value.ref (hp.objs.size + 1) :: us, ks.zip ws⟩ (Value.ref (hp.objs.size + 1) :: us ++ ws) _ _ E (hr.make C us (ks.zip ws)) (I2.env0.make C us (ks.zip ws)) (hb.to _ _ _ e1 e2) r2 hq) fun r s' hq' => ?_))
  cases r with
  | error er => exact hx pins σ _ _ er s' I2 hq'
  | ok fl =>
    cases fl with
    | ret u =>
      obtain ⟨v, H', I3, rv, ev, q3⟩ := I2.after hq'
      subst ev
      exact ⟨rv, ⟨V.ref (hp.objs.size + 1), H', I3, rfl, q3⟩⟩
    | next => exact False.elim hq'
    | brk => exact False.elim hq'
    | cont => exact False.elim hq'
/-- C(e, ..) -/
theorem pe_emk (M : EMk X.prog X.w X.K X.mg X.base CX C ini k ps sp fd) (hm : X.mg x = some (.ref C)) (hr : Room j X.A) (hb : NB fd ps (n + 1) []) (hx : Passes CX X E) (ha : PA X (e :: es) ta) (hk : k + 1 ≤ j := by decide) (hn : n ≤ 1000 := by decide) (hg : Gl X x := by rfl)
    (hdb : (x == ("__debug__" : Str)) = false := by decide) (he : starEach (e :: es) X.env = (false, eval e X.env) :: starEach es X.env := by rfl) (hpl : (backTo pos (starEach es X.env)).any (·.1) = false := by rfl) :
    PE X (.Call (.Name x p) (e :: es) [] pos) (tEMk C n 0 sp E ta tNil) := by
  refine ⟨fun pins s σ H Q I h => ?_⟩
  refine wpAny_Call_Name_kw (ld_glob I hg hm ?_ hdb)
  refine PySem.W.callWith_K (h₀ := X.base) I.ok.mod.kin M.ec.kC (thn (ha.run pos pins s σ H _ I h) fun us s1 ⟨vs, H1, I1, r, l1, l2, q⟩ => ⟨I1.kIn, ?_⟩) he hpl
  exact run_emk (ks := []) (ws := []) (zs := []) M (hr.mono hk) hb hx hn I1 r .nil l1 rfl q
/-- C() -/
theorem pe_emk0 (M : EMk X.prog X.w X.K X.mg X.base CX C ini k ps sp fd) (hm : X.mg x = some (.ref C)) (hr : Room j X.A) (hb : NB fd ps 1 []) (hx : Passes CX X E) (hk : k + 1 ≤ j := by decide) (hg : Gl X x := by rfl)
    (hdb : (x == ("__debug__" : Str)) = false := by decide) : PE X (.Call (.Name x p) [] [] pos) (tEMk C 0 0 sp E tNil tNil) := by
  refine ⟨fun pins s σ H Q I h => ?_⟩
  refine wpAny_Call_Name_kw (ld_glob I hg hm ?_ hdb)
  obtain ⟨l1, l2, q⟩ := h
  exact PySem.W.callWith_K0 I.kIn M.ec.kC (run_emk (ks := []) (ws := []) (zs := []) (us := []) (vs := []) M (hr.mono hk) hb hx (Nat.zero_le _) I .nil .nil rfl rfl q)
/-- C(e, .., k = v) -/
theorem pe_emkK (M : EMk X.prog X.w X.K X.mg X.base CX C ini k ps sp fd) (hm : X.mg x = some (.ref C)) (hr : Room j X.A) (hb : NB fd ps (n + 1) ks) (hx : Passes CX X E) (ha : PA X (e :: es) ta) (hkw : PK X kws tk) (hk : k + 1 ≤ j := by decide) (hn : n ≤ 1000 := by decide) (hg : Gl X x := by rfl)
    (hall : (backToKw pos (keywordEach kws X.env)).all (·.1.isSome) = true := by rfl) (hks : (backToKw pos (keywordEach kws X.env)).filterMap (·.1) = ks := by rfl) (hdb : (x == ("__debug__" : Str)) = false := by decide)
    (he : starEach (e :: es) X.env = (false, eval e X.env) :: starEach es X.env := by rfl)
    (hpl : ((backTo pos (starEach (e :: es) X.env)).any (·.1) || (backToKw pos (keywordEach kws X.env)).any (·.1.isNone)) = false := by rfl) :
    PE X (.Call (.Name x p) (e :: es) kws pos) (tEMk C n ks.length sp E ta tk) := by
  refine ⟨fun pins s σ H Q I h => ?_⟩
  refine wpAny_Call_Name_kw (ld_glob I hg hm ?_ hdb)
  refine PySem.W.callWith_KW (h₀ := X.base) I.ok.mod.kin M.ec.kC hall (thn (ha.run pos pins s σ H _ I h) fun us s1 ⟨vs, H1, I1, r, q⟩ => ?_) hpl he
  refine thn (hkw.run pos pins s1 σ H1 _ I1 q) fun ws s2 ⟨zs, H2, I2, rz, l1, l2, q2⟩ => ⟨I2.kIn, ?_⟩
  rw [hks]
  exact run_emk M (hr.mono hk) hb hx hn I2 r rz l1 l2 q2
end
section
variable {X : Cx} {CX : CXT} {C : Addr} {ini : String} {k j n : Nat} {ps ks : List Str} {sp : Sp} {fd : FuncData} {E : XK} {x : Str} {p pos : Pos} {kws : List Keyword} {tk : TA}
/-- C(k = v) -/
theorem pe_emkK0 (M : EMk X.prog X.w X.K X.mg X.base CX C ini k ps sp fd) (hm : X.mg x = some (.ref C)) (hr : Room j X.A) (hb : NB fd ps 1 ks) (hx : Passes CX X E) (hkw : PK X kws tk) (hk : k + 1 ≤ j := by decide) (hg : Gl X x := by rfl)
    (hall : (backToKw pos (keywordEach kws X.env)).all (·.1.isSome) = true := by rfl) (hks : (backToKw pos (keywordEach kws X.env)).filterMap (·.1) = ks := by rfl) (hdb : (x == ("__debug__" : Str)) = false := by decide)
    (hpl : ((backTo pos (starEach [] X.env)).any (·.1) || (backToKw pos (keywordEach kws X.env)).any (·.1.isNone)) = false := by rfl) :
    PE X (.Call (.Name x p) [] kws pos) (tEMk C 0 ks.length sp E tNil tk) := by
  refine ⟨fun pins s σ H Q I h => ?_⟩
  refine wpAny_Call_Name_kw (ld_glob I hg hm ?_ hdb)
  refine PySem.W.callWith_KW0 (h₀ := X.base) I.ok.mod.kin M.ec.kC hall ?_ hpl
  refine thn (hkw.run pos pins s σ H _ I h) fun ws s2 ⟨zs, H2, I2, rz, l1, l2, q2⟩ => ⟨I2.kIn, ?_⟩
  rw [hks]
  exact run_emk (us := []) (vs := []) M (hr.mono hk) hb hx (Nat.zero_le _) I2 .nil rz rfl l2 q2
end
/-! ### an error's field, its class -/
/-- e.f, e an error that stands as a value -/
def tEF (K : PySem.W.Frag) (f : Str) (ta : TE) : TE := fun σ H Q => ta σ H fun x H1 => ∃ (a C d : Addr) (ini : String) (fs : List (Str × V)) (v : V), x = .ref a ∧ H1 a = some (exo a C (some d)) ∧ H1 d = some (exd d fs) ∧ EC K C ini ∧ PySem.W.findIn K (.ref C) f = some none ∧ fs.lookup f = some v ∧ Q v H1
theorem pe_ef {X : Cx} {e : Expr} {te : TE} {f : Str} {pos : Pos} (he : PE X e te) (hb : attributeBase e f X.env (eval e X.env) = eval e X.env := by rfl) : PE X (.Attribute e f pos) (tEF X.K f te) := by
  refine ⟨fun pins s σ H Q I h => ?_⟩
  refine attr_of hb (thn (he.run pins s σ H _ I h) fun u s1 hh => ?_)
  obtain ⟨x, H1, I1, rx, a, C, d, ini, fs, v, ex, ea, ed, T, hno, l, q⟩ := hh
  subst ex
  obtain rfl : u = Value.ref a := rx
  obtain ⟨t1, ha⟩ := exo_at I1.hok ea
  obtain ⟨mA, hns, hr⟩ := exd_at I1.hok ed
  obtain ⟨od, ho, hl⟩ := lookIn_ns hns
  obtain ⟨u, hu, ru⟩ := RelO.some_of (v := v) (o := mA f) (by rw [← l]; exact hr f)
  have J : PySem.W.InstAt s1.heap a { cls := .ref C, dict := some d, data := .fields #[.ref t1, .none, .none, .none, .bool false, .none] } C (some od) := ⟨ha, rfl, rfl, ho⟩
  exact HandSPX.exc_get I1.kIn J T.ga T.gg T.exC (PySem.W.findObj_own T.hdC hno rfl (by rw [hl, hu])) (handed_of ru) ⟨v, H1, I1.tok _, ru, q⟩
end Ss
namespace PySem.W
open PySem PySem.Spec PySem.Calls PyProof.Rows
section
variable {prog : Program} {w : World} {A : Around} {E : Value → Shared → Prop} {s : Shared} {K : Frag} {x D : Addr} {ox : Obj} {od : Option Obj}
theorem ssFindData {C : Addr} {name : Str} {a g : Value} (hc : (clsIn K C).isSome = true) (ha : findIn K (.ref C) name = some (some a)) (hg : specialIn K a "__get__" = some (some g)) (ht : takesIn K a = some true) : findObj K C od name = some (.bind g a) := by
  obtain ⟨cd, hc⟩ := Option.isSome_iff_exists.mp hc
  unfold findObj
  rw [hc, Option.bind_some, ha, Option.bind_some]
  simp [hg, ht]
theorem ssClassOf {Q : Option Value → Shared → Prop} (hga : findIn K (.ref D) "__getattribute__" = some (some (.builtin "BaseException.__getattribute__"))) (hgt : findIn K (.ref D) "__getattr__" = some none) (hsub : subIn K (.ref D) (.type "BaseException") = some true)
    (hdct : hasDictIn K D = true) (ha : findIn K (.ref D) "__class__" = some (some (.builtin "object.__class__")))
    (hn : specialIn K (.builtin "object.__class__") "__get__" = some (some (.builtin "getset_descriptor.__get__"))) (htk : takesIn K (.builtin "object.__class__") = some true) (hm : mroIn K D (.type "object") = some true)
    (X : K.In s.heap) (I : InstAt s.heap x ox D od) (h : Q (some (.ref D)) { s with toks := s.toks + 1 }) : wpAny (model prog w) A (getAttr? (.ref x) "__class__") Q E s := by
  have hf : findObj K D od "__class__" = some (.bind (.builtin "getset_descriptor.__get__") (.builtin "object.__class__")) := ssFindData (by obtain ⟨cd, hc, _⟩ := any_some hdct; rw [hc]; rfl) ha hn htk
  obtain ⟨hp, g, d, t, os⟩ := s
  have L0 := I.type (M := model prog w)
  have L1 := looks_findIn (M := model prog w) X hga
  have L2 := looks_findIn (M := model prog w) X hgt
  have L3 := looks_find (M := model prog w) X I hf
  have sub : Looks (model prog w) hp (isInstance (.ref x) (.type "BaseException")) true := L0.andThen (looks_subIn X hsub)
  have z0 : (false && onTheHeap (Value.builtin "BaseException.__getattribute__")) = false := rfl
  have z2 : (Value.builtin "BaseException.__getattribute__" == Value.builtin "object.__getattribute__") = false := by decide +kernel
  have z1 : (onTheHeap (Value.ref D) && Value.builtin "BaseException.__getattribute__" == Value.builtin "object.__getattribute__") = false := by rw [z2]; rfl
  unfold getAttr? getAttrBy? getAttrBy
  refine wpAny_bind (wpAny_mkText (wpAny_bind (wpAny_attempt (wpAny_holding (wpAny_bind (L0.at (wpAny_bind (L1.at ?_))))))))
  show wpAny _ _ (if (onTheHeap (Value.ref D) && Value.builtin "BaseException.__getattribute__" == Value.builtin "object.__getattribute__") = true then _ else _) _ _ _
  rw [z1, if_neg Bool.false_ne_true]
  unfold getAttrByItsOwn hookBefore
  refine wpAny_bind ?_
  rw [if_pos (show onTheHeap (Value.ref D) = true from rfl)]
  refine L2.at ?_
  refine wpAny_bind (wpAny_attempt (wpAny_holding ?_))
  unfold callGetattribute
  rw [z0, if_neg Bool.false_ne_true]
  unfold boundAndCalled
  rw [PySem.F.excAttr_ValueError.ga.bind (.ref x)]
  refine wpAny_bind (wpAny_pure ?_)
  show wpAny _ _ (call (.builtin "BaseException.__getattribute__") [.ref x, .str "__class__" t]) _ _ _
  refine wpAny_call (codeAny_call_builtin PySem.F.excAttr_ValueError.ga.plain PySem.F.entry_bexc_ga ?_)
  refine @check_slot (model prog w) _ _ ⟨hp, g, d, t + 1, os⟩ "BaseException.__getattribute__" "BaseException" "__getattribute__" (.ref x) [.str "__class__" t] [] _ (by decide +kernel) (by decide +kernel) sub (PySem.F.args_bexc_ga (.ref x) (.str "__class__" t)) ?_
  unfold Builtin.«object.__getattribute__»
  refine wpAny_bind (wpAny_of_eq (a := ((Value.ref x : Value), [Value.str "__class__" t])) (by first | rfl | (simp only [slotArgs]; rfl)) ?_)
  refine wpAny_bind (wpAny_pure (wpAny_bind (L0.at (wpAny_bind (L3.at ?_)))))
  show wpAny _ _ (holding [Value.builtin "object.__class__"] (call (.builtin "getset_descriptor.__get__") [.builtin "object.__class__", .ref x, .ref D]) >>= ret) _ _ _
  refine wpAny_bind (wpAny_holding (wpAny_call (class_get (s := ⟨hp, g, d, t + 1, os⟩) (ox := ox) (od := od) X I hm ?_)))
  refine wpAny_pure ?_
  show wpAny _ _ (handedOut (.ref D)) _ _ _
  rw [handedOut_of (v := .ref D) rfl]
  first
    | exact wpAny_pure (wpAny_pure h)
    | exact wpAny_pure h
    | exact wpAny_pure (wpAny_bind (wpAny_pure (wpAny_pure h)))
theorem ssKit (hga : findIn K (.ref D) "__getattribute__" = some (some (.builtin "BaseException.__getattribute__"))) (hgt : findIn K (.ref D) "__getattr__" = some none) (hsub : subIn K (.ref D) (.type "BaseException") = some true) (hdct : hasDictIn K D = true) (ha : findIn K (.ref D) "__class__" = some (some (.builtin "object.__class__")))
    (hn : specialIn K (.builtin "object.__class__") "__get__" = some (some (.builtin "getset_descriptor.__get__"))) (htk : takesIn K (.builtin "object.__class__") = some true) (hm : mroIn K D (.type "object") = some true) :
    KitX K (.ref x) (.ref D) (fun h => ∃ od, InstAt h x ox D od) where
  ty := fun _ _ _ I => let ⟨_, I⟩ := I; I.type
  it := fun _ _ X _ => by
    obtain ⟨cdD, hcD, _⟩ := any_some hdct
    unfold clsIn at hcD
    split at hcD
    · rename_i c' d' cd' sl' ho
      intro A' Q' E' s' k q
      unfold isType loadHead
      exact wpAny_bind (wpAny_loadPart (k _ _ (X _ _ ho)) (wpAny_pure q))
    · cases hcD
  ne := fun h tp dd its n sl X htp => by
    obtain ⟨cdD, hcD, _⟩ := any_some hdct
    refine Bool.eq_false_iff.mpr fun q => ?_
    have e : D = tp := Value.ref.inj (beq_iff_eq.mp q)
    subst e
    unfold clsIn at hcD
    split at hcD
    · rename_i c' d' cd' sl' ho
      have z := (X _ _ ho).symm.trans htp
      cases z
    · cases hcD
  ca := fun X I k => let ⟨_, I⟩ := I; ssClassOf hga hgt hsub hdct ha hn htk hm X I k
end
end PySem.W
namespace Ss
open PySem L2 PySem.Spec PyProof.Rows
/-- isinstance(x, c), x an error that stands as a value -/
def rIsX (K : PySem.W.Frag) : List V → Hp → VK → Prop := fun xs H Q => ∃ (a C : Addr) (dd : Option Addr) (ini : String) (c : V) (cv : Value) (b : Bool), xs = [.ref a, c] ∧ H a = some (exo a C dd) ∧ (∀ d, dd = some d → ∃ fs, H d = some (exd d fs)) ∧ EC K C ini ∧ ClsV c cv ∧ PySem.W.kitOne K (.ref C) cv = some b ∧ Q (.bl b) H
theorem call_isx {X : Cx} : CallR X (.builtin "isinstance") (rIsX X.K) := by
  intro pins s σ H xs us Q I r h
  obtain ⟨a, C, dd, ini, c, cv, b, rfl, ea, ed, T, k, e, q⟩ := h
  obtain ⟨u1, u2, rfl, r1, r2⟩ := vals2 r
  have e2 := k.eq r2
  subst e2
  cases (show u1 = Value.ref a from r1)
  obtain ⟨t1, ha⟩ := exo_at I.hok ea
  have J : ∃ od, PySem.W.InstAt s.heap a { cls := .ref C, dict := dd, data := .fields #[.ref t1, .none, .none, .none, .bool false, .none] } C od := by
    cases dd with
    | none => exact ⟨none, ha, rfl, rfl, trivial⟩
    | some d =>
      obtain ⟨fs, ed⟩ := ed d rfl
      obtain ⟨mA, hns, hr⟩ := exd_at I.hok ed
      obtain ⟨od, ho, hl⟩ := lookIn_ns hns
      exact ⟨some od, ha, rfl, rfl, ho⟩
  exact PySem.W.kia_one (PySem.W.ssKit T.ga T.gg T.exC T.hdC T.ha T.hn T.ht T.hm) I.kIn J e (fun z => nomatch z) fun tk => ⟨.bl b, H, I.kept (t' := tk) fun _ _ z => z, rfl, q⟩
end Ss
namespace Ss
open PySem L2 PySem.Spec PyProof.Rows
/-! ### a text made of a value: some bounded text -/
def leafOk : V → Prop
  | .non => True
  | .bl _ => True
  | .int i => i.natAbs.log2 < 1920
  | .str y => y.length ≤ 1000 ∧ ∀ c ∈ y.cps.toList, c < 16 ^ 8
  | _ => False
def leafTx : V → Str
  | .non => "None"
  | .bl b => if b then "True" else "False"
  | .int i => toString i
  | .str y => reprText y
  | _ => ""
theorem leaf_len {x : V} (h : leafOk x) : (leafTx x).length ≤ 10002 := by
  cases x with
  | non => decide +kernel
  | bl b => cases b <;> decide +kernel
  | int i =>
    have e := int_text_length_le (k := 1920) (by decide) (show i.natAbs.log2 < 1920 from h)
    show (Str.ofString (toString i)).length ≤ _
    rw [PySem.ofString_length]
    omega
  | str y =>
    have e := StrLaws.reprText_len y h.2
    have e2 : y.length ≤ 1000 := h.1
    show (reprText y).length ≤ _
    omega
  | _ => exact False.elim h
theorem leaf_repr {prog : Program} {w : World} {x : V} {u : Value} (h : leafOk x) (r : RelV x u) : ReprIs prog w u (leafTx x) := by
  have hl := leaf_len h
  have hz : (leafTx x).length ≤ sizeLine := Nat.le_trans hl (by decide)
  cases x with
  | non => cases r; exact ReprIs.none
  | bl b => cases r; exact ReprIs.bool b
  | int i => obtain ⟨t, rfl⟩ := r; exact ReprIs.int t h
  | str y => obtain ⟨t, rfl⟩ := r; exact ReprIs.str y t hz
  | _ => exact False.elim h
theorem leaf_all {prog : Program} {w : World} : ∀ {l : List V} {us : List Value}, Vals l us → (∀ y ∈ l, leafOk y) → ReprAll prog w us (l.map leafTx)
  | _, _, .nil, _ => .nil
  | _, _, .cons r rr, h => .cons (leaf_repr (h _ List.mem_cons_self) r) (leaf_all rr fun y hy => h y (List.mem_cons_of_mem _ hy))
theorem leaf_piled : ∀ {l : List V}, (∀ y ∈ l, leafOk y) → piled (l.map leafTx) ≤ 10004 * l.length
  | [], _ => Nat.zero_le _
  | x :: l, h => by
    have h1 := leaf_len (h x List.mem_cons_self)
    have h2 := leaf_piled (l := l) fun y hy => h y (List.mem_cons_of_mem _ hy)
    rw [List.map_cons, piled_cons, List.length_cons]
    omega
/-- such values may stand in an error's text -/
def Shown (K : PySem.W.Frag) (H : Hp) (x : V) : Prop := leafOk x ∨ ∃ (a : Addr) (l : List V), x = .ref a ∧ SqT K H a l ∧ (∀ y ∈ l, leafOk y) ∧ l.length ≤ 100
/-- {x!r}, {x!s} -/
def tFmtX (K : PySem.W.Frag) (te : TE) : TE := fun σ H Q => te σ H fun x H1 => Shown K H1 x ∧ ∀ m : Str, m.length ≤ 1100000 → Q (.str m) H1
section
variable {X : Cx} {e : Expr} {te : TE} {pos : Pos} {k : Nat}
theorem fmt_mem {prog : Program} {w : World} {A : Around} {E : Value → Shared → Prop} {s : Shared} {a : Addr} {o : Obj} {items : Array Value} {n : Nat} {ts : List Str} {Q : Value → Shared → Prop} (hu : A.units < cLine) (ha : s.heap.get? a = some o) (hc : o.cls = .type "tuple") (hd : o.data = .seq items n)
    (hT : ReprAll prog w items.toList ts) (hsz : (tupleText ts).length ≤ sizeLine) (h : ∀ (m : Str) (u tk : Tok), m.length ≤ (tupleText ts).length + 5 → Q (.str m u) { s with toks := tk }) : wpAny (model prog w) A (pyReprObj (.ref a)) Q E s :=
  wpAny_pyReprObj_slot hu ⟨o, ha, hc⟩ F.slot_tuple_repr (fmt_tuple_repr ha hc hd hT hsz fun m u tk hm => ⟨m, u, rfl, h m u tk hm⟩)
theorem pe_fmtX (hr : Room k X.A) (he : PE X e te) : PE X (.FormattedValue e 114 none pos) (tFmtX X.K te) := by
  refine ⟨fun pins s σ H Q I h => ?_⟩
  refine wpAny_FormattedValue_repr (thn (he.run pins s σ H _ I h) fun v s1 hv => ?_)
  obtain ⟨x, H1, I1, r1, sh, q⟩ := hv
  have fin : ∀ (m : Str) (u tk : Tok), m.length ≤ 1100000 → wpAny (model X.prog X.w) X.A (formatField (.str m u) Str.empty) (EP X pins σ Q) X.xe { s1 with toks := tk } := fun m u tk hm =>
    wpAny_formatField_str ⟨.str m, H1, I1.tok _, ⟨_, rfl⟩, q m hm⟩ ⟨.str m, H1, I1.tok _, ⟨_, rfl⟩, q m hm⟩ (Nat.le_trans hm (by decide))
  rcases sh with sh | ⟨a, l, rfl, ht, hl, hn⟩
  · have hz : (leafTx x).length ≤ 1100000 := Nat.le_trans (leaf_len sh) (by decide)
    have hz2 : (leafTx x).length ≤ sizeLine := Nat.le_trans hz (by decide)
    cases x with
    | non => cases r1; exact pyReprObj_none (fin _ _ _ hz)
    | bl b => cases r1; exact pyReprObj_bool (fin _ _ _ hz)
    | int i => obtain ⟨t, rfl⟩ := r1; exact pyReprObj_int sh (fin _ _ _ hz)
    | str y => obtain ⟨t, rfl⟩ := r1; exact pyReprObj_str (fin _ _ _ hz) hz2
    | _ => exact False.elim sh
  · cases r1
    obtain ⟨its, rv, ⟨o, ho, hcl, n, hd⟩, _⟩ := I1.tuple ht
    have hp := leaf_piled hl
    have htx := fmt_text (l.map leafTx)
    have hb : (tupleText (l.map leafTx)).length + 5 ≤ 1100000 := by omega
    exact fmt_mem hr.units0 ho hcl hd (leaf_all rv hl) (Nat.le_trans (Nat.le_trans (Nat.le_add_right _ 5) hb) (by decide)) fun m u tk hm => fin m u tk (Nat.le_trans hm hb)
theorem pe_fmtS (hr : Room k X.A) (he : PE X e te) : PE X (.FormattedValue e 115 none pos) (tFmtX X.K te) := by
  refine ⟨fun pins s σ H Q I h => ?_⟩
  refine wpAny_FormattedValue_s (thn (he.run pins s σ H _ I h) fun v s1 hv => ?_)
  obtain ⟨x, H1, I1, r1, sh, q⟩ := hv
  have fin : ∀ (m : Str) (u tk : Tok), m.length ≤ 1100000 → wpAny (model X.prog X.w) X.A (formatField (.str m u) Str.empty) (EP X pins σ Q) X.xe { s1 with toks := tk } := fun m u tk hm =>
    wpAny_formatField_str ⟨.str m, H1, I1.tok _, ⟨_, rfl⟩, q m hm⟩ ⟨.str m, H1, I1.tok _, ⟨_, rfl⟩, q m hm⟩ (Nat.le_trans hm (by decide))
  rcases sh with sh | ⟨a, l, rfl, ht, hl, hn⟩
  · have hz : (leafTx x).length ≤ 1100000 := Nat.le_trans (leaf_len sh) (by decide)
    cases x with
    | non => cases r1; exact pyStrObj_none (fin _ _ _ hz)
    | bl b => cases r1; exact pyStrObj_bool (fin _ _ _ hz)
    | int i => obtain ⟨t, rfl⟩ := r1; exact pyStrObj_int sh (fin _ _ _ hz)
    | str y =>
      obtain ⟨t, rfl⟩ := r1
      have hy : y.length ≤ 1100000 := Nat.le_trans sh.1 (by decide)
      show wpAny _ _ (habitSame "fstring-hands-on-the-str" (.str y t)) _ _ _
      exact wpAny_habitSame_str (fin _ _ _ hy) (fin _ _ _ hy) (Nat.le_trans hy (by decide))
    | _ => exact False.elim sh
  · cases r1
    obtain ⟨its, rv, ⟨o, ho, hcl, n, hd⟩, _⟩ := I1.tuple ht
    have hp := leaf_piled hl
    have htx := fmt_text (l.map leafTx)
    have hb : (tupleText (l.map leafTx)).length + 5 ≤ 1100000 := by omega
    have hu := hr.units
    exact convS_slot (fun _ _ => nofun) (by omega) ⟨o, ho, hcl⟩ F.slot_tuple_str F.slot_tuple_repr
      (fmt_tuple_repr ho hcl hd (leaf_all rv hl) (Nat.le_trans (Nat.le_trans (Nat.le_add_right _ 5) hb) (by decide)) fun m u tk hm => ⟨m, u, rfl, fin m u tk (Nat.le_trans hm hb)⟩)
end
/-! ### an error's text: written parts and values one behind the other -/
/-- a part: a written text, or a value -/
def PtOk (K : PySem.W.Frag) (σ : L2.St) (H : Hp) (t : TE) : Prop := ∀ Q : VK, (∀ m : Str, m.length ≤ 1100000 → Q (.str m) H) → t σ H Q
theorem part_c {K : PySem.W.Frag} {σ : L2.St} {H : Hp} {z : Str} (h : z.length ≤ 1100000) : PtOk K σ H (tC (.str z)) := fun _ q => q z h
theorem part_v {K : PySem.W.Frag} {σ : L2.St} {H : Hp} {i : Nat} {x : V} (hx : σ[i]? = some (some x)) (h : Shown K H x) : PtOk K σ H (tFmtX K (tVar i)) := fun _ q => ⟨x, hx, h, fun m hm => q m hm⟩
theorem parts_run {K : PySem.W.Frag} {σ : L2.St} {H : Hp} : ∀ {ts : List TE} {acc : Str} {n : Nat} {Q : Str → Hp → Prop}, (∀ t ∈ ts, PtOk K σ H t) → acc.length ≤ 1100000 * n → n + ts.length ≤ 12 → (∀ z, Q z H) → tJs ts acc σ H Q
  | [], _, _, _, _, _, _, q => q _
  | t :: ts, acc, n, Q, h, ha, hn, q => by
    refine h t List.mem_cons_self _ fun m hm => ?_
    have e : (acc ++ m).length = acc.length + m.length := strLen_append acc m
    have hn : n + (ts.length + 1) ≤ 12 := hn
    refine ⟨m, rfl, ?_, parts_run (n := n + 1) (fun t ht => h t (List.mem_cons_of_mem _ ht)) ?_ (by omega) q⟩
    · rw [e]; exact Nat.le_trans (show _ ≤ 1100000 * 12 by omega) (by decide)
    · rw [e]; omega
end Ss
namespace Ss
open PySem L2 PySem.Spec PyProof.Rows
/-! ### data -/
mutual
theorem Dp.mono {K : PySem.W.Frag} {H H' : Hp} (s : Same H H') : ∀ {v : V} {d : PyData}, Dp K H v d → Dp K H' v d
  | _, _, .non => .non
  | _, _, .bl b => .bl b
  | _, _, .int i => .int i
  | _, _, .str x => .str x
  | _, _, .lst h a => .lst (s.seq h) (DpAll.mono s a)
  | _, _, .tup h a => .tup (Evl.ex_t s h) (DpAll.mono s a)
theorem DpAll.mono {K : PySem.W.Frag} {H H' : Hp} (s : Same H H') : ∀ {vs : List V} {ds : List PyData}, DpAll K H vs ds → DpAll K H' vs ds
  | _, _, .nil => .nil
  | _, _, .cons h t => .cons (Dp.mono s h) (DpAll.mono s t)
end
theorem DpAll.get {K : PySem.W.Frag} {H : Hp} : ∀ {vs : List V} {ds : List PyData} {i : Nat} {v : V}, DpAll K H vs ds → vs[i]? = some v → ∃ d, ds[i]? = some d ∧ Dp K H v d
  | _, _, _, _, .nil, e => by simp at e
  | _, _, 0, _, .cons h _, e => by
    simp at e
    subst e
    exact ⟨_, rfl, h⟩
  | _, _, i + 1, _, .cons _ t, e => by
    obtain ⟨d, h1, h2⟩ := DpAll.get (i := i) t (by simpa using e)
    exact ⟨d, by simpa using h1, h2⟩
theorem DpAll.len {K : PySem.W.Frag} {H : Hp} : ∀ {vs : List V} {ds : List PyData}, DpAll K H vs ds → vs.length = ds.length
  | _, _, .nil => rfl
  | _, _, .cons _ t => by rw [List.length_cons, List.length_cons, DpAll.len t]
theorem DpAll.snoc {K : PySem.W.Frag} {H : Hp} {v : V} {d : PyData} : ∀ {vs : List V} {ds : List PyData}, DpAll K H vs ds → Dp K H v d → DpAll K H (vs ++ [v]) (ds ++ [d])
  | _, _, .nil, h => .cons h .nil
  | _, _, .cons a t, h => .cons a (DpAll.snoc t h)
/-- tuples within each other at most n deep, of at most a thousand items each -/
def tupD : Nat → PyData → Bool
  | _, .none => true
  | _, .bool _ => true
  | _, .int _ => true
  | _, .str _ => true
  | n + 1, .tuple ds => decide (ds.length ≤ 1000) && ds.all (tupD n)
  | _, _ => false
/-- the type of a value that is data -/
def tyD : PyData → String
  | .none => "NoneType"
  | .bool _ => "bool"
  | .int _ => "int"
  | .str _ => "str"
  | .list _ => "list"
  | .tuple _ => "tuple"
  | .dict _ => "dict"
theorem dp_ty {K : PySem.W.Frag} {H : Hp} {v : V} {d : PyData} (h : Dp K H v d) (hl : ∀ ds, d ≠ .list ds) : TyX K H v (.type (tyD d)) := by
  cases h with
  | non => exact .base .non
  | bl b => exact .base (.bl b)
  | int i => exact .base (.int i)
  | str x => exact .base (.str x)
  | lst h a => exact absurd rfl (hl _)
  | tup h a =>
    rcases h with (h | ⟨o, h⟩) | ⟨o, its, n, lk, c, dd, r⟩
    · exact .base (.tup h)
    · exact .fTuple h
    · exact .kTuple lk c
theorem tupD_all {n : Nat} {ds : List PyData} (h : tupD (n + 1) (.tuple ds) = true) : ds.length ≤ 1000 ∧ ∀ d ∈ ds, tupD n d = true := by
  have h : (decide (ds.length ≤ 1000) && ds.all (tupD n)) = true := h
  rw [Bool.and_eq_true] at h
  exact ⟨of_decide_eq_true h.1, List.all_eq_true.mp h.2⟩
theorem DpAll.imp {K : PySem.W.Frag} {H H' : Hp} {p : PyData → Prop} (f : ∀ d v, p d → Dp K H v d → Dp K H' v d) : ∀ {vs : List V} {ds : List PyData}, DpAll K H vs ds → (∀ d ∈ ds, p d) → DpAll K H' vs ds
  | _, _, .nil, _ => .nil
  | _, _, .cons h t, hp => .cons (f _ _ (hp _ List.mem_cons_self) h) (DpAll.imp f t fun d hd => hp d (List.mem_cons_of_mem _ hd))
/-- no tuple -/
def NotTup : Option HO → Prop
  | some (.tup _) => False
  | some (.frz _ (.tup _)) => False
  | _ => True
/-- what is no tuple, and changes, is no part of such data -/
theorem Dp.off {K : PySem.W.Frag} {H H' : Hp} {b : Addr} (s : Off b H H') (hb : NotTup (H b)) : ∀ (n : Nat) (d : PyData) (v : V), tupD n d = true → Dp K H v d → Dp K H' v d := by
  intro n
  induction n with
  | zero =>
    intro d v ht h
    cases h with
    | non => exact .non
    | bl b => exact .bl b
    | int i => exact .int i
    | str x => exact .str x
    | lst _ _ => exact Bool.noConfusion ht
    | tup _ _ => exact Bool.noConfusion ht
  | succ n ih =>
    intro d v ht h
    cases h with
    | non => exact .non
    | bl b => exact .bl b
    | int i => exact .int i
    | str x => exact .str x
    | lst _ _ => exact Bool.noConfusion ht
    | @tup a xs ds hs ha =>
      have hall := (tupD_all ht).2
      refine .tup (xs := xs) ?_ ?_
      · rcases hs with (hs | ⟨q, hs⟩) | hs
        · exact .inl (.inl (s _ _ (fun z => by rw [← z, hs] at hb; exact hb) hs))
        · exact .inl (.inr ⟨q, s _ _ (fun z => by rw [← z, hs] at hb; exact hb) hs⟩)
        · exact .inr hs
      · exact DpAll.imp (p := fun d => tupD n d = true) (fun d v hd h => ih d v hd h) ha hall
theorem DpAll.off {K : PySem.W.Frag} {H H' : Hp} {b : Addr} {n : Nat} (s : Off b H H') (hb : NotTup (H b)) {vs : List V} {ds : List PyData} (h : ∀ d ∈ ds, tupD n d = true) (a : DpAll K H vs ds) : DpAll K H' vs ds :=
  DpAll.imp (p := fun d => tupD n d = true) (fun d v hd h => Dp.off s hb n d v hd h) a h
theorem Shown.mono {K : PySem.W.Frag} {H H' : Hp} {x : V} (s : Same H H') (h : Shown K H x) : Shown K H' x := by
  rcases h with h | ⟨a, l, e, ht, r⟩
  · exact .inl h
  · exact .inr ⟨a, l, e, Evl.ex_t s ht, r⟩
theorem Shown.off {K : PySem.W.Frag} {H H' : Hp} {b : Addr} (s : Off b H H') (hb : NotTup (H b)) {x : V} (h : Shown K H x) : Shown K H' x := by
  rcases h with h | ⟨a, l, e, hs, r⟩
  · exact .inl h
  · refine .inr ⟨a, l, e, ?_, r⟩
    rcases hs with (hs | ⟨q, hs⟩) | hs
    · exact .inl (.inl (s _ _ (fun z => by rw [← z, hs] at hb; exact hb) hs))
    · exact .inl (.inr ⟨q, s _ _ (fun z => by rw [← z, hs] at hb; exact hb) hs⟩)
    · exact .inr hs
/-- kept(value): the same data -/
def spKept (K : PySem.W.Frag) (n : Nat) : Sp := fun vs H Q _ => ∃ (v : V) (d : PyData), vs = [v] ∧ Dp K H v d ∧ tupD n d = true ∧ ∀ (v' : V) (H' : Hp), Same H H' → Dp K H' v' d → Q v' H'
/-- a def whose calls are never reached -/
theorem Dk.never {P : Program} {w : World} {K : PySem.W.Frag} {mg : Str → Option Value} {base : Heap} {x : Str} {st : Stmt} {ps : List Str} (D : DefAt K mg x st) (b : ∀ f fd, Fun K x x st f fd → Binds K fd ps []) : Dk P w K mg base CX0 0 x ps (fun _ _ _ _ => False) := by
  obtain ⟨f, fd, F, mf⟩ := D.ex
  exact ⟨f, fd, ⟨fun _ _ _ _ h => h.elim, fun _ _ _ _ _ _ _ _ _ _ _ _ _ h => h.elim⟩, mf, F.kp, b f fd F⟩
/-! ### an error's fields, one after another -/
/-- since H0 the error at a, which was being made, has got the fields fs (the last one first) -/
def Part (K : PySem.W.Frag) (H0 H' : Hp) (a C : Addr) (n : Nat) (fs : List (Str × PyData)) : Prop := Off a H0 H' ∧ NotTup (H0 a) ∧
  ((fs = [] ∧ H' a = some (exo a C none)) ∨ ∃ (dx : Addr) (vs : List (Str × V)), H' a = some (exo a C (some dx)) ∧ H' dx = some (exd dx vs) ∧ H0 dx = none ∧ dx ≠ a ∧ vs.length = fs.length ∧ ∀ f d, fs.lookup f = some d → tupD n d = true ∧ ∃ v, vs.lookup f = some v ∧ Dp K H' v d)
theorem nt_exo {a C : Addr} {d : Option Addr} : NotTup (some (exo a C d)) := trivial
theorem nt_exd {a : Addr} {fs : List (Str × V)} : NotTup (some (exd a fs)) := trivial
theorem lookup_hd {α : Type} (f g : Str) (y : α) (fs : List (Str × α)) : ((f, y) :: fs).lookup g = if g = f then some y else fs.lookup g := by
  by_cases h : g = f
  · subst h
    simp [List.lookup]
  · have e : (g == f) = false := by simpa using h
    rw [if_neg h]
    simp [List.lookup, e]
/-- self.f = kept(x) -/
theorem est_turn {K : PySem.W.Frag} {H0 H' : Hp} {a C : Addr} {n i : Nat} {ini : String} {f : Str} {fs : List (Str × PyData)} {σ : L2.St} {D : Ends} {x : V} {d : PyData} (T : EC K C ini) (hno : PySem.W.findIn K (.ref C) f = some none)
    (h0 : σ[0]? = some (some (.ref a))) (hi : σ[i]? = some (some x)) (hp : Part K H0 H' a C n fs) (hd : Dp K H0 x d) (ht : tupD n d = true) (hl : fs.length ≤ 900) (k : ∀ H'', Part K H0 H'' a C n ((f, d) :: fs) → D.nx σ H'') :
    tEst K ini f (tVar 0) (tCall (spKept K n) [] E0 (tCons (tVar i) tNil)) D σ H' := by
  obtain ⟨hO, hN, hc⟩ := hp
  refine ⟨x, hi, x, d, rfl, Dp.off hO hN n d x ht hd, ht, fun x' H1 s1 hx' => ?_⟩
  refine ⟨_, h0, a, C, rfl, T, hno, ?_⟩
  rcases hc with ⟨rfl, ha⟩ | ⟨dx, vs, ha, hdx, h0x, hne, hvl, hv⟩
  · refine .inl ⟨s1 _ _ ha, fun dx ndx ne => k _ ⟨fun b o nb hb => ?_, hN, .inr ⟨dx, [(f, x')], upd_same, ?_, ?_, ne, rfl, ?_⟩⟩⟩
    · have q := s1 _ _ (hO b o nb hb)
      rw [upd_ne nb, upd_ne (ne_of_none q ndx)]
      exact q
    · rw [upd_ne ne, upd_same]
    · cases q : H0 dx with
      | none => rfl
      | some o =>
        have z := s1 _ _ (hO dx o ne q)
        rw [ndx] at z
        cases z
    · intro g e hg
      rw [lookup_hd] at hg
      by_cases hgf : g = f
      · rw [if_pos hgf] at hg
        cases hg
        refine ⟨ht, x', by rw [lookup_hd, if_pos hgf], ?_⟩
        have o1 : Off a H1 (upd (upd H1 dx (exd dx [(f, x')])) a (exo a C (some dx))) := ((Off.refl a H1).new ndx).upd
        exact Dp.off o1 (by rw [s1 _ _ ha]; exact nt_exo) n d x' ht hx'
      · rw [if_neg hgf] at hg
        cases hg
  · refine .inr ⟨dx, vs, s1 _ _ ha, s1 _ _ hdx, by omega, k _ ⟨fun b o nb hb => ?_, hN, .inr ⟨dx, (f, x') :: vs, ?_, upd_same, h0x, hne, by rw [List.length_cons, List.length_cons, hvl], ?_⟩⟩⟩
    · have nbd : b ≠ dx := fun z => by rw [z, h0x] at hb; cases hb
      rw [upd_ne nbd]
      exact s1 _ _ (hO b o nb hb)
    · have nad : a ≠ dx := fun z => hne z.symm
      rw [upd_ne nad]
      exact s1 _ _ ha
    · have o1 : Off dx H1 (upd H1 dx (exd dx ((f, x') :: vs))) := (Off.refl dx H1).upd
      have n1 : NotTup (H1 dx) := by rw [s1 _ _ hdx]; exact nt_exd
      intro g e hg
      rw [lookup_hd] at hg
      by_cases hgf : g = f
      · rw [if_pos hgf] at hg
        cases hg
        exact ⟨ht, x', by rw [lookup_hd, if_pos hgf], Dp.off o1 n1 n d x' ht hx'⟩
      · rw [if_neg hgf] at hg
        obtain ⟨t1, v, h1, h2⟩ := hv g e hg
        exact ⟨t1, v, by rw [lookup_hd, if_neg hgf]; exact h1, Dp.off o1 n1 n e v t1 (Dp.mono s1 h2)⟩
end Ss
namespace Ss
open PySem L2 PySem.Spec PyProof.Rows
/-- the error class x of the text: its own __init__ keeps sp -/
structure EDef (P : Program) (w : World) (K : PySem.W.Frag) (mg : Str → Option Value) (base : Heap) (k : Nat) (x : Str) (C : Addr) (ini : String) (ps : List Str) (sp : Sp) : Prop where
  ex : ∃ (fd : FuncData), EMk P w K mg base CX0 C ini k ps sp fd ∧ mg x = some (.ref C) ∧ ∀ n, n + 1 ≤ ps.length → NB fd ps (n + 1) (ps.drop (n + 1))
section
variable {X : Cx} {C : Addr} {ini : String} {k j n : Nat} {ps ks : List Str} {sp : Sp} {x : Str} {p pos : Pos} {e : Expr} {es : List Expr} {kws : List Keyword} {ta tk : TA}
theorem pe_en (n : Nat) (D : EDef X.prog X.w X.K X.mg X.base k x C ini ps sp) (hr : Room j X.A) (ha : PA X (e :: es) ta) (hd : ps.drop (n + 1) = [] := by rfl) (hl : n + 1 ≤ ps.length := by decide) (hk : k + 1 ≤ j := by decide) (hn : n ≤ 1000 := by decide) (hg : Gl X x := by rfl)
    (hdb : (x == ("__debug__" : Str)) = false := by decide) (he : starEach (e :: es) X.env = (false, eval e X.env) :: starEach es X.env := by rfl) (hpl : (backTo pos (starEach es X.env)).any (·.1) = false := by rfl) :
    PE X (.Call (.Name x p) (e :: es) [] pos) (tEMk C n 0 sp E0 ta tNil) := by
  obtain ⟨fd, M, hm, nb⟩ := D.ex
  exact pe_emk M hm hr (by have q := nb n hl; rw [hd] at q; exact q) pass0 ha hk hn hg hdb he hpl
theorem pe_en0 (D : EDef X.prog X.w X.K X.mg X.base k x C ini ps sp) (hr : Room j X.A) (hd : ps.drop 1 = [] := by rfl) (hl : 1 ≤ ps.length := by decide) (hk : k + 1 ≤ j := by decide) (hg : Gl X x := by rfl)
    (hdb : (x == ("__debug__" : Str)) = false := by decide) : PE X (.Call (.Name x p) [] [] pos) (tEMk C 0 0 sp E0 tNil tNil) := by
  obtain ⟨fd, M, hm, nb⟩ := D.ex
  exact pe_emk0 M hm hr (by have q := nb 0 hl; rw [hd] at q; exact q) pass0 hk hg hdb
theorem pe_enK (n : Nat) (D : EDef X.prog X.w X.K X.mg X.base k x C ini ps sp) (hr : Room j X.A) (ha : PA X (e :: es) ta) (hkw : PK X kws tk) (hl : n + 1 ≤ ps.length := by decide) (hk : k + 1 ≤ j := by decide) (hn : n ≤ 1000 := by decide) (hg : Gl X x := by rfl)
    (hall : (backToKw pos (keywordEach kws X.env)).all (·.1.isSome) = true := by rfl) (hks : (backToKw pos (keywordEach kws X.env)).filterMap (·.1) = ps.drop (n + 1) := by rfl) (hdb : (x == ("__debug__" : Str)) = false := by decide)
    (he : starEach (e :: es) X.env = (false, eval e X.env) :: starEach es X.env := by rfl)
    (hpl : ((backTo pos (starEach (e :: es) X.env)).any (·.1) || (backToKw pos (keywordEach kws X.env)).any (·.1.isNone)) = false := by rfl) :
    PE X (.Call (.Name x p) (e :: es) kws pos) (tEMk C n (ps.drop (n + 1)).length sp E0 ta tk) := by
  obtain ⟨fd, M, hm, nb⟩ := D.ex
  exact pe_emkK M hm hr (nb n hl) pass0 ha hkw hk hn hg hall hks hdb he hpl
theorem pe_enK0 (D : EDef X.prog X.w X.K X.mg X.base k x C ini ps sp) (hr : Room j X.A) (hkw : PK X kws tk) (hl : 1 ≤ ps.length := by decide) (hk : k + 1 ≤ j := by decide) (hg : Gl X x := by rfl)
    (hall : (backToKw pos (keywordEach kws X.env)).all (·.1.isSome) = true := by rfl) (hks : (backToKw pos (keywordEach kws X.env)).filterMap (·.1) = ps.drop 1 := by rfl) (hdb : (x == ("__debug__" : Str)) = false := by decide)
    (hpl : ((backTo pos (starEach [] X.env)).any (·.1) || (backToKw pos (keywordEach kws X.env)).any (·.1.isNone)) = false := by rfl) :
    PE X (.Call (.Name x p) [] kws pos) (tEMk C 0 (ps.drop 1).length sp E0 tNil tk) := by
  obtain ⟨fd, M, hm, nb⟩ := D.ex
  exact pe_emkK0 M hm hr (nb 0 hl) pass0 hkw hk hg hall hks hdb hpl
end
/-- the values xs are the data ds, and may stand in an error's text -/
def EDat (K : PySem.W.Frag) (H : Hp) (n : Nat) (xs : List V) (ds : List PyData) : Prop := xs.length = ds.length ∧ ∀ (i : Nat) (x : V), xs[i]? = some x → ∃ d, ds[i]? = some d ∧ Dp K H x d ∧ tupD n d = true ∧ Shown K H x
/-- C.__init__(self, ..): an error with its fields -/
def spErr (K : PySem.W.Frag) (C : Addr) (fs : List Str) (n : Nat) : Sp := fun vs H Q _ => ∃ (a : Addr) (xs : List V) (ds : List PyData), vs = .ref a :: xs ∧ xs.length = fs.length ∧ H a = some (exo a C none) ∧ EDat K H n xs ds ∧
  ∀ H', Part K H H' a C n ((fs.zip ds).reverse) → Q .non H'
theorem one_of {α : Type} {xs : List α} (h : xs.length = 1) : ∃ x, xs = [x] := by
  match xs, h with
  | [x], _ => exact ⟨x, rfl⟩
theorem two_of {α : Type} {xs : List α} (h : xs.length = 2) : ∃ x y, xs = [x, y] := by
  match xs, h with
  | [x, y], _ => exact ⟨x, y, rfl⟩
theorem three_of {α : Type} {xs : List α} (h : xs.length = 3) : ∃ x y z, xs = [x, y, z] := by
  match xs, h with
  | [x, y, z], _ => exact ⟨x, y, z, rfl⟩
theorem nil_of {α : Type} {xs : List α} (h : xs.length = 0) : xs = [] := by
  match xs, h with
  | [], _ => rfl
/-- SlipError, whose __init__ is that of ValueError -/
structure SlipB (K : PySem.W.Frag) (mg : Str → Option Value) (S : Addr) : Prop where
  gS : mg "SlipError" = some (.ref S)
  rd : PySem.W.readsIn K S (.type "type") = true
  ga : PySem.W.specialIn K (.ref S) "__getattribute__" = some (some (.builtin "type.__getattribute__"))
  vV : PySem.W.findCls K (.ref S) (.type "type") "__init__" = some (.val (.builtin "ValueError.__init__"))
structure LookB (K : PySem.W.Frag) (mg : Str → Option Value) : Prop where
  gL : mg "LookupError" = none
  vL : PySem.W.findCls K (.type "LookupError") (.type "type") "__init__" = some (.val (.builtin "LookupError.__init__"))
structure RunB (K : PySem.W.Frag) (mg : Str → Option Value) : Prop where
  gR : mg "RuntimeError" = none
  vR : PySem.W.findCls K (.type "RuntimeError") (.type "type") "__init__" = some (.val (.builtin "RuntimeError.__init__"))
theorem typ_LE : typeOf (.type "LookupError") = pure (.type "type") := by kernel_rfl
theorem typ_RE : typeOf (.type "RuntimeError") = pure (.type "type") := by kernel_rfl
/-- the error's class, as the text's top has written it, with its __init__ -/
structure EAtop (K : PySem.W.Frag) (mg : Str → Option Value) (x qual : Str) (C : Addr) (ini : String) (fs : List Str) (st : Stmt) : Prop where
  ec : EC K C ini
  mg : mg x = some (.ref C)
  ex : ∃ (fI : Addr) (fd : FuncData), PySem.W.findIn K (.ref C) "__init__" = some (some (.ref fI)) ∧ PySem.W.typeIn K (.ref fI) = some (.type "function") ∧ Fun K "__init__" qual st fI fd
  no : ∀ f ∈ fs, PySem.W.findIn K (.ref C) f = some none
theorem part0 {K : PySem.W.Frag} {H : Hp} {a C : Addr} {n : Nat} (ha : H a = some (exo a C none)) : Part K H H a C n [] := ⟨Off.refl a H, by rw [ha]; exact nt_exo, .inl ⟨rfl, ha⟩⟩
end Ss
namespace Ss
open PySem L2 PySem.Spec PyProof.Rows
def eNames : List Str := ["BadCount", "BadBook", "Ambiguous", "Unwritable", "Unused", "BadRule", "NoPlace", "NoCase", "Uneven", "Unwritten", "Clash", "Unknown", "TooFew", "NothingToUndo", "Refused", "TooDeep"]
/-- the sixteen error classes: which is which -/
structure ETab (K : PySem.W.Frag) (mg : Str → Option Value) (Cf : Nat → Addr) (S : Addr) : Prop where
  g : ∀ i x, eNames[i]? = some x → mg x = some (.ref (Cf i))
  gS : mg "SlipError" = some (.ref S)
  ec : ∀ i, i < 16 → ∃ ini, EC K (Cf i) ini
  own : ∀ i j, i < 16 → j < 16 → PySem.W.kitOne K (.ref (Cf i)) (.ref (Cf j)) = some (decide (i = j))
  slip : ∀ i, i < 16 → PySem.W.kitOne K (.ref (Cf i)) (.ref S) = some (decide (i < 11))
  val : ∀ i, i < 16 → PySem.W.kitOne K (.ref (Cf i)) (.type "ValueError") = some (decide (i < 11))
  look : ∀ i, i < 16 → PySem.W.kitOne K (.ref (Cf i)) (.type "LookupError") = some (decide (11 ≤ i ∧ i < 14))
  run : ∀ i, i < 16 → PySem.W.kitOne K (.ref (Cf i)) (.type "RuntimeError") = some (decide (14 ≤ i))
  bv : mg "ValueError" = none
  bl : mg "LookupError" = none
  br : mg "RuntimeError" = none
/-- at a: an error of the i-th class -/
def IsE (Cf : Nat → Addr) (H : Hp) (a : Addr) (i : Nat) : Prop := i < 16 ∧ ∃ dd, H a = some (exo a (Cf i) dd) ∧ ∀ d, dd = some d → ∃ fs, H d = some (exd d fs)
theorem IsE.mono {Cf : Nat → Addr} {H H' : Hp} {a : Addr} {i : Nat} (h : IsE Cf H a i) (s : Same H H') : IsE Cf H' a i := by
  obtain ⟨hi, dd, ha, hd⟩ := h
  exact ⟨hi, dd, s _ _ ha, fun d e => let ⟨fs, q⟩ := hd d e; ⟨fs, s _ _ q⟩⟩
section
variable {K : PySem.W.Frag} {mg : Str → Option Value} {Cf : Nat → Addr} {S : Addr} {H : Hp} {a : Addr} {i j : Nat}
theorem rc_isx (Z : ETab K mg Cf S) (h : IsE Cf H a i) {c : V} {cv : Value} {b : Bool} (k : ClsV c cv) (e : PySem.W.kitOne K (.ref (Cf i)) cv = some b) : Evl.RC (rIsX K) [.ref a, c] H (.bl b) := fun H1 s Q q => by
  obtain ⟨hi, dd, ha, hd⟩ := h.mono s
  obtain ⟨ini, T⟩ := Z.ec i hi
  exact ⟨a, Cf i, dd, ini, c, cv, b, rfl, ha, hd, T, k, e, q H1 (Evl.Ex.refl H1)⟩
theorem ev_isx (Z : ETab K mg Cf S) {σ : L2.St} (h0 : σ[0]? = some (some (.ref a))) (h : IsE Cf H a i) (j : Nat) (hj : j < 16) : Evl.Ev (tCB (rIsX K) (tCons (tVar 0) (tCons (tC (.ref (Cf j))) tNil))) σ H (.bl (decide (i = j))) :=
  Evl.ev_cb (Evl.ea_cons (Evl.ev_var h0) (Evl.ea_cons Evl.ev_c Evl.ea_nil)) (rc_isx Z h (.own _) (Z.own i j h.1 hj))
end
theorem el_cat {σ : L2.St} {H : Hp} {ta tb : TE} {l : Addr} {xs ys : List V} (ha : Evl.Ev ta σ H (.ref l)) (hl : H l = some (.lst xs)) (hb : Evl.EvL tb σ H ys) (hz : xs.length + ys.length ≤ 100000) : Evl.EvL (tOp rCat ta tb) σ H (xs ++ ys) := fun H1 e Q q =>
  ha H1 e _ fun H2 e2 => hb H2 (e.trans e2) _ fun p H3 hp e3 h3 => ⟨l, p, xs, ys, rfl, rfl, e3 _ _ (e2 _ _ (e _ _ hl)), h3, Evl.sz_of hz, fun r hr => q r _ (Evl.fresh_back (e2.trans e3) hr) ((e2.trans e3).trans (Evl.Ex.new hr)) upd_same⟩
/-- sixteen answers, the i-th one alone is yes -/
def bl16 (i : Nat) : List V := (List.range 16).map fun k => V.bl (decide (i = k))
/-- lists of truth values as data -/
theorem dp_bools {K : PySem.W.Frag} {H : Hp} : ∀ (bs : List Bool), DpAll K H (bs.map V.bl) (bs.map PyData.bool)
  | [] => .nil
  | b :: bs => .cons (.bl b) (dp_bools bs)
theorem lay_bools : ∀ bs : List Bool, PyData.canLayAll0 (bs.map PyData.bool) = true
  | [] => rfl
  | b :: bs => by
    rw [List.map_cons]
    show (PyData.canLay0 (.bool b) && PyData.canLayAll0 (bs.map PyData.bool)) = true
    rw [lay_bools bs]
    rfl
theorem deep_bools : ∀ bs : List Bool, PyData.depthAll (bs.map PyData.bool) = 0
  | [] => rfl
  | b :: bs => by
    rw [List.map_cons]
    show max (PyData.depth (.bool b)) (PyData.depthAll (bs.map PyData.bool)) = 0
    rw [deep_bools bs]
    rfl
theorem shaped_bools (bs : List Bool) : SeqAt.shaped (.list (bs.map PyData.bool)) = true := by
  show (PyData.canLayAll0 (bs.map PyData.bool) && decide (PyData.depthAll (bs.map PyData.bool) + 1 ≤ 64)) = true
  rw [lay_bools, deep_bools]
  rfl
theorem same_data {d : PyData} (h : SeqAt.shaped d = true) : PyData.eqv d d = true := SeqAt.eqv_refl d (SeqAt.canLay_of_shaped h)
/-- two lists of the same truth values are equal -/
theorem rv_eqb {K : PySem.W.Frag} {H : Hp} {p q : Addr} {bs : List Bool} (h1 : H p = some (.lst (bs.map V.bl))) (h2 : H q = some (.lst (bs.map V.bl))) : Evl.RV (rEqD K) (.ref p) (.ref q) H (.bl true) := fun H1 e Q k =>
  ⟨_, _, .lst (SqL.of (e _ _ h1)) (dp_bools bs), .lst (SqL.of (e _ _ h2)) (dp_bools bs), shaped_bools bs, shaped_bools bs, by rw [same_data (shaped_bools bs)]; exact k H1 (Evl.Ex.refl H1)⟩
theorem rv_neb {K : PySem.W.Frag} {H : Hp} {p q : Addr} {bs : List Bool} (h1 : H p = some (.lst (bs.map V.bl))) (h2 : H q = some (.lst (bs.map V.bl))) : Evl.RV (rNeD K) (.ref p) (.ref q) H (.bl false) := fun H1 e Q k =>
  ⟨_, _, .lst (SqL.of (e _ _ h1)) (dp_bools bs), .lst (SqL.of (e _ _ h2)) (dp_bools bs), shaped_bools bs, shaped_bools bs, by rw [same_data (shaped_bools bs)]; exact k H1 (Evl.Ex.refl H1)⟩
def b16 (i : Nat) : List Bool := (List.range 16).map fun k => decide (i = k)
theorem b16_bl (i : Nat) : (b16 i).map V.bl = bl16 i := by
  unfold b16 bl16
  rw [List.map_map]
  rfl
theorem given_b16 (i : Nat) : Evl.given 16 (fun _ => true) (fun k => V.bl (decide ((V.int (k : Int)) = V.int (i : Int)))) = (b16 i).map V.bl := by
  unfold Evl.given b16
  rw [List.filter_eq_self.mpr (fun _ _ => rfl), List.map_map]
  refine List.map_congr_left fun k _ => ?_
  show V.bl _ = V.bl _
  congr 1
  show decide ((V.int (k : Int)) = V.int (i : Int)) = decide (i = k)
  by_cases h : i = k
  · subst h; simp
  · rw [decide_eq_false h]
    refine decide_eq_false fun e => h ?_
    have q := V.int.inj e
    omega
def spClasses (Cf : Nat → Addr) : Sp := fun vs H Q _ => ∃ (a : Addr) (i : Nat), vs = [.ref a] ∧ IsE Cf H a i ∧ ∀ p H', H p = none → Same H H' → H' p = some (.lst ((b16 i).map V.bl)) → Q (.ref p) H'
def spIs (Cf : Nat → Addr) : Sp := fun vs H Q _ => ∃ (a : Addr) (i : Nat), vs = [.ref a, .int i] ∧ IsE Cf H a i ∧ ∀ H', Same H H' → Q (.bl true) H'
end Ss
namespace Ss
open PySem L2 PySem.Spec PyProof.Rows
theorem EDat.mono {K : PySem.W.Frag} {H H' : Hp} {n : Nat} {xs : List V} {ds : List PyData} (h : EDat K H n xs ds) (s : Same H H') : EDat K H' n xs ds :=
  ⟨h.1, fun i x e => let ⟨d, h1, h2, h3, h4⟩ := h.2 i x e; ⟨d, h1, Dp.mono s h2, h3, Shown.mono s h4⟩⟩
/-- at a: an error of the class at C with the fields fs -/
def Has (K : PySem.W.Frag) (H : Hp) (a C : Addr) (fs : List (Str × PyData)) : Prop := ∃ (dx : Addr) (vs : List (Str × V)), H a = some (exo a C (some dx)) ∧ H dx = some (exd dx vs) ∧ ∀ f d, fs.lookup f = some d → ∃ v, vs.lookup f = some v ∧ Dp K H v d
theorem Has.mono {K : PySem.W.Frag} {H H' : Hp} {a C : Addr} {fs : List (Str × PyData)} (h : Has K H a C fs) (s : Same H H') : Has K H' a C fs := by
  obtain ⟨dx, vs, h1, h2, h3⟩ := h
  exact ⟨dx, vs, s _ _ h1, s _ _ h2, fun f d e => let ⟨v, q1, q2⟩ := h3 f d e; ⟨v, q1, Dp.mono s q2⟩⟩
theorem Has.isE {K : PySem.W.Frag} {H : Hp} {a : Addr} {Cf : Nat → Addr} {i : Nat} {fs : List (Str × PyData)} (h : Has K H a (Cf i) fs) (hi : i < 16) : IsE Cf H a i := by
  obtain ⟨dx, vs, h1, h2, h3⟩ := h
  exact ⟨hi, some dx, h1, fun d e => by cases e; exact ⟨vs, h2⟩⟩
/-! ### what evaluates to data, to an error -/
def EvD (K : PySem.W.Frag) (te : TE) (σ : L2.St) (H : Hp) (d : PyData) : Prop := ∀ H1, Evl.Ex H H1 → ∀ Q : VK, (∀ v H2, Evl.Ex H1 H2 → Dp K H2 v d → Q v H2) → te σ H1 Q
def EvEx (K : PySem.W.Frag) (te : TE) (σ : L2.St) (H : Hp) (C : Addr) (fs : List (Str × PyData)) : Prop := ∀ H1, Evl.Ex H H1 → ∀ Q : VK, (∀ a H2, Evl.Ex H1 H2 → Has K H2 a C fs → Q (.ref a) H2) → te σ H1 Q
section
variable {K : PySem.W.Frag} {σ : L2.St} {H : Hp} {te ta tb : TE} {C : Addr} {fs : List (Str × PyData)} {d : PyData}
theorem evd_var {i : Nat} {x : V} (h : σ[i]? = some (some x)) (hd : Dp K H x d) : EvD K (tVar i) σ H d := fun H1 e Q q => ⟨x, h, q x H1 (Evl.Ex.refl H1) (Dp.mono e hd)⟩
theorem evx_var {i : Nat} {a : Addr} (h : σ[i]? = some (some (.ref a))) (hd : Has K H a C fs) : EvEx K (tVar i) σ H C fs := fun H1 e Q q => ⟨.ref a, h, q a H1 (Evl.Ex.refl H1) (hd.mono e)⟩
theorem evx_make {ta tk : TA} {n m : Nat} {names : List Str} {vs zs : List V} {ds : List PyData} (hv : Evl.EvA ta σ H vs) (hz : Evl.EvA tk σ H zs) (l1 : vs.length = n) (l2 : zs.length = m) (hl : (vs ++ zs).length = names.length) (hp : names ≠ []) (hd : EDat K H 1 (vs ++ zs) ds) :
    EvEx K (tEMk C n m (spErr K C names 1) E0 ta tk) σ H C ((names.zip ds).reverse) := fun H1 e1 Q q => hv H1 e1 _ fun H2 e2 => hz H2 (e1.trans e2) _ fun H3 e3 => ⟨l1, l2, fun a ha => by
      have s3 : Same H H3 := (e1.trans e2).trans e3
      have s4 : Same H (upd H3 a (exo a C none)) := Same.new s3 ha
      refine ⟨a, _, ds, rfl, hl, upd_same, hd.mono s4, fun H4 hP => ⟨rfl, ?_⟩⟩
      obtain ⟨hO, hN, hc⟩ := hP
      have s5 : Same H3 H4 := fun b o hb => hO b o (ne_of_none hb ha) (by rw [upd_ne (ne_of_none hb ha)]; exact hb)
      refine q a H4 ((e2.trans e3).trans s5) ?_
      rcases hc with ⟨hnil, _⟩ | ⟨dx, vs', h1, h2, _, _, _, h3⟩
      · have hz0 : (names.zip ds).length = 0 := by
          have := congrArg List.length hnil
          rwa [List.length_reverse] at this
        rw [List.length_zip] at hz0
        have e1 := hd.1
        have : names.length ≠ 0 := fun z => hp (List.eq_nil_of_length_eq_zero z)
        omega
      · exact ⟨dx, vs', h1, h2, fun f d e => (h3 f d e).2⟩⟩
theorem evd_ef {f : Str} {ini : String} (h : EvEx K te σ H C fs) (T : EC K C ini) (hno : PySem.W.findIn K (.ref C) f = some none) (hl : fs.lookup f = some d) : EvD K (tEF K f te) σ H d := fun H1 e Q q =>
  h H1 e _ fun a H2 e2 hh => by
    obtain ⟨dx, vs, h1, h2, h3⟩ := hh
    obtain ⟨v, q1, q2⟩ := h3 f d hl
    exact ⟨a, C, dx, ini, vs, v, rfl, h1, h2, T, hno, q1, q v H2 e2 q2⟩
theorem et_ned (h1 : EvD K ta σ H d) (h2 : EvD K tb σ H d) (hs : SeqAt.shaped d = true) : Evl.EvT (tTest (tOp (rNeD K) ta tb)) σ H false := fun H1 e Q q =>
  h1 H1 e _ fun v H2 e2 hv => h2 H2 (e.trans e2) _ fun w H3 e3 hw => ⟨d, d, Dp.mono e3 hv, hw, hs, hs, by rw [same_data hs]; exact ⟨false, rfl, q H3 (e2.trans e3)⟩⟩
theorem ev_eqd (h1 : EvD K ta σ H d) (h2 : EvD K tb σ H d) (hs : SeqAt.shaped d = true) : Evl.Ev (tOp (rEqD K) ta tb) σ H (.bl true) := fun H1 e Q q =>
  h1 H1 e _ fun v H2 e2 hv => h2 H2 (e.trans e2) _ fun w H3 e3 hw => ⟨d, d, Dp.mono e3 hv, hw, hs, hs, by rw [same_data hs]; exact q H3 (e2.trans e3)⟩
theorem q_asgX {D : Ends} {tz : TS} {i : Nat} (h : EvEx K te σ H C fs) (k : ∀ a H1, Evl.Ex H H1 → Has K H1 a C fs → tz D (σ.set i (some (.ref a))) H1) : tSeq (tAsg te (gName i)) tz D σ H := h H (Evl.Ex.refl H) _ fun a H1 e hh => k a H1 e hh
theorem ev_is {Cf : Nat → Addr} {a : Addr} {i : Nat} {E : XK} (h0 : σ[j]? = some (some (.ref a))) (h : IsE Cf H a i) : Evl.Ev (tCall (spIs Cf) [] E (tCons (tVar j) (tCons (tC (.int (i : Int))) tNil))) σ H (.bl true) :=
  Evl.ev_call (Evl.ea_cons (Evl.ev_var h0) (Evl.ea_cons Evl.ev_c Evl.ea_nil)) fun H1 e Q q _ => ⟨a, i, rfl, h.mono e, fun H2 s => q H2 s⟩
end
/-- a value that may be put into an error, as data d -/
structure Wth (K : PySem.W.Frag) (H : Hp) (v : V) (d : PyData) : Prop where
  dp : Dp K H v d
  tu : tupD 1 d = true
  sd : SeqAt.shaped d = true
  sn : Shown K H v
theorem Wth.mono {K : PySem.W.Frag} {H H' : Hp} {v : V} {d : PyData} (h : Wth K H v d) (s : Same H H') : Wth K H' v d := ⟨Dp.mono s h.dp, h.tu, h.sd, Shown.mono s h.sn⟩
theorem edat1 {K : PySem.W.Frag} {H : Hp} {v : V} {d : PyData} (h : Wth K H v d) : EDat K H 1 [v] [d] := ⟨rfl, fun i x e => by
  match i with
  | 0 => cases e; exact ⟨d, rfl, h.dp, h.tu, h.sn⟩
  | i + 1 => simp at e⟩
theorem edat2 {K : PySem.W.Frag} {H : Hp} {v v' : V} {d d' : PyData} (h : Wth K H v d) (h' : Wth K H v' d') : EDat K H 1 [v, v'] [d, d'] := ⟨rfl, fun i x e => by
  match i with
  | 0 => cases e; exact ⟨d, rfl, h.dp, h.tu, h.sn⟩
  | 1 => cases e; exact ⟨d', rfl, h'.dp, h'.tu, h'.sn⟩
  | i + 2 => simp at e⟩
theorem edat3 {K : PySem.W.Frag} {H : Hp} {v v' v2 : V} {d d' d2 : PyData} (h : Wth K H v d) (h' : Wth K H v' d') (h2 : Wth K H v2 d2) : EDat K H 1 [v, v', v2] [d, d', d2] := ⟨rfl, fun i x e => by
  match i with
  | 0 => cases e; exact ⟨d, rfl, h.dp, h.tu, h.sn⟩
  | 1 => cases e; exact ⟨d', rfl, h'.dp, h'.tu, h'.sn⟩
  | 2 => cases e; exact ⟨d2, rfl, h2.dp, h2.tu, h2.sn⟩
  | i + 3 => simp at e⟩
/-- the i-th error class, ready: its class, its __init__, its fields -/
structure Er (P : Program) (w : World) (K : PySem.W.Frag) (mg : Str → Option Value) (base : Heap) (Cf : Nat → Addr) (i : Nat) (x : Str) (ini : String) (names : List Str) : Prop where
  d : EDef P w K mg base 3 x (Cf i) ini ("self" :: names) (spErr K (Cf i) names 1)
  ec : EC K (Cf i) ini
  no : ∀ f ∈ names, PySem.W.findIn K (.ref (Cf i)) f = some none
end Ss
namespace Ss
open PySem L2 PySem.Spec PyProof.Rows
theorem lk1 {α : Type} {f : Str} {d : α} : [(f, d)].lookup f = some d := by rw [lookup_hd, if_pos rfl]
theorem lk2a {α : Type} {f g : Str} {d e : α} : [(g, e), (f, d)].lookup g = some e := by rw [lookup_hd, if_pos rfl]
theorem lk2b {α : Type} {f g : Str} {d e : α} (h : ¬ f = g) : [(g, e), (f, d)].lookup f = some d := by rw [lookup_hd, if_neg h]; exact lk1
theorem lk3a {α : Type} {f g k : Str} {d e c : α} : [(k, c), (g, e), (f, d)].lookup k = some c := by rw [lookup_hd, if_pos rfl]
theorem lk3b {α : Type} {f g k : Str} {d e c : α} (h : ¬ g = k) : [(k, c), (g, e), (f, d)].lookup g = some e := by rw [lookup_hd, if_neg h]; exact lk2a
theorem lk3c {α : Type} {f g k : Str} {d e c : α} (h : ¬ f = k) (h2 : ¬ f = g) : [(k, c), (g, e), (f, d)].lookup f = some d := by rw [lookup_hd, if_neg h]; exact lk2b h2
theorem ev_isN {K : PySem.W.Frag} {Cf : Nat → Addr} {σ : L2.St} {H : Hp} {E : XK} {i : Nat} (hi : i < 16) : Evl.Ev (tCall (spIs Cf) [] E (tCons (tEMk (Cf i) 0 0 (spErr K (Cf i) [] 1) E0 tNil tNil) (tCons (tC (.int (i : Int))) tNil))) σ H (.bl true) := fun H1 e Q q =>
  ⟨rfl, rfl, fun a ha => ⟨a, [], [], rfl, rfl, upd_same, ⟨rfl, fun i x e => by simp at e⟩, fun H2 hP => ⟨rfl, a, i, rfl, by
    obtain ⟨hO, hN, hc⟩ := hP
    have s5 : Same H1 H2 := fun b o hb => hO b o (ne_of_none hb ha) (by rw [upd_ne (ne_of_none hb ha)]; exact hb)
    refine ⟨?_, fun H3 s3 => q H3 (s5.trans s3)⟩
    rcases hc with ⟨_, h1⟩ | ⟨dx, vs', h1, h2, _, _, _, h3⟩
    · exact ⟨hi, none, h1, fun d e => by cases e⟩
    · exact ⟨hi, some dx, h1, fun d e => by cases e; exact ⟨vs', h2⟩⟩⟩⟩⟩
end Ss
namespace Ss
open PySem L2 PySem.Spec PyProof.Rows
/-- data lean on tuples alone -/
theorem Dp.tups {K : PySem.W.Frag} {H H' : Hp} (h1 : ∀ b xs, H b = some (.tup xs) → H' b = some (.tup xs)) (h2 : ∀ b o xs, H b = some (.frz o (.tup xs)) → H' b = some (.frz o (.tup xs))) : ∀ (n : Nat) (d : PyData) (v : V), tupD n d = true → Dp K H v d → Dp K H' v d := by
  intro n
  induction n with
  | zero =>
    intro d v ht h
    cases h with
    | non => exact .non
    | bl b => exact .bl b
    | int i => exact .int i
    | str x => exact .str x
    | lst _ _ => exact Bool.noConfusion ht
    | tup _ _ => exact Bool.noConfusion ht
  | succ n ih =>
    intro d v ht h
    cases h with
    | non => exact .non
    | bl b => exact .bl b
    | int i => exact .int i
    | str x => exact .str x
    | lst _ _ => exact Bool.noConfusion ht
    | @tup a xs ds hs ha =>
      have hall := (tupD_all ht).2
      refine .tup (xs := xs) ?_ (DpAll.imp (p := fun d => tupD n d = true) (fun d v hd h => ih d v hd h) ha hall)
      rcases hs with (hs | ⟨q, hs⟩) | hs
      · exact .inl (.inl (h1 _ _ hs))
      · exact .inl (.inr ⟨q, h2 _ _ _ hs⟩)
      · exact .inr hs
/-- raise C(e, ..), C's own __init__ keeping sp: n values -/
def tEMkR (C : Addr) (n : Nat) (sp : Sp) (ta : TA) : L2.St → Hp → XK → Prop := fun σ H Q => ta σ H fun vs H1 => vs.length = n ∧ ∀ a, H1 a = none → sp (.ref a :: vs) (upd H1 a (exo a C none))
  (fun v H2 => v = .non ∧ ∃ (d : Addr) (fs : List (Str × V)), H2 a = some (exo a C (some d)) ∧ H2 d = some (exd d fs) ∧ H1 d = none ∧ Q (.ref C) (some d) (upd (del H2 a) d (.xd fs))) (fun _ _ _ => False)
theorem pmk_ec {X : Cx} {x : Str} {C : Addr} {ini : String} {k j n : Nat} {ps : List Str} {sp : Sp} {e : Expr} {es : List Expr} {ta : TA} {p pos : Pos} (D : EDef X.prog X.w X.K X.mg X.base k x C ini ps sp) (hr : Room j X.A) (ha : PA X (e :: es) ta) (hd : ps.drop (n + 1) = []) (hl : n + 1 ≤ ps.length)
    (hk : k + 1 ≤ j := by decide) (hn : n ≤ 1000 := by decide) (hg : Gl X x := by rfl) (hdb : (x == ("__debug__" : Str)) = false := by decide) (he : starEach (e :: es) X.env = (false, eval e X.env) :: starEach es X.env := by rfl) (hpl : (backTo pos (starEach es X.env)).any (·.1) = false := by rfl) :
    PMk X (.Call (.Name x p) (e :: es) [] pos) (tEMkR C n sp ta) := by
  obtain ⟨fd, M, hm, nb⟩ := D.ex
  have hb : NB fd ps (n + 1) [] := by have q := nb n hl; rw [hd] at q; exact q
  obtain ⟨fI, iC, tI, F1⟩ := M.ex
  intro pins s σ H Q I h
  obtain ⟨B, newId, bmB, nm, q, N, bs, bm, sn, sub, ab, col, dd, k0, k1, k2, k3, k5, F, hC, hT, hbm⟩ := M.ec.cls
  refine wpAny_Call_Name_kw (ld_glob I hg hm ?_ hdb)
  refine PySem.W.callWith_K (h₀ := X.base) I.ok.mod.kin M.ec.kC (thn (ha.run pos pins s σ H _ I h) fun us s1 ⟨vs, H1, I1, r1, hz, q1⟩ => ⟨I1.kIn, ?_⟩) he hpl
  show wpAny _ _ (call (.ref C) us) _ _ _
  obtain ⟨hp, g, dr, tk, os⟩ := s1
  have hsz : hp.objs.size ≤ hp.objs.size + 1 := Nat.le_succ _
  have hq := q1 (hp.objs.size + 1) (I1.hok.fresh hsz)
  have kk : ∀ b o, hp.get? b = some o → ((hp.push (PySem.W.kdv_tup us)).push (PySem.HandSPX.excO C hp.objs.size)).get? b = some o := fun b o e => Heap.get?_push_of_some _ (Heap.get?_push_of_some _ e)
  have hget : ((hp.push (PySem.W.kdv_tup us)).push (PySem.HandSPX.excO C hp.objs.size)).get? (hp.objs.size + 1) = some (PySem.HandSPX.excO C hp.objs.size) := by heap_get
  have I2 : Inv X pins σ (upd H1 (hp.objs.size + 1) (exo (hp.objs.size + 1) C none)) ⟨(hp.push (PySem.W.kdv_tup us)).push (PySem.HandSPX.excO C hp.objs.size), g, dr, tk, os⟩ :=
    I1.laid (t' := tk) (a := hp.objs.size + 1) (o := exo (hp.objs.size + 1) C none) (h' := (hp.push (PySem.W.kdv_tup us)).push (PySem.HandSPX.excO C hp.objs.size)) kk hsz (exo_ok hget)
  have r2 : Vals (V.ref (hp.objs.size + 1) :: vs) (Value.ref (hp.objs.size + 1) :: (us ++ [])) := by rw [List.append_nil]; exact .cons rfl r1
  have e1 : (Value.ref (hp.objs.size + 1) :: us).length = n + 1 := congrArg Nat.succ (r1.length.symm.trans hz)
  have hus : us.length ≤ sizeLine := by
    rw [← r1.length, hz, sizeLine_eq]
    omega
  refine wpAny_call (SsE.call_kw F hT (I1.kIn _ _ hC) (PySem.W.looks_findIn I1.kIn iC) (fun self => PySem.W.bind_fn I1.kIn self tI) hus
    (codeAny_mono (F1.run _ X.stack _ _ ⟨Value.ref (hp.objs.size + 1) :: us, []⟩ (Value.ref (hp.objs.size + 1) :: us ++ []) _ _ (fun _ _ _ => False) ((hr.mono hk).make C us []) (I2.env0.make C us []) (hb.to _ _ [] e1 rfl) r2 hq) fun r s' hq' => ?_))
  cases r with
  | error er => exact False.elim hq'
  | ok fl =>
    cases fl with
    | ret u =>
      obtain ⟨v, H2, os2, bare2, un2, hok2, rv, ev, d, fs, ea, ed, hd1, q2⟩ := hq'
      subst ev
      obtain ⟨h2, g2, d2, t2, os'⟩ := s'
      exact ⟨rv, mk_end (raises_own M.ec.exC M.ec.tyC) I1 hsz kk un2 hok2 os2 bare2 ea ed hd1 q2⟩
    | next => exact False.elim hq'
    | brk => exact False.elim hq'
    | cont => exact False.elim hq'
/-- isinstance(e, c), e the error that the suite holds at a: its class cls, its dict d -/
def rIsS (K : PySem.W.Frag) (a : Addr) (cls : Value) (d : Option Addr) : List V → Hp → VK → Prop := fun xs H Q => ∃ (C : Addr) (ini : String) (dd : Addr) (fs : List (Str × V)) (c : V) (cv : Value) (b : Bool), xs = [.ref a, c] ∧ cls = .ref C ∧ d = some dd ∧ H dd = some (.xd fs) ∧ EC K C ini ∧
  ClsV c cv ∧ PySem.W.kitOne K (.ref C) cv = some b ∧ Q (.bl b) H
theorem call_isS {X : Cx} {a : Addr} {oe : Obj} {cls : Value} {d : Option Addr} {pn : List (Addr × Obj)} (hz : Zc cls d oe) (hf : ∃ vs, oe.data = .fields vs) : CallR (X.suite a ((a, oe) :: pn)) (.builtin "isinstance") (rIsS X.K a cls d) := by
  intro pins s σ H xs us Q I r h
  obtain ⟨C, ini, dd, fs, c, cv, b, rfl, rfl, rfl, ed, T, k, e, q⟩ := h
  obtain ⟨u1, u2, rfl, r1, r2⟩ := vals2 r
  have e2 := k.eq r2
  subst e2
  cases (show u1 = Value.ref a from r1)
  obtain ⟨hget, _⟩ := I.pin (a, oe) (List.mem_append.mpr (.inl List.mem_cons_self))
  obtain ⟨vs, hv⟩ := hf
  obtain ⟨mA, hns, hr⟩ := (show ObjOk X.prog X.w H s.heap dd (.xd fs) from I.hok dd _ ed)
  obtain ⟨od, ho, hl⟩ := lookIn_ns hns
  have J : ∃ od, PySem.W.InstAt s.heap a oe C od := ⟨some od, hget, hz.1, by unfold PySem.W.notCls; rw [hv] <;> rfl, by rw [hz.2]; exact ho⟩
  exact PySem.W.kia_one (PySem.W.ssKit T.ga T.gg T.exC T.hdC T.ha T.hn T.ht T.hm) I.kIn J e (fun z => nomatch z) fun tk => ⟨.bl b, H, I.kept (t' := tk) fun _ _ z => z, rfl, q⟩
theorem EC.xf {K : PySem.W.Frag} {C : Addr} {ini : String} (T : EC K C ini) : XfC K C := ⟨T.ga, T.gg, T.exC, T.hdC⟩
/-- behind the making of a raised error with one field: what was tracked stands, the field holds the data -/
theorem emkr_one {K : PySem.W.Frag} {σ : L2.St} {H : Hp} {C : Addr} {f : Str} {i : Nat} {v : V} {d : PyData} {Q : XK} (hi : σ[i]? = some (some v)) (hw : Wth K H v d)
    (k : ∀ (dd : Addr) (fs : List (Str × V)) (v' : V) (H' : Hp), Same H H' → H' dd = some (.xd fs) → fs.lookup f = some v' → Dp K H' v' d → Q (.ref C) (some dd) H') : tEMkR C 1 (spErr K C [f] 1) (tCons (tVar i) tNil) σ H Q := by
  refine ⟨v, hi, rfl, fun a ha => ?_⟩
  have s4 : Same H (upd H a (exo a C none)) := Same.new (Same.refl H) ha
  refine ⟨a, [v], [d], rfl, rfl, upd_same, edat1 (hw.mono s4), fun H2 hP => ⟨rfl, ?_⟩⟩
  obtain ⟨hO, hN, hc⟩ := hP
  rcases hc with ⟨hnil, _⟩ | ⟨dx, vs', h1, h2, h0, hne, _, h3⟩
  · cases hnil
  have h0x : H dx = none := by rw [upd_ne hne] at h0; exact h0
  obtain ⟨_, v', q1, q2⟩ := h3 f d lk1
  refine ⟨dx, vs', h1, h2, h0x, k dx vs' v' _ (fun b o hb => ?_) upd_same q1 ?_⟩
  · have nba := ne_of_none hb ha
    have nbd := ne_of_none hb h0x
    rw [upd_ne nbd, del_ne nba]
    exact hO b o nba (by rw [upd_ne nba]; exact hb)
  · refine Dp.tups (H := H2) (fun b xs hb => ?_) (fun b o xs hb => ?_) 1 d v' hw.tu q2
    · rw [upd_ne (fun z => by rw [z, h2] at hb; cases hb), del_ne (fun z => by rw [z, h1] at hb; cases hb)]
      exact hb
    · rw [upd_ne (fun z => by rw [z, h2] at hb; cases hb), del_ne (fun z => by rw [z, h1] at hb; cases hb)]
      exact hb
end Ss
namespace Ss
open PySem L2 PyProof.Rows
/-- raise C(e), e any expression whose value may stand in an error -/
theorem emkr_oneE {K : PySem.W.Frag} {σ : L2.St} {H : Hp} {C : Addr} {f : Str} {te : TE} {v : V} {d : PyData} {Q : XK} (he : Evl.Ev te σ H v) (hw : Wth K H v d)
    (k : ∀ (dd : Addr) (fs : List (Str × V)) (v' : V) (H' : Hp), Same H H' → H' dd = some (.xd fs) → fs.lookup f = some v' → Dp K H' v' d → Q (.ref C) (some dd) H') : tEMkR C 1 (spErr K C [f] 1) (tCons te tNil) σ H Q := by
  refine he H (Evl.Ex.refl H) _ fun H1 s1 => ?_
  have q := emkr_one (K := K) (σ := [some v]) (i := 0) (C := C) (f := f) (Q := Q) rfl (hw.mono s1) fun dd fs v' H' s h1 h2 h3 => k dd fs v' H' (s1.trans s) h1 h2 h3
  obtain ⟨v2, e2, q⟩ := q
  cases e2
  exact q
/-! ### tokens -/
def sgC (c : Nat) : Bool := decide (33 ≤ c) && decide (c ≤ 126) && decide (c ≠ 37)
def tokOk (z : Str) : Bool := decide (1 ≤ z.length) && decide (z.length ≤ 4) && z.cps.toList.all sgC
theorem sg_iff : ∀ c : Nat, sgC c = true ↔ c ∈ SGN := by
  intro c
  have h1 : ∀ c, c < 200 → (sgC c = decide (c ∈ SGN)) := by decide +kernel
  by_cases h : c < 200
  · rw [h1 c h, decide_eq_true_eq]
  · constructor
    · intro z
      unfold sgC at z
      simp only [Bool.and_eq_true, decide_eq_true_eq] at z
      omega
    · intro z
      have q : ∀ d ∈ SGN, d < 200 := by decide +kernel
      exact absurd (q c z) h
theorem tok_mk {t : List Nat} (h1 : 1 ≤ t.length) (h2 : t.length ≤ 4) (h : ∀ c ∈ t, c ∈ SGN) : tokOk (mkS t) = true := by
  unfold tokOk
  rw [mkS_len, mkS_cps, decide_eq_true h1, decide_eq_true h2]
  exact List.all_eq_true.mpr fun c hc => (sg_iff c).mpr (h c hc)
def spIsTok : Sp := fun vs H Q _ => ∃ z : Str, vs = [.str z] ∧ z.length ≤ 1000000 ∧ ∀ H', Same H H' → Q (.bl (tokOk z)) H'
/-- a sign in its place -/
theorem le1 (a b : Nat) : (!decide ((⟨#[b]⟩ : Str).cps.toList < (⟨#[a]⟩ : Str).cps.toList)) = decide (a ≤ b) := by
  show (!decide ([b] < [a])) = decide (a ≤ b)
  by_cases h : a ≤ b
  · rw [decide_eq_true h, decide_eq_false]; · rfl
    intro z
    rcases List.cons_lt_cons_iff.mp z with q | ⟨_, q⟩
    · omega
    · exact absurd q (by simp)
  · rw [decide_eq_false h, decide_eq_true]; · rfl
    exact List.cons_lt_cons_iff.mpr (.inl (by omega))
theorem ev_chain {r r' : R2} {σ : L2.St} {H : Hp} {ta tb tc : TE} {x y z : V} {a b : Bool} (ha : Evl.Ev ta σ H x) (hb : Evl.Ev tb σ H y) (h1 : Evl.RV r x y H (.bl a)) (hc : a = true → Evl.Ev tc σ H z ∧ Evl.RV r' y z H (.bl b)) : Evl.Ev (tChain r r' ta tb tc) σ H (.bl (a && b)) := fun H1 e Q q =>
  ha H1 e _ fun H2 e2 => hb H2 (e.trans e2) _ fun H3 e3 => h1 H3 ((e.trans e2).trans e3) _ fun H4 e4 => ⟨a, rfl, by
    have e14 := (e2.trans e3).trans e4
    cases a with
    | true =>
      rw [if_pos rfl]
      obtain ⟨h2, h3⟩ := hc rfl
      exact h2 H4 (e.trans e14) _ fun H5 e5 => h3 H5 ((e.trans e14).trans e5) _ fun H6 e6 => q H6 ((e14.trans e5).trans e6)
    | false => exact q H4 e14⟩
theorem rv_leS {H : Hp} {x y : Str} {a b : Nat} (hx : x = ⟨#[a]⟩) (hy : y = ⟨#[b]⟩) : Evl.RV (fun x y H Q => ∃ i j, x = .str i ∧ y = .str j ∧ Q (.bl (!decide (j.cps.toList < i.cps.toList))) H) (.str x) (.str y) H (.bl (decide (a ≤ b))) := fun H1 _ Q q => by
  subst hx; subst hy
  exact ⟨_, _, rfl, rfl, by rw [le1]; exact q H1 (Evl.Ex.refl H1)⟩
/-! ### rules -/
inductive RK | out | twice | swapped | taken
  deriving DecidableEq
def RK.word : RK → Str
  | .out => "out"
  | .twice => "twice"
  | .swapped => "swapped"
  | .taken => "taken"
def RK.many : RK → Nat
  | .out => 1
  | .twice => 1
  | .swapped => 2
  | .taken => 2
def RK.rem : RK → List Str → List Str
  | .out, [a] => [a]
  | .twice, [a] => [a]
  | .swapped, [a, b] => [a, b]
  | .taken, [a, _] => [a]
  | _, _ => []
def RK.ins : RK → List Str → List Str
  | .out, [_] => []
  | .twice, [a] => [a, a]
  | .swapped, [a, b] => [b, a]
  | .taken, [_, b] => [b]
  | _, _ => []
theorem RK.word_inj : ∀ {a b : RK}, a.word = b.word → a = b := by
  intro a b
  cases a <;> cases b <;> first | exact fun _ => rfl | (intro h; exact absurd h (by decide +kernel))
/-- what is wrong with the tokens of a rule -/
def badOf : List Str → Option Str
  | [a] => if tokOk a = true then none else some a
  | [a, b] => if tokOk a = true then (if tokOk b = true then (if a = b then some a else none) else some b) else some a
  | _ => none
/-- a rule of the class at C -/
def RuleAt (H : Hp) (C p : Addr) (k : RK) (toks : List Str) : Prop := ∃ dx t r i, H p = some (.ins C dx [("tokens", .ref t), ("removed", .ref r), ("inserted", .ref i)]) ∧ H t = some (.tup (toks.map V.str)) ∧
  H r = some (.tup ((k.rem toks).map V.str)) ∧ H i = some (.tup ((k.ins toks).map V.str))
theorem RuleAt.mono {H H' : Hp} {C p : Addr} {k : RK} {toks : List Str} (h : RuleAt H C p k toks) (s : Same H H') : RuleAt H' C p k toks := by
  obtain ⟨dx, t, r, i, h1, h2, h3, h4⟩ := h
  exact ⟨dx, t, r, i, s _ _ h1, s _ _ h2, s _ _ h3, s _ _ h4⟩
theorem RuleAt.own {H : Hp} {C p : Addr} {k : RK} {toks : List Str} (h : RuleAt H C p k toks) : Own H p C := let ⟨dx, t, r, i, h1, _⟩ := h; ⟨dx, _, h1⟩
/-- what the classes of rules have -/
structure RCl (K : PySem.W.Frag) (C : Addr) (w : Str) : Prop where
  cl : Cls K C
  t : NoAttr K C "tokens"
  r : NoAttr K C "removed"
  i : NoAttr K C "inserted"
  word : ∃ u, Con K C "word" (.str w) u
  cla : PySem.W.findIn K (.ref C) "__class__" = some (some (.builtin "object.__class__"))
  hn : PySem.W.specialIn K (.builtin "object.__class__") "__get__" = some (some (.builtin "getset_descriptor.__get__"))
  htk : PySem.W.takesIn K (.builtin "object.__class__") = some true
  clm : PySem.W.mroIn K C (.type "object") = some true
/-- a text that may stand in an error -/
def wordOk (z : Str) : Prop := z.length ≤ 100 ∧ ∀ c ∈ z.cps.toList, c < 1000
theorem wth_str {K : PySem.W.Frag} {H : Hp} {z : Str} (h : wordOk z) : Wth K H (.str z) (.str z) := by
  have e := mkS_of z
  refine ⟨.str z, rfl, ?_, .inl ?_⟩
  · show (PyData.canLay0 (.str z) && decide (0 ≤ 64)) = true
    have q : PyData.canLay0 (.str z) = true := by
      show z.cps.all (fun c => decide (c < 0x110000)) = true
      rw [← Array.all_toList]
      exact List.all_eq_true.mpr fun c hc => decide_eq_true (Nat.lt_of_lt_of_le (h.2 c hc) (by decide))
    rw [q]; rfl
  · exact ⟨by have := h.1; omega, fun c hc => Nat.lt_of_lt_of_le (h.2 c hc) (by decide)⟩
/-- the error of a bad token, behind H -/
def Bad (Cb : Addr) (H : Hp) (z : Str) (E : XK) : Prop := ∀ (dd : Addr) (fs : List (Str × V)) (H' : Hp), Same H H' → H' dd = some (.xd fs) → fs.lookup ("worth" : Str) = some (V.str z) → E (.ref Cb) (some dd) H'
theorem Bad.mono {Cb : Addr} {H H' : Hp} {z : Str} {E : XK} (h : Bad Cb H z E) (s : Same H H') : Bad Cb H' z E := fun dd fs H2 s2 e1 e2 => h dd fs H2 (s.trans s2) e1 e2
/-- Rule.__init__(self, *tokens): t the tuple of the tokens -/
def spRI (Cb : Addr) (K : PySem.W.Frag) : Sp := fun vs H Q E => ∃ (p t C dx : Addr) (toks : List Str), vs = [.ref p, .ref t] ∧ H t = some (.tup (toks.map V.str)) ∧ H p = some (.ins C dx []) ∧ Cls K C ∧ NoAttr K C "tokens" ∧ (toks.length = 1 ∨ toks.length = 2) ∧ (∀ z ∈ toks, wordOk z) ∧
  (badOf toks = none → ∀ H', Same H H' → Q .non (upd H' p (.ins C dx [("tokens", .ref t)]))) ∧ (∀ z, badOf toks = some z → Bad Cb H z E)
/-- the promise of an __init__ of a class of rules -/
def spNew (Cb C : Addr) (k : RK) : Sp := fun vs H Q E => ∃ (p dx : Addr) (toks : List Str), vs = .ref p :: toks.map V.str ∧ toks.length = k.many ∧ H p = some (.ins C dx []) ∧ (∀ z ∈ toks, wordOk z) ∧
  (badOf toks = none → ∀ H', Off p H H' → RuleAt H' C p k toks → Q .non H') ∧ (∀ z, badOf toks = some z → Bad Cb H z E)
theorem putF_tok (x : V) : putF "tokens" x [] = ([("tokens", x)] : List (Str × V)) := rfl
theorem putF_rem (x y : V) : putF "removed" y [("tokens", x)] = ([("tokens", x), ("removed", y)] : List (Str × V)) := by
  unfold putF; rw [if_neg (by decide +kernel)]; rfl
theorem putF_ins (x y z : V) : putF "inserted" z [("tokens", x), ("removed", y)] = ([("tokens", x), ("removed", y), ("inserted", z)] : List (Str × V)) := by
  unfold putF; rw [if_neg (by decide +kernel)]; unfold putF; rw [if_neg (by decide +kernel)]; rfl
/-- the two last stores of an __init__ -/
theorem rule_end {H0 H1 : Hp} {C p dx t r i : Addr} {k : RK} {toks : List Str} {fs0 : List (Str × V)} (hp : H0 p = some (.ins C dx fs0)) (s : Off p H0 H1) (ht : H1 t = some (.tup (toks.map V.str))) (hp1 : H1 p = some (.ins C dx [("tokens", .ref t)])) (hr : H1 r = none)
    (hi : upd (upd H1 r (.tup ((k.rem toks).map V.str))) p (.ins C dx [("tokens", .ref t), ("removed", .ref r)]) i = none) :
    Off p H0 (upd (upd (upd (upd H1 r (.tup ((k.rem toks).map V.str))) p (.ins C dx [("tokens", .ref t), ("removed", .ref r)])) i (.tup ((k.ins toks).map V.str))) p (.ins C dx [("tokens", .ref t), ("removed", .ref r), ("inserted", .ref i)])) ∧
    RuleAt (upd (upd (upd (upd H1 r (.tup ((k.rem toks).map V.str))) p (.ins C dx [("tokens", .ref t), ("removed", .ref r)])) i (.tup ((k.ins toks).map V.str))) p (.ins C dx [("tokens", .ref t), ("removed", .ref r), ("inserted", .ref i)])) C p k toks := by
  have nrp : p ≠ r := ne_of_none hp1 hr
  have ntp : t ≠ p := fun e => by rw [e, hp1] at ht; cases ht
  have ntr : t ≠ r := ne_of_none ht hr
  have nip : i ≠ p := fun e => by rw [e, upd_same] at hi; cases hi
  have nir : i ≠ r := fun e => by rw [e, upd_ne nrp.symm, upd_same] at hi; cases hi
  have nit : t ≠ i := fun e => by rw [← e, upd_ne ntp, upd_ne ntr, ht] at hi; cases hi
  refine ⟨fun a o na ha => ?_, dx, t, r, i, upd_same, ?_, ?_, ?_⟩
  · have h1 := s a o na ha
    have nar : a ≠ r := ne_of_none h1 hr
    have nai : a ≠ i := fun e => by rw [← e, upd_ne na, upd_ne nar, h1] at hi; cases hi
    rw [upd_ne na, upd_ne nai, upd_ne na, upd_ne nar]; exact h1
  · rw [upd_ne ntp, upd_ne nit, upd_ne ntp, upd_ne ntr]; exact ht
  · rw [upd_ne nrp.symm, upd_ne nir.symm, upd_ne nrp.symm, upd_same]
  · rw [upd_ne nip, upd_same]
end Ss
namespace Ss
open PySem L2
def topS (i : Nat) : Stmt := PySem.Challenge.pw_silentslips_k43_places_and_slips.main.body.getD i (.Pass ⟨0, 0, 0, 0⟩)
abbrev sBag : Stmt := topS 20
theorem scBag : FnScope ["script", "at", "cell", "digits"] ["script", "at"] (defScope sBag) := ⟨rfl, rfl, rfl, by decide +kernel, rfl, by decide +kernel, by decide +kernel⟩
abbrev sTake : Stmt := topS 21
theorem scTake : FnScope ["dice", "many", "digit", "mixed"] ["dice", "many"] (defScope sTake) := ⟨rfl, rfl, rfl, by decide +kernel, rfl, by decide +kernel, by decide +kernel⟩
abbrev sOf : Stmt := topS 22
theorem scOf : FnScope ["dice", "some"] ["dice", "some"] (defScope sOf) := ⟨rfl, rfl, rfl, by decide +kernel, rfl, by decide +kernel, by decide +kernel⟩
abbrev sSigns : Stmt := topS 23
theorem scSigns : FnScope ["some"] [] (defScope sSigns) := ⟨rfl, rfl, rfl, by decide +kernel, rfl, by decide +kernel, by decide +kernel⟩
abbrev sToken : Stmt := topS 24
theorem scToken : FnScope ["dice", "taken", "chars", "made", "turn", "base", "sign"] ["dice", "taken"] (defScope sToken) := ⟨rfl, rfl, rfl, by decide +kernel, rfl, by decide +kernel, by decide +kernel⟩

def spBag (K : PySem.W.Frag) : Sp := fun vs H Q _ => ∃ (a : Addr) (ns : List Int) (i : Nat), vs = [.ref a, .int i] ∧ SqL K H a (ns.map V.int) ∧ ns.length ≤ 63 ∧ i ≤ 63 ∧
  ∀ (p : Addr) (H' : Hp), H p = none → Same H H' → Bag H' p 0 → Q (.ref p) H'
def spTake : Sp := fun vs H Q _ => ∃ (b : Addr) (many : Int) (n : Nat), vs = [.ref b, .int many] ∧ Bag H b n ∧ n ≤ 1000000000 ∧ 1 ≤ many ∧ many < 2 ^ 200 ∧
  ∀ (i : Int) (H' : Hp), 0 ≤ i → i < many → Off b H H' → Bag H' b (n + 1) → Q (.int i) H'
/-- one of some: of a list, a tuple, a text -/
def spOf (K : PySem.W.Frag) : Sp := fun vs H Q _ => ∃ (b : Addr) (n : Nat), Bag H b n ∧ n ≤ 1000000000 ∧
  ((∃ (p : Addr) (xs : List V), vs = [.ref b, .ref p] ∧ p ≠ b ∧ SqL K H p xs ∧ 1 ≤ xs.length ∧ xs.length ≤ 1000000 ∧ ∀ (x : V) (H' : Hp), x ∈ xs → Off b H H' → Bag H' b (n + 1) → Q x H') ∨
   (∃ (z : Str), vs = [.ref b, .str z] ∧ 1 ≤ z.length ∧ z.length ≤ 1000000 ∧ ∀ (c : Nat) (H' : Hp), c ∈ z.cps.toList → Off b H H' → Bag H' b (n + 1) → Q (.str ⟨#[c]⟩) H'))
section
variable {P : Program} {w : World} {K : PySem.W.Frag} {mg : Str → Option Value} {base : Heap}
theorem ok_bag (F : DefAt K mg "_law_bag" sBag) (T : G0 mg) : Dk P w K mg base CX0 1 "_law_bag" ["script", "at"] (spBag K) := by
  obtain ⟨f, fd, F, mf⟩ := F.ex
  refine ⟨f, fd, F.ok scBag (fun vs H Q E h => ?_) (fun cdv A outer s H vs Q E hr h => ?_), mf, F.kp, F.binds fun _ _ _ _ _ _ us hl => match us, hl with | [_, _], _ => rfl⟩
  · obtain ⟨a, ns, i, rfl, _⟩ := h
    rfl
  · obtain ⟨a, ns, i, rfl, hS, hl, hi, k⟩ := h
    refine ⟨_, (Evl.pss_cut (ps_set (i := 2) scBag.nd rfl (Or.inl rfl) (pe_ifExp (pt_cmpR op_lt (pv 1) (pe_callB call_len_seq (by rfl) T.len (by decide +kernel) (pa_cons (pv 0) pa_nil)) (nomark _)) (pe_ix ix_list (pv 0) (pv 1) (fun _ _ => rfl)) pe_int)) (Evl.pss_cut (ps_set (i := 3) scBag.nd rfl (Or.inl rfl) (pe_ifExp (pt_cmpR op_ge (pe_callB call_abs (by rfl) T.abs (by decide +kernel) (pa_cons (pv 2) pa_nil)) (pe_op op_pow pe_int pe_int) (nomark _)) (pe_callB call_abs (by rfl) T.abs (by decide +kernel) (pa_cons (pv 2) pa_nil)) pe_int)) (pss_one (ps_ret (pe_lst (pa_cons (pv 3) (pa_cons (pe_op op_add (pe_op op_add (pe_op op_mul (pe_op op_mod (pe_callTy call_int1 (by rfl) T.int (by decide +kernel) (pa_cons (pv 2) pa_nil)) pe_int) pe_int) (pe_op op_mul pe_int (pv 1))) pe_int) (pa_cons pe_int pa_nil)))))))), ?_⟩
    refine ⟨fun σ' H' => H' = H ∧ ∃ cell : Int, σ' = [some (.ref a), some (.int i), some (.int cell), none], ?_, ?_⟩
    · refine ⟨_, rfl, _, rfl, a, _, rfl, .inl hS, _, _, rfl, rfl, _, rfl, ?_⟩
      refine ite2 (fun c => ?_) (fun c => ?_)
      · have c' : i < ns.length := by
          have q := of_decide_eq_true c
          rw [List.length_map] at q
          omega
        exact ⟨_, rfl, _, rfl, a, _, i, _, rfl, rfl, hS, atI_nat (by rw [List.getElem?_map, List.getElem?_eq_getElem c']; rfl), rfl, _, rfl⟩
      · exact ⟨rfl, 0, rfl⟩
    rintro _ H2 ⟨rfl, cell, rfl⟩
    refine ⟨fun σ' H1 => H1 = H2 ∧ ∃ d : Int, 0 ≤ d ∧ σ' = [some (.ref a), some (.int i), some (.int cell), some (.int d)], ?_, ?_⟩
    · refine ⟨_, rfl, _, rfl, _, _, rfl, rfl, ⟨by decide, by decide, by decide⟩, _, _, rfl, rfl, _, rfl, ?_⟩
      refine ite2 (fun c => ?_) (fun c => ?_)
      · refine ⟨_, rfl, _, rfl, rfl, _, ?_, rfl⟩
        split <;> omega
      · exact ⟨rfl, 0, Int.le_refl _, rfl⟩
    rintro _ _ ⟨rfl, d, hd, rfl⟩
    refine ⟨_, rfl, _, rfl, .inl ⟨_, rfl, _, _, rfl, rfl, (by show (0 : Int) < 2305843009213693951; decide), _, _, rfl, rfl, .inr ⟨by decide, by decide⟩, _, rfl, _, _, rfl, rfl, .inl ⟨by decide, by decide⟩, _, _, rfl, rfl, _, _, rfl, rfl, ?_⟩⟩
    refine ⟨by show 3 ≤ sizeLine; decide, fun p hp => ?_⟩
    have h1 := Int.emod_nonneg cell (show (2305843009213693951 : Int) ≠ 0 by decide)
    have h2 := Int.emod_lt_of_pos cell (show (0 : Int) < 2305843009213693951 by decide)
    refine k p _ hp (fun b o e => ?_) ⟨d, _, 0, upd_same, hd, ?_, ?_, Int.le_refl _, Int.le_refl _⟩
    · rw [upd_ne (ne_of_none e hp)]; exact e
    · omega
    · show _ < (11529215047000000000 : Int)
      omega
theorem ok_take (F : DefAt K mg "_law_take" sTake) (T : G0 mg) : Dk P w K mg base CX0 1 "_law_take" ["dice", "many"] spTake := by
  obtain ⟨f, fd, F, mf⟩ := F.ex
  refine ⟨f, fd, F.ok scTake (fun vs H Q E h => ?_) (fun cdv A outer s H vs Q E hr h => ?_), mf, F.kp, F.binds fun _ _ _ _ _ _ us hl => match us, hl with | [_, _], _ => rfl⟩
  · obtain ⟨b, many, n, rfl, _⟩ := h
    rfl
  · obtain ⟨b, many, n, rfl, ⟨d, m, c, hb, hd, hm, hM, hc, hn⟩, hn9, h1, h2, k⟩ := h
    have hM : m < (11529215047000000000 : Int) := hM
    have hW : CDivW d many := wide_div (b := 200) (by omega) (by omega) (by decide) (by decide)
    refine ⟨_, (pss_cons (ps_if (pt_cmpR op_gt (pe_ix ix_list (pv 0) pe_int (fun _ _ => rfl)) pe_int (nomark _)) (pss_cons (ps_set (i := 2) scTake.nd rfl (Or.inl rfl) (pe_op op_mod (pe_callTy call_int1 (by rfl) T.int (by decide +kernel) (pa_cons (pe_ix ix_list (pv 0) pe_int (fun _ _ => rfl)) pa_nil)) (pv 1))) (pss_cons (ps_asg (pe_op op_fdivW (pe_ix ix_list (pv 0) pe_int (fun _ _ => rfl)) (pv 1)) (pg_sub (pv 0) pe_int set_list)) (pss_one (ps_ret (pv 2))))) pss_nil) (pss_cons (ps_asg (pe_op op_add (pe_ix ix_list (pv 0) pe_int (fun _ _ => rfl)) pe_int) (pg_sub (pv 0) pe_int set_list)) (pss_cons (ps_set (i := 3) scTake.nd rfl (Or.inl rfl) (pe_op op_mod (pe_callTy call_int1 (by rfl) T.int (by decide +kernel) (pa_cons (pe_op op_pow (pe_op op_add (pe_ix ix_list (pv 0) pe_int (fun _ _ => rfl)) (pe_op op_mul pe_int (pe_ix ix_list (pv 0) pe_int (fun _ _ => rfl)))) pe_int) pa_nil)) pe_int)) (pss_cons (ps_set (i := 3) scTake.nd rfl (Or.inl rfl) (pe_op op_mod (pe_callTy call_int1 (by rfl) T.int (by decide +kernel) (pa_cons (pe_op op_pow (pe_op op_add (pv 3) (pe_op op_mul pe_int (pe_ix ix_list (pv 0) pe_int (fun _ _ => rfl)))) pe_int) pa_nil)) pe_int)) (pss_one (ps_ret (pe_op op_mod (pe_callTy call_int1 (by rfl) T.int (by decide +kernel) (pa_cons (pe_op op_fdivW (pv 3) pe_int) pa_nil)) (pv 1)))))))), ?_⟩
    refine ⟨_, rfl, b, _, 0, _, rfl, rfl, SqL.of hb, rfl, _, _, rfl, rfl, _, rfl, ?_⟩
    refine ite2 (fun c0 => ?_) (fun c0 => ?_)
    · refine ⟨_, rfl, b, _, 0, _, rfl, rfl, SqL.of hb, rfl, .inl ⟨_, rfl, _, rfl, _, _, rfl, rfl, (by show (0 : Int) < many; omega), ?_⟩⟩
      refine ⟨_, rfl, b, _, 0, _, rfl, rfl, SqL.of hb, rfl, _, rfl, _, _, rfl, rfl, hW, _, rfl, b, _, _, 0, rfl, rfl, hb, rfl, ?_⟩
      refine ⟨_, rfl, k _ _ (Int.emod_nonneg _ (by omega)) (Int.emod_lt_of_pos _ (by omega)) (Off.upd (Off.refl b H)) ⟨_, m, c, upd_same, ?_, hm, hM, hc, by omega⟩⟩
      exact Int.ediv_nonneg hd (by omega)
    · have x1 := Int.emod_nonneg ((m + 1000081 * (c + 1)) ^ 3) (show (2305843009213693921 : Int) ≠ 0 by decide)
      have x2 := Int.emod_lt_of_pos ((m + 1000081 * (c + 1)) ^ 3) (show (0 : Int) < 2305843009213693921 by decide)
      have e64 : (2 : Nat) ^ 64 = 18446744073709551616 := by decide
      refine ⟨_, rfl, b, _, 2, _, rfl, rfl, SqL.of hb, rfl, _, _, rfl, rfl, _, rfl, b, _, _, 2, rfl, rfl, hb, rfl, ?_⟩
      have hb2 := upd_same (H := H) (a := b) (o := .lst [.int d, .int m, .int (c + 1)])
      refine ⟨_, rfl, b, _, 1, _, rfl, rfl, SqL.of hb2, rfl, _, rfl, b, _, 2, _, rfl, rfl, SqL.of hb2, rfl, _, _, rfl, rfl, .inl ⟨by decide, by decide⟩, _, _, rfl, rfl, ?_⟩
      refine ⟨_, _, rfl, rfl, ⟨by decide, by decide, ?_⟩, .inl ⟨_, rfl, _, _, rfl, rfl, (by show (0 : Int) < 2305843009213693921; decide), ?_⟩⟩
      · rw [e64]; omega
      refine ⟨_, rfl, _, rfl, b, _, 2, _, rfl, rfl, SqL.of hb2, rfl, _, _, rfl, rfl, .inl ⟨by decide, by decide⟩, _, _, rfl, rfl, ?_⟩
      refine ⟨_, _, rfl, rfl, ⟨by decide, by decide, ?_⟩, .inl ⟨_, rfl, _, _, rfl, rfl, (by show (0 : Int) < 2305843009213693951; decide), ?_⟩⟩
      · rw [e64]
        show Int.natAbs ((m + 1000081 * (c + 1)) ^ 3 % 2305843009213693921 + 32452867 * (c + 1)) < _
        omega
      refine ⟨_, rfl, _, _, rfl, rfl, ⟨by decide, by decide⟩, .inl ⟨_, rfl, _, rfl, _, _, rfl, rfl, (by show (0 : Int) < many; omega), ?_⟩⟩
      refine k _ _ (Int.emod_nonneg _ (by omega)) (Int.emod_lt_of_pos _ (by omega)) (Off.upd (Off.refl b H)) ⟨d, m, c + 1, upd_same, hd, hm, hM, by omega, by omega⟩
theorem ok_of (F : DefAt K mg "_law_of" sOf) (T : G0 mg) (D_law_take : Dk P w K mg base CX0 1 "_law_take" ["dice", "many"] spTake) : Dk P w K mg base CX0 2 "_law_of" ["dice", "some"] (spOf K) := by
  obtain ⟨f, fd, F, mf⟩ := F.ex
  refine ⟨f, fd, F.ok scOf (fun vs H Q E h => ?_) (fun cdv A outer s H vs Q E hr h => ?_), mf, F.kp, F.binds fun _ _ _ _ _ _ us hl => match us, hl with | [_, _], _ => rfl⟩
  · obtain ⟨b, n, _, _, ⟨p, xs, rfl, _⟩ | ⟨z, rfl, _⟩⟩ := h <;> rfl
  · refine ⟨_, (pss_one (ps_ret (pe_ix ix_seq (pv 1) (pe_cd D_law_take hr pass0 (pa_cons (pv 0) (pa_cons (pe_callB call_len (by rfl) T.len (by decide +kernel) (pa_cons (pv 1) pa_nil)) pa_nil))) (fun _ _ => rfl)))), ?_⟩
    have e200 : (1000000 : Int) < 2 ^ 200 := by decide
    obtain ⟨b, n, hB, hn, ⟨p, xs, rfl, hpb, hS, h1, h2, k⟩ | ⟨z, rfl, h1, h2, k⟩⟩ := h
    · refine ⟨_, rfl, _, rfl, _, rfl, .ref p, xs.length, rfl, .inl ⟨xs, hS, rfl⟩, ?_⟩
      refine ⟨b, _, n, rfl, hB, hn, by omega, by omega, fun i H' i0 i1 hO hB' => ?_⟩
      have hi : i.toNat < xs.length := by omega
      exact .inl ⟨p, xs, i, xs[i.toNat], rfl, rfl, hO.seq hpb hS, atI_int i0 hi, k _ _ (List.getElem_mem hi) hO hB'⟩
    · have hz : z.cps.toList.length = z.length := by rw [Array.length_toList]; rfl
      refine ⟨_, rfl, _, rfl, _, rfl, .str z, z.length, rfl, ?_, ?_⟩
      · exact ⟨Nat.le_trans h2 (by decide), rfl⟩
      refine ⟨b, _, n, rfl, hB, hn, by omega, by omega, fun i H' i0 i1 hO hB' => ?_⟩
      have hi : i.toNat < z.cps.toList.length := by omega
      exact .inr (.inr ⟨z, i, z.cps.toList[i.toNat], rfl, rfl, Nat.le_trans h2 (by decide), atI_int i0 hi, k _ _ (List.getElem_mem hi) hO hB'⟩)
def spSigns : Sp := fun vs H Q _ => vs = [] ∧ Q (.str (mkS SGN)) H
theorem ok_signs (F : DefAt K mg "_law_signs" sSigns) : Dk P w K mg base CX0 1 "_law_signs" [] spSigns := by
  obtain ⟨f, fd, F, mf⟩ := F.ex
  refine ⟨f, fd, F.ok scSigns (fun vs H Q E h => ?_) (fun cdv A outer s H vs Q E hr h => ?_), mf, F.kp, F.binds fun _ _ _ _ _ _ us hl => match us, hl with | [], _ => rfl⟩
  · obtain ⟨rfl, _⟩ := h; rfl
  · obtain ⟨rfl, k⟩ := h
    refine ⟨_, (pss_cons (ps_set (i := 0) scSigns.nd rfl (Or.inl rfl) pe_str) (pss_one (ps_ret (pe_op op_add_str (pv 0) pe_str)))), ?_⟩
    refine ⟨_, rfl, _, _, rfl, rfl, (by decide +kernel), ?_⟩
    refine cast (congrArg (fun z => Q (.str z) H) ?_) k
    decide +kernel
/-- a text t of the letters L, of 1 to m letters, that is not among xs -/
def spWord (K : PySem.W.Frag) (L : List Nat) (m : Nat) : Sp := fun vs H Q _ => ∃ (b p : Addr) (n : Nat) (xs : List Str), vs = [.ref b, .ref p] ∧ Bag H b n ∧ n ≤ 900000000 ∧ p ≠ b ∧ SqL K H p (xs.map V.str) ∧ xs.length < L.length ∧
  ∀ (t : List Nat) (H' : Hp), 1 ≤ t.length → t.length ≤ m → (∀ c ∈ t, c ∈ L) → mkS t ∉ xs → Off b H H' → Bag H' b (n + 1 + m) → Q (.str (mkS t)) H'
theorem ok_token (F : DefAt K mg "_law_token" sToken) (T : G0 mg) (D_law_of : Dk P w K mg base CX0 2 "_law_of" ["dice", "some"] (spOf K)) (D_law_signs : Dk P w K mg base CX0 1 "_law_signs" [] spSigns) :
    Dk P w K mg base CX0 3 "_law_token" ["dice", "taken"] (spWord K SGN 4) := by
  obtain ⟨f, fd, F, mf⟩ := F.ex
  refine ⟨f, fd, F.ok scToken (fun vs H Q E h => ?_) (fun cdv A outer s H vs Q E hr h => ?_), mf, F.kp, F.binds fun _ _ _ _ _ _ us hl => match us, hl with | [_, _], _ => rfl⟩
  · obtain ⟨b, p, n, xs, rfl, _⟩ := h; rfl
  · obtain ⟨b, p, n, xs, rfl, hB, hn, hpb, hS, hl, k⟩ := h
    refine ⟨_, (pss_cons (ps_par (by rfl) scToken.nd rfl rfl (by decide) rfl rfl (pa_cons (pe_cd0 D_law_signs hr pass0) (pa_cons pe_str pa_nil)) (by rfl) (i := 2) (j := 3)) (pss_cons (ps_for PassesOwn.never rfl (pi_range1 (by rfl) T.range (pa_cons (pe_cd D_law_of hr pass0 (pa_cons (pv 0) (pa_cons (pe_lst (pa_cons pe_int (pa_cons pe_int (pa_cons pe_int (pa_cons pe_int (pa_cons pe_int (pa_cons pe_int pa_nil))))))) pa_nil))) pa_nil)) (pg_name (i := 4) scToken.nd rfl (.inl rfl)) (pss_one (ps_set (i := 3) scToken.nd rfl (Or.inl rfl) (pe_op op_add_str (pv 3) (pe_cd D_law_of hr pass0 (pa_cons (pv 0) (pa_cons (pv 2) pa_nil))))))) (pss_cons (ps_set (i := 5) scToken.nd rfl (Or.inl rfl) (pe_slice sl_str (pv 3) po_none (po_some pe_int))) (pss_cons (ps_for PassesOwn.never rfl (pi_str (pv 2)) (pg_name (i := 6) scToken.nd rfl (.inl rfl)) (pss_one (ps_if (pt_cmpR op_in_seq (pv 3) (pv 1) (by rfl)) (pss_one (ps_set (i := 3) scToken.nd rfl (Or.inl rfl) (pe_op op_add_str (pv 5) (pv 6)))) pss_nil))) (pss_one (ps_ret (pv 3))))))), ?_⟩
    refine ⟨rfl, _, _, rfl, ?_⟩
    refine ⟨_, rfl, by show 6 ≤ sizeLine; decide, fun q hq => ?_⟩
    refine ⟨b, n, hB.new hq, by omega, .inl ⟨q, _, rfl, (hB.ne hq).symm, SqL.of upd_same, by show 1 ≤ 6; decide, by show 6 ≤ 1000000; decide, fun x H1 hx hO hB1 => ?_⟩⟩
    obtain ⟨j, hj1, hj4, rfl⟩ : ∃ j : Nat, 1 ≤ j ∧ j ≤ 4 ∧ x = .int j := by
      simp only [List.mem_cons, List.not_mem_nil, or_false] at hx
      rcases hx with rfl | rfl | rfl | rfl | rfl | rfl
      · exact ⟨1, by decide, by decide, rfl⟩
      · exact ⟨1, by decide, by decide, rfl⟩
      · exact ⟨1, by decide, by decide, rfl⟩
      · exact ⟨2, by decide, by decide, rfl⟩
      · exact ⟨3, by decide, by decide, rfl⟩
      · exact ⟨4, by decide, by decide, rfl⟩
    have O1 : Off b H H1 := ((Off.refl b H).new hq).trans hO
    refine ⟨j, rfl, by omega, by omega, ?_⟩
    rw [Int.toNat_natCast]
    refine for_range (lo := 0) (n := j) (fun i σ H' => ∃ (m : List Nat) (v : Option V), σ = [some (.ref b), some (.ref p), some (.str (mkS SGN)), some (.str (mkS m)), v, none, none] ∧ m.length = i ∧ (∀ c ∈ m, c ∈ SGN) ∧ Off b H H' ∧ Bag H' b (n + 1 + i))
      ⟨[], none, by rw [← mkS_nil]; rfl, rfl, (fun _ h => by cases h), O1, hB1⟩ ?_ ?_
    · rintro i σ H' hi ⟨m, v, rfl, hm, hc, hO', hB'⟩
      refine ⟨_, rfl, _, rfl, _, rfl, b, n + 1 + i, hB', by omega, .inr ⟨mkS SGN, rfl, by decide +kernel, by decide +kernel, fun c H2 hcs hO2 hB2 => ?_⟩⟩
      rw [mkS_cps] at hcs
      refine ⟨_, _, rfl, rfl, ?_, ?_⟩
      · rw [mkS_len]; exact Nat.le_trans (show _ ≤ 10 by rw [hm]; show i + 1 ≤ 10; omega) (by decide)
      · refine ⟨m ++ [c], some (.int (0 + i)), ?_, by rw [List.length_append, hm]; rfl, fun d hd => ?_, hO'.trans hO2, hB2⟩
        · rw [mkS_one, mkS_app]; rfl
        · rcases List.mem_append.mp hd with hd | hd
          · exact hc d hd
          · rw [List.mem_singleton.mp hd]; exact hcs
    · rintro σ H' ⟨m, v, rfl, hm, hc, hO', hB'⟩
      refine ⟨_, rfl, 3, rfl, _, rfl, ?_, ?_⟩
      · rw [mkS_len]; exact Nat.le_trans (show _ ≤ 10 by omega) (by decide)
      rw [show cutS (mkS m) none (some (3 : Int)) = mkS (m.take 3) from cut_to m 3]
      refine ⟨_, rfl, _, rfl, for_it walk_str (fun i σ H2 => H2 = H' ∧ ∃ u : Option V, σ = [some (.ref b), some (.ref p), some (.str (mkS SGN)), some (.str (mkS ((SGN.take i).foldl (more1 xs (m.take 3)) m))), v, some (.str (mkS (m.take 3))), u])
        ⟨rfl, none, rfl⟩ (fun _ _ _ _ _ => trivial) ?_ ?_⟩
      · rintro i x σ H2 H3 hi ⟨rfl, u, rfl⟩ ⟨rfl, c, hc', rfl⟩
        have hs : SGN[i]? = some c := by
          have q : (mkS SGN).cps.toList[i]? = some c := by rw [Array.getElem?_toList]; exact hc'
          rw [mkS_cps] at q
          exact q
        refine ⟨_, rfl, _, rfl, p, _, rfl, .inl (hO'.seq hpb hS), rfl, flat_strs xs, _, rfl, ?_⟩
        show if inV (.str _) (xs.map V.str) = true then _ else _
        rw [inV_str]
        have et : SGN.take (i + 1) = SGN.take i ++ [c] := by
          rw [List.take_add_one, hs]; rfl
        have ef : (SGN.take (i + 1)).foldl (more1 xs (m.take 3)) m = more1 xs (m.take 3) ((SGN.take i).foldl (more1 xs (m.take 3)) m) c := by
          rw [et, List.foldl_append]; rfl
        refine ite2 (fun q => ?_) (fun q => ?_)
        · refine ⟨_, rfl, _, rfl, _, _, rfl, rfl, ?_, rfl, some (.str ⟨#[c]⟩), ?_⟩
          · rw [mkS_len]; exact Nat.le_trans (show _ ≤ 10 by rw [List.length_take]; show _ + 1 ≤ 10; omega) (by decide)
          · rw [ef, more_yes (of_decide_eq_true q), mkS_one, mkS_app]
            rfl
        · refine ⟨rfl, some (.str ⟨#[c]⟩), ?_⟩
          rw [ef, more_no (fun z => q (decide_eq_true z))]
          rfl
      · rintro σ H2 ⟨rfl, u, rfl⟩
        have es : (mkS SGN).cps.size = SGN.length := by rw [← Array.length_toList, mkS_cps]
        rw [es, List.take_length]
        refine ⟨_, rfl, ?_⟩
        have sh : ∀ c, c ∈ SGN → (fun t : List Nat => 1 ≤ t.length ∧ t.length ≤ 4 ∧ ∀ d ∈ t, d ∈ SGN) (m.take 3 ++ [c]) := fun c hcs => by
          refine ⟨by rw [List.length_append]; exact Nat.le_add_left _ _, ?_, fun d hd => ?_⟩
          · rw [List.length_append, List.length_take]; show min 3 m.length + 1 ≤ 4; omega
          · rcases List.mem_append.mp hd with hd | hd
            · exact hc d (List.mem_of_mem_take hd)
            · rw [List.mem_singleton.mp hd]; exact hcs
        obtain ⟨s1, s2, s3⟩ := more_shape (xs := xs) (bs := m.take 3) (cs := SGN) (S := fun t : List Nat => 1 ≤ t.length ∧ t.length ≤ 4 ∧ ∀ d ∈ t, d ∈ SGN) sh (m := m) ⟨by omega, by omega, hc⟩
        exact k _ _ s1 s2 s3 (more_new sgn_nd hl) hO' (hB'.mono (by omega))
abbrev sKept : Stmt := topS 2
theorem scKept : FnScope ["value", "part"] ["value"] (defScope sKept) := ⟨rfl, rfl, rfl, by decide +kernel, rfl, by decide +kernel, by decide +kernel⟩

theorem ok_kept (F : DefAt K mg "kept" sKept) (T : G0 mg) : ∀ n : Nat, Dk P w K mg base CX0 (n + 1) "kept" ["value"] (spKept K n) := by
  obtain ⟨f, fd, F0, mf⟩ := F.ex
  have bb : ∀ f fd, Fun K "kept" "kept" sKept f fd → Binds K fd ["value"] [] := fun f fd F => F.binds fun _ _ _ _ _ _ us hl => match us, hl with | [_], _ => rfl
  -- the flat ones, any promise of the inner calls
  have step : ∀ (n k : Nat) (sp : Sp), Dk P w K mg base CX0 k "kept" ["value"] sp → (∀ m, n = m + 1 → sp = spKept K m) → Dk P w K mg base CX0 (k + 1) "kept" ["value"] (spKept K n) := by
    intro n k sp Dk0 hsp
    refine ⟨f, fd, F0.ok scKept (fun vs H Q E h => ?_) (fun cdv A outer s H vs Q E hr h => ?_), mf, F0.kp, bb f fd F0⟩
    · obtain ⟨v, d, rfl, _⟩ := h
      rfl
    · obtain ⟨v, d, rfl, hd, ht, kk⟩ := h
      have hr : Room k _ := hr
      have hkk : k ≤ k := Nat.le_refl k
      refine ⟨_, (pss_cons (ps_if (pt_val (pe_callB call_isi (by rfl) T.isinstance (by decide +kernel) (pa_cons (pv 0) (pa_cons (pe_bltn (v := .ty "list") (u := .type "list") (by rfl) T.list (by decide +kernel) rfl) pa_nil)))) (pss_one (ps_ret (pe_lc (own := [("part", 1)]) (g := gName 1) rfl scKept.nd (pi_list (pv 0)) (blkOk_by (N := ["value", "part"]) (sc := defScope sKept) (by decide +kernel)) (fun _ _ _ _ _ => (pg_name (i := 1) scKept.nd rfl (.inl rfl))) (fun _ _ _ _ _ => pts_nil) (fun _ _ _ _ _ => (pe_cd Dk0 hr pass0 (pa_cons (pv 1) pa_nil) (hk := Nat.le_refl _)))))) pss_nil) (pss_cons (ps_if (pt_val (pe_callB call_isi (by rfl) T.isinstance (by decide +kernel) (pa_cons (pv 0) (pa_cons (pe_bltn (v := .ty "tuple") (u := .type "tuple") (by rfl) T.tuple (by decide +kernel) rfl) pa_nil)))) (pss_one (ps_ret (pe_callTy call_tuple_of (by rfl) T.tuple (by decide +kernel) (pa_cons (pe_lc (own := [("part", 1)]) (g := gName 1) rfl scKept.nd (pi_tup (pv 0)) (blkOk_by (N := ["value", "part"]) (sc := defScope sKept) (by decide +kernel)) (fun _ _ _ _ _ => (pg_name (i := 1) scKept.nd rfl (.inl rfl))) (fun _ _ _ _ _ => pts_nil) (fun _ _ _ _ _ => (pe_cd Dk0 hr pass0 (pa_cons (pv 1) pa_nil) (hk := Nat.le_refl _)))) pa_nil)))) pss_nil) (pss_one (ps_ret (pv 0))))), ?_⟩
      have ty := dp_ty hd (fun ds e => by subst e; cases n <;> exact Bool.noConfusion ht)
      cases d with
      | none => exact ⟨_, rfl, _, .ty "list", _, _, false, rfl, .ty _, ty, kit_ty (show kitB "NoneType" "list" = some false by decide +kernel), false, rfl, iteF ⟨_, rfl, _, .ty "tuple", _, _, false, rfl, .ty _, ty, kit_ty (show kitB "NoneType" "tuple" = some false by decide +kernel), false, rfl, iteF ⟨_, rfl, kk _ H (Same.refl H) hd⟩⟩⟩
      | bool b => exact ⟨_, rfl, _, .ty "list", _, _, false, rfl, .ty _, ty, kit_ty (show kitB "bool" "list" = some false by decide +kernel), false, rfl, iteF ⟨_, rfl, _, .ty "tuple", _, _, false, rfl, .ty _, ty, kit_ty (show kitB "bool" "tuple" = some false by decide +kernel), false, rfl, iteF ⟨_, rfl, kk _ H (Same.refl H) hd⟩⟩⟩
      | int i => exact ⟨_, rfl, _, .ty "list", _, _, false, rfl, .ty _, ty, kit_ty (show kitB "int" "list" = some false by decide +kernel), false, rfl, iteF ⟨_, rfl, _, .ty "tuple", _, _, false, rfl, .ty _, ty, kit_ty (show kitB "int" "tuple" = some false by decide +kernel), false, rfl, iteF ⟨_, rfl, kk _ H (Same.refl H) hd⟩⟩⟩
      | str x => exact ⟨_, rfl, _, .ty "list", _, _, false, rfl, .ty _, ty, kit_ty (show kitB "str" "list" = some false by decide +kernel), false, rfl, iteF ⟨_, rfl, _, .ty "tuple", _, _, false, rfl, .ty _, ty, kit_ty (show kitB "str" "tuple" = some false by decide +kernel), false, rfl, iteF ⟨_, rfl, kk _ H (Same.refl H) hd⟩⟩⟩
      | list ds => cases n <;> exact Bool.noConfusion ht
      | dict kvs => cases n <;> exact Bool.noConfusion ht
      | tuple ds =>
        cases n with
        | zero => exact Bool.noConfusion ht
        | succ m =>
        obtain rfl := hsp m rfl
        obtain ⟨hlen, hall⟩ := tupD_all ht
        cases hd with
        | @tup a xs ds hs ha =>
          have hxl := DpAll.len ha
          refine ⟨_, rfl, _, .ty "list", _, _, false, rfl, .ty _, ty, kit_ty (show kitB "tuple" "list" = some false by decide +kernel), false, rfl, iteF ?_⟩
          refine ⟨_, rfl, _, .ty "tuple", _, _, true, rfl, .ty _, ty, kit_ty (show kitB "tuple" "tuple" = some true by decide +kernel), true, rfl, iteT ?_⟩
          refine ⟨_, rfl, a, rfl, ⟨_, hs⟩, fun D hD => lc_tup (xs := xs) (fun i H' => ∃ ys, H' D = some (.lst ys) ∧ ys.length = i ∧ DpAll K H' ys (ds.take i) ∧ Same H H') ⟨[], upd_same, rfl, .nil, Same.new (Same.refl H) hD⟩ (fun i H' _ ⟨_, _, _, _, s⟩ => Evl.ex_t s hs) ?_ ?_⟩
          · rintro i x H' hi ⟨ys, hD', hyl, hys, s⟩
            obtain ⟨d, hdi, hdx⟩ := DpAll.get ha hi
            have hmem : d ∈ ds := List.mem_of_getElem? hdi
            have hi2 : i < ds.length := (List.getElem?_eq_some_iff.mp hdi).1
            refine ⟨rfl, x, rfl, x, d, rfl, Dp.mono s hdx, hall d hmem, fun v' H2 s2 hv' => ⟨ys, s2 _ _ hD', ?_, ys ++ [v'], upd_same, ?_, ?_, fun b o hb => ?_⟩⟩
            · rw [hyl]; exact Nat.lt_of_lt_of_le (show i < 1000 by omega) (by decide)
            · rw [List.length_append, hyl]; rfl
            · have et : ds.take (i + 1) = ds.take i ++ [d] := by rw [List.take_add_one, hdi]; rfl
              rw [et]
              have o2 : Off D H2 (upd H2 D (.lst (ys ++ [v']))) := (Off.refl D H2).upd
              have n2 : NotTup (H2 D) := by rw [s2 _ _ hD']; exact trivial
              exact DpAll.snoc (DpAll.off (n := m) o2 n2 (fun d hd => hall d (List.mem_of_mem_take hd)) (DpAll.mono s2 hys)) (Dp.off o2 n2 m _ _ (hall d hmem) hv')
            · rw [upd_ne (ne_of_none hb hD)]
              exact s2 _ _ (s _ _ hb)
          · rintro H' ⟨ys, hD', hyl, hys, s⟩
            rw [hxl, List.take_length] at hys
            refine ⟨D, ys, rfl, .inl ⟨SqL.of hD', fun p hp => kk _ _ (Same.new s hp) ?_⟩⟩
            exact .tup (.inl (.inl upd_same)) (DpAll.mono (Same.new (Same.refl H') hp) hys)
  intro n
  induction n with
  | zero => exact step 0 0 _ (Dk.never F bb) (fun m e => by cases e)
  | succ n ih => exact step (n + 1) (n + 1) _ ih (fun m e => by cases e; rfl)
abbrev sBadRule : Stmt := inClass (topS 4) 0
theorem scBadRule : FnScope ["self", "worth"] ["self", "worth"] (defScope sBadRule) := ⟨rfl, rfl, rfl, by decide +kernel, rfl, by decide +kernel, by decide +kernel⟩
theorem ok_BadRule {C S : Addr} (D : EAtop K mg "BadRule" "BadRule.__init__" C "ValueError.__init__" ["worth"] sBadRule) (B : SlipB K mg S) (Dkept : Dk P w K mg base CX0 2 "kept" ["value"] (spKept K 1)) : EDef P w K mg base 3 "BadRule" C "ValueError.__init__" ["self", "worth"] (spErr K C ["worth"] 1) := by
  obtain ⟨T, hm, ⟨f, fd, iC, tI, F⟩, hno⟩ := D
  refine ⟨fd, ⟨T, f, iC, tI, F.ok scBadRule (fun vs H Q E h => ?_) (fun cdv A outer s H vs Q E hr h => ?_)⟩, hm, fun n hn => ⟨fun s us ws h1 h2 => ?_⟩⟩
  · obtain ⟨a, xs, ds, rfl, hl, _⟩ := h
    rw [List.length_cons, hl]
    all_goals rfl
  · obtain ⟨a, xs, ds, rfl, hl, ha, ⟨hL, hD⟩, k⟩ := h
    obtain ⟨x1, rfl⟩ := one_of hl
    obtain ⟨d1, rfl⟩ := one_of (hL.symm.trans hl)
    obtain ⟨e1, q1, hd1, ht1, sh1⟩ := hD 0 x1 rfl
    cases q1
    refine ⟨_, (pss_cons (ps_expr (pe_einitO rfl B.gS B.rd B.ga B.vV (by decide +kernel) (pa_cons (pv 0) (pa_cons (pe_joined (PJ.cons pe_str (PJ.cons (pe_fmtX hr (pv 1)) PJ.nil))) pa_nil)))) (pss_one (ps_est "ValueError.__init__" (pv 0) (pe_cd Dkept hr pass0 (pa_cons (pv 1) pa_nil))))), ?_⟩
    refine ⟨_, rfl, parts_run (K := K) (n := 0) (fun t ht => ?_) (Nat.zero_le _) (by show 0 + 2 ≤ 12; decide) fun z => ⟨a, C, [.str z], rfl, by show 1 ≤ 1000; decide, T, ha, ?_⟩⟩
    · simp only [List.mem_cons, List.not_mem_nil, or_false] at ht
      rcases ht with rfl | rfl
      · exact part_c (by decide +kernel)
      · exact part_v rfl sh1
    refine est_turn T (hno "worth" (by simp)) rfl rfl (part0 ha) hd1 ht1 (by show 0 ≤ 900; decide) fun H1 hp1 => ?_
    exact k _ hp1
  · obtain ⟨oc, od, kV, doc, pm, an, cdv, ct, osl, rfl, lk, hcd⟩ := F.ex
    match n, hn, us, ws, h1, h2 with
    | 0, _, [_], [_], _, _ => exact .of_eq rfl
    | 1, _, [_, _], [], _, _ => exact .of_eq rfl
abbrev sNoPlace : Stmt := inClass (topS 5) 0
theorem scNoPlace : FnScope ["self", "place"] ["self", "place"] (defScope sNoPlace) := ⟨rfl, rfl, rfl, by decide +kernel, rfl, by decide +kernel, by decide +kernel⟩
theorem ok_NoPlace {C S : Addr} (D : EAtop K mg "NoPlace" "NoPlace.__init__" C "ValueError.__init__" ["place"] sNoPlace) (B : SlipB K mg S) (Dkept : Dk P w K mg base CX0 2 "kept" ["value"] (spKept K 1)) : EDef P w K mg base 3 "NoPlace" C "ValueError.__init__" ["self", "place"] (spErr K C ["place"] 1) := by
  obtain ⟨T, hm, ⟨f, fd, iC, tI, F⟩, hno⟩ := D
  refine ⟨fd, ⟨T, f, iC, tI, F.ok scNoPlace (fun vs H Q E h => ?_) (fun cdv A outer s H vs Q E hr h => ?_)⟩, hm, fun n hn => ⟨fun s us ws h1 h2 => ?_⟩⟩
  · obtain ⟨a, xs, ds, rfl, hl, _⟩ := h
    rw [List.length_cons, hl]
    all_goals rfl
  · obtain ⟨a, xs, ds, rfl, hl, ha, ⟨hL, hD⟩, k⟩ := h
    obtain ⟨x1, rfl⟩ := one_of hl
    obtain ⟨d1, rfl⟩ := one_of (hL.symm.trans hl)
    obtain ⟨e1, q1, hd1, ht1, sh1⟩ := hD 0 x1 rfl
    cases q1
    refine ⟨_, (pss_cons (ps_expr (pe_einitO rfl B.gS B.rd B.ga B.vV (by decide +kernel) (pa_cons (pv 0) (pa_cons (pe_joined (PJ.cons pe_str (PJ.cons (pe_fmtX hr (pv 1)) PJ.nil))) pa_nil)))) (pss_one (ps_est "ValueError.__init__" (pv 0) (pe_cd Dkept hr pass0 (pa_cons (pv 1) pa_nil))))), ?_⟩
    refine ⟨_, rfl, parts_run (K := K) (n := 0) (fun t ht => ?_) (Nat.zero_le _) (by show 0 + 2 ≤ 12; decide) fun z => ⟨a, C, [.str z], rfl, by show 1 ≤ 1000; decide, T, ha, ?_⟩⟩
    · simp only [List.mem_cons, List.not_mem_nil, or_false] at ht
      rcases ht with rfl | rfl
      · exact part_c (by decide +kernel)
      · exact part_v rfl sh1
    refine est_turn T (hno "place" (by simp)) rfl rfl (part0 ha) hd1 ht1 (by show 0 ≤ 900; decide) fun H1 hp1 => ?_
    exact k _ hp1
  · obtain ⟨oc, od, kV, doc, pm, an, cdv, ct, osl, rfl, lk, hcd⟩ := F.ex
    match n, hn, us, ws, h1, h2 with
    | 0, _, [_], [_], _, _ => exact .of_eq rfl
    | 1, _, [_, _], [], _, _ => exact .of_eq rfl

end
end Ss
namespace Ss
open PySem L2
section
variable {P : Program} {w : World} {K : PySem.W.Frag} {mg : Str → Option Value} {base : Heap}
abbrev sIstok : Stmt := topS 9
theorem scIstok : FnScope ["text", "sign"] ["text"] (defScope sIstok) := ⟨rfl, rfl, rfl, by decide +kernel, rfl, by decide +kernel, by decide +kernel⟩
theorem ok_istok (F : DefAt K mg "is_token" sIstok) (T : G0 mg) (ha : mg "all" = none) (ho : mg "ord" = none) (hMS : ∃ t, mg "MOST_SIGNS" = some (.int 4 t)) (hPC : ∃ t, mg "PERCENT" = some (.int 37 t)) : Dk P w K mg base CX0 1 "is_token" ["text"] spIsTok := by
  obtain ⟨f, fd, F, mf⟩ := F.ex
  obtain ⟨tMS, hMS⟩ := hMS
  obtain ⟨tPC, hPC⟩ := hPC
  refine ⟨f, fd, F.ok scIstok (fun vs H Q E h => ?_) (fun cdv A outer s H vs Q E hr h => ?_), mf, F.kp, F.binds fun _ _ _ _ _ _ us hl => match us, hl with | [_], _ => rfl⟩
  · obtain ⟨z, rfl, _⟩ := h; rfl
  · obtain ⟨z, rfl, hz, k⟩ := h
    refine ⟨_, (pss_cons (ps_if (pt_not (pt_chain op_le op_le pe_int (pe_callB call_len_str (by rfl) T.len (by decide +kernel) (pa_cons (pv 0) pa_nil)) (pe_glob (v := .int 4) rfl hMS ⟨_, rfl⟩))) (pss_one (ps_ret pe_bl)) pss_nil) (pss_one (ps_ret (pe_callB (cr_all rfl) (by rfl) ha (by decide +kernel) (pa_cons (pe_lc (own := [("sign", 1)]) (g := gName 1) rfl scIstok.nd (pi_str (pv 0)) (blkOk_by (N := ["text", "sign"]) (sc := defScope sIstok) (by decide +kernel)) (fun _ _ _ _ _ => (pg_name (i := 1) scIstok.nd rfl (.inl rfl))) (fun _ _ _ _ _ => pts_nil) (fun _ _ _ _ _ => (pe_and (pe_chain op_le_str op_le_str pe_str (pv 1) pe_str) (pe_one (pe_cmpR op_ne (pe_callB call_ord (by rfl) ho (by decide +kernel) (pa_cons (pv 1) pa_nil)) (pe_glob (v := .int 37) rfl hPC ⟨_, rfl⟩) (nomark _)))))) pa_nil))))), ?_⟩
    have hzs : z.length ≤ sizeLine := Nat.le_trans hz (by decide)
    refine Evl.q_when (b := !(decide (1 ≤ z.length) && decide (z.length ≤ 4))) (Evl.et_not (Evl.et_is (Evl.et_test (ev_chain (a := decide ((1 : Int) ≤ (z.length : Int))) (b := decide ((z.length : Int) ≤ 4)) Evl.ev_c (Evl.ev_cb (Evl.ea_cons (Evl.ev_var rfl) Evl.ea_nil) (fun H1 s Q q => ⟨z, rfl, hzs, q H1 (Evl.Ex.refl H1)⟩)) Evl.rv_I0 fun _ => ⟨Evl.ev_c, Evl.rv_I0⟩)) (by
      congr 1
      · exact decide_eq_decide.mpr (by omega)
      · exact decide_eq_decide.mpr (by omega)))) (fun e H1 s1 => ?_) (fun e H1 s1 => ?_)
    · have q : tokOk z = false := by
        unfold tokOk
        rw [Bool.not_eq_true'] at e
        rw [e]; rfl
      exact Evl.s_ret (v := .bl false) Evl.ev_c fun H2 s2 => by
        have := k H2 (s1.trans s2)
        rw [q] at this
        exact this
    · have e4 : decide (1 ≤ z.length) = true ∧ decide (z.length ≤ 4) = true := by
        rw [Bool.not_eq_false', Bool.and_eq_true] at e
        exact e
      have h4 := of_decide_eq_true e4.2
      have hsz : z.cps.size = z.length := rfl
      have q : tokOk z = (z.cps.toList.map sgC).all id := by
        unfold tokOk
        rw [e4.1, e4.2, List.all_map]; rfl
      refine ⟨_, rfl, _, rfl, fun D hD => lc_it (walk_str (z := z)) (fun i H' => H' D = some (.lst ((z.cps.toList.take i).map fun c => V.bl (sgC c))) ∧ Same H1 H') ⟨upd_same, Same.new (Same.refl H1) hD⟩ (fun _ _ _ _ => trivial) ?_ ?_⟩
      · rintro i x H2 H3 hi ⟨h1, h2⟩ ⟨rfl, c, hc, rfl⟩
        have hc' : z.cps.toList[i]? = some c := by rw [Array.getElem?_toList]; exact hc
        have e33 : ("!" : Str) = ⟨#[33]⟩ := by decide +kernel
        have e126 : ("~" : Str) = ⟨#[126]⟩ := by decide +kernel
        refine ⟨rfl, ?_⟩
        refine (Evl.ev_is (Evl.ev_andV (a := decide (33 ≤ c) && decide (c ≤ 126)) (b := decide (c ≠ 37)) (ev_chain Evl.ev_c (Evl.ev_var rfl) (rv_leS e33 rfl) fun _ => ⟨Evl.ev_c, rv_leS rfl e126⟩) fun _ => Evl.ev_is (Evl.ev_op (Evl.ev_cb (Evl.ea_cons (Evl.ev_var rfl) Evl.ea_nil) (fun H1 s Q q => ⟨⟨#[c]⟩, rfl, rfl, q H1 (Evl.Ex.refl H1)⟩)) Evl.ev_c (Evl.rv_ne rfl)) (by
          show V.bl (!decide (V.int ((c : Nat) : Int) = V.int 37)) = V.bl (decide (c ≠ 37))
          congr 1
          by_cases h : c = 37
          · subst h; rfl
          · rw [decide_eq_true h, decide_eq_false (fun z => h (by injection z with z; omega))]; rfl)) rfl) _ (Evl.Ex.refl _) _ fun H4 s4 => ⟨_, s4 _ _ h1, ?_, ?_, fun a o ha => ?_⟩
        · rw [List.length_map, List.length_take]; exact Nat.lt_of_le_of_lt (Nat.min_le_left _ _) (Nat.lt_of_lt_of_le (show i < 5 by omega) (by decide))
        · have et : z.cps.toList.take (i + 1) = z.cps.toList.take i ++ [c] := by rw [List.take_add_one, hc']; rfl
          rw [upd_same, et, List.map_append]; rfl
        · have nD : H1 D = none := hD
          rw [upd_ne (ne_of_none ha nD)]
          exact s4 _ _ (h2 a o ha)
      · rintro H2 ⟨h1, h2⟩
        have et : z.cps.toList.take z.cps.size = z.cps.toList := by rw [← Array.length_toList, List.take_length]
        rw [et] at h1
        have e5 : (z.cps.toList.map fun c => V.bl (sgC c)) = (z.cps.toList.map sgC).map V.bl := by rw [List.map_map]; rfl
        rw [e5] at h1
        refine ⟨D, _, rfl, SqL.of h1, ?_⟩
        have := k H2 (s1.trans h2)
        rw [q] at this
        exact this
end
end Ss
namespace Ss
open PySem L2
section
variable {P : Program} {w : World} {K : PySem.W.Frag} {mg : Str → Option Value} {base : Heap}
abbrev sRinit : Stmt := inClass (topS 14) 2
theorem scRinit : FnScope ["self", "tokens", "token"] ["self", "tokens"] (defScope sRinit) := ⟨rfl, rfl, rfl, by decide +kernel, rfl, by decide +kernel, by decide +kernel⟩
theorem ok_Rinit {f Cb : Addr} {fd : FuncData} (F : Fun K "__init__" "Rule.__init__" sRinit f fd) (T : G0 mg) (Dtok : Dk P w K mg base CX0 1 "is_token" ["text"] spIsTok) (DBadRule : EDef P w K mg base 3 "BadRule" Cb "ValueError.__init__" ["self", "worth"] (spErr K Cb ["worth"] 1)) :
    FnR P w K mg base (L2.CX P w) 5 f (fun vs H Q E => ∃ ws rest, vs = ws ++ rest ∧ ws.length = 1 ∧ rest.length ≤ sizeLine ∧ ∀ p, H p = none → spRI Cb K (ws ++ [V.ref p]) (upd H p (.tup rest)) Q E) := by
  obtain ⟨oc, od, kV, doc, pm, an, cdv, ct, osl, rfl, lk, hcd⟩ := F.ex
  refine StX.fn_star (ps := ["self"]) (pv := "tokens") (sp := spRI Cb K) lk hcd scRinit StX.cxUp (StX.bind_star1 (B := fun l => bindArgs (PySem.W.fnOf "__init__" "Rule.__init__" (defArgs sRinit) (defBody sRinit) (defScope sRinit) .none kV doc pm an cdv ct) ⟨l, []⟩) (p1 := "self") (pv := "tokens") (fun a => rfl) (fun a r rs => rfl)) (fun A outer s H vs Q E hr h => ?_)
  obtain ⟨p, t, C, dx, toks, rfl, ht, hp, cl, na, hl, hw, k1, k2⟩ := h
  refine ⟨_, (pss_cons (ps_for (passes_of rfl) rfl (pi_tup (pv 1)) (pg_name (i := 2) scRinit.nd rfl (.inl rfl)) (pss_one (ps_if (pt_not (pt_val (pe_cd Dtok hr pass0 (pa_cons (pv 2) pa_nil)))) (pss_one (ps_raise rfl (takes_of rfl rfl rfl rfl) (pmk_ec (n := 1) DBadRule hr (pa_cons (pv 2) pa_nil) rfl (by decide)))) pss_nil))) (pss_cons (ps_if (PW.pt (pw_and (pt_cmpR op_gt (pe_callB call_len_seq (by rfl) T.len (by decide +kernel) (pa_cons (pv 1) pa_nil)) pe_int (nomark _)) (pw_and1 (pt_cmpR op_eq (pe_ix ix_tup (pv 1) pe_int (fun _ _ => rfl)) (pe_ix ix_tup (pv 1) pe_int (fun _ _ => rfl)) (nomark _))))) (pss_one (ps_raise rfl (takes_of rfl rfl rfl rfl) (pmk_ec (n := 1) DBadRule hr (pa_cons (pe_ix ix_tup (pv 1) pe_int (fun _ _ => rfl)) pa_nil) rfl (by decide)))) pss_nil) (pss_one (ps_fld (pv 0) (pv 1) rfl)))), ?_⟩
  refine ⟨_, rfl, t, rfl, ⟨_, SqT.of ht⟩, for_it (walk_tup (xs := toks.map V.str)) (fun i σ H' => ∃ v : Option V, σ = [some (.ref p), some (.ref t), v] ∧ Same H H' ∧ ∀ (j : Nat) (z : Str), j < i → toks[j]? = some z → tokOk z = true) ⟨none, rfl, Same.refl H, fun j z hj => absurd hj (Nat.not_lt_zero _)⟩
    (fun i σ H' _ h => by obtain ⟨_, _, s, _⟩ := h; exact Evl.ex_t s (SqT.of ht)) ?_ ?_⟩
  · rintro i x σ H1 H2 hi ⟨v, rfl, s1, ok⟩ ⟨rfl, hx⟩
    obtain ⟨z, hz, rfl⟩ : ∃ z, toks[i]? = some z ∧ x = V.str z := by
      rw [List.getElem?_map] at hx
      cases e : toks[i]? with
      | none => rw [e] at hx; cases hx
      | some y => rw [e] at hx; cases hx; exact ⟨y, rfl, rfl⟩
    have hwz := hw z (List.mem_of_getElem? hz)
    refine ⟨_, rfl, z, rfl, Nat.le_trans hwz.1 (by decide), fun H3 s3 => ⟨_, rfl, ?_⟩⟩
    refine ite2 (fun c => ?_) (fun c => ?_)
    · have hb : badOf toks = some z := by
        have c : tokOk z = false := by simpa using c
        match toks, hl, i, hz, ok with
        | [a], _, 0, hz, _ => cases hz; show (if tokOk z = true then _ else _) = _; rw [c]; rfl
        | [a, b], _, 0, hz, _ => cases hz; show (if tokOk z = true then _ else _) = _; rw [c]; rfl
        | [a, b], _, 1, hz, ok =>
          cases hz
          have := ok 0 a (by decide) rfl
          show (if tokOk a = true then (if tokOk z = true then _ else _) else _) = _
          rw [if_pos this, c]; rfl
      refine emkr_one (i := 2) rfl (wth_str hwz) fun dd fs v' H' s h1 h2 h3 => ?_
      cases h3
      exact k2 z hb dd fs H' ((s1.trans s3).trans s) h1 h2
    · have c : tokOk z = true := by simpa using c
      refine ⟨_, rfl, s1.trans s3, fun j y hj hy => ?_⟩
      by_cases e : j = i
      · subst e; rw [hz] at hy; cases hy; exact c
      · exact ok j y (by omega) hy
  · rintro σ H1 ⟨v, rfl, s1, ok⟩
    rw [List.length_map] at ok
    have ht1 := SqT.of (K := K) (s1 _ _ ht)
    have hp1 := s1 _ _ hp
    have all : ∀ z ∈ toks, tokOk z = true := fun z hz => by
      obtain ⟨j, hj, e⟩ := List.getElem_of_mem hz
      exact ok j z hj (by rw [List.getElem?_eq_getElem hj, e])
    have il : (toks.map V.str).length = toks.length := List.length_map _
    have it : ∀ (H2 : Hp) (s2 : Same H1 H2) (i : Nat) (z : Str) (_ : toks[i]? = some z) (σ : L2.St) (_ : σ[1]? = some (some (.ref t))), Evl.Ev (tOp (rIxT K) (tVar 1) (tC (.int (i : Nat)))) σ H2 (.str z) := fun H2 s2 i z hz σ h1 =>
      Evl.ev_op (Evl.ev_var h1) Evl.ev_c (Evl.rv_ixT (SqT.of (s2 _ _ (s1 _ _ ht))) (atI_nat (by rw [List.getElem?_map, hz]; rfl)))
    dsimp only
    match toks, hl, ht, hw, k1, k2, all, il, it with
    | [a], _, ht, hw, k1, k2, all, il, it =>
      refine Evl.q_when (b := false) (Evl.et_is (Evl.et_and (a := decide ((1 : Int) < (([a] : List Str).length : Int))) (b := false) (Evl.et_test (Evl.ev_op (Evl.ev_cb (Evl.ea_cons (Evl.ev_var rfl) Evl.ea_nil) (fun H1 s Q q => ⟨t, _, rfl, .inr (SqT.of (s _ _ (s1 _ _ ht))), q H1 (Evl.Ex.refl H1)⟩)) Evl.ev_c Evl.rv_I0)) (fun z => by cases z)) rfl) (fun z => Bool.noConfusion z) fun _ H2 s2 => ?_
      refine ⟨_, rfl, _, rfl, p, C, dx, [], rfl, s2 _ _ hp1, cl, na, by decide, ?_⟩
      exact k1 (by show (if tokOk a = true then none else some a) = none; rw [if_pos (all a (by simp))]) H2 (s1.trans s2)
    | [a, b], _, ht, hw, k1, k2, all, il, it =>
      have ta := all a (by simp)
      have tb := all b (by simp)
      refine Evl.q_when (b := decide (a = b)) (Evl.et_is (Evl.et_and (a := decide ((1 : Int) < (([a, b] : List Str).length : Int))) (b := decide (V.str a = V.str b)) (Evl.et_test (Evl.ev_op (Evl.ev_cb (Evl.ea_cons (Evl.ev_var rfl) Evl.ea_nil) (fun H1 s Q q => ⟨t, _, rfl, .inr (SqT.of (s _ _ (s1 _ _ ht))), q H1 (Evl.Ex.refl H1)⟩)) Evl.ev_c Evl.rv_I0)) (fun _ => Evl.et_test (Evl.ev_op (it H1 (Same.refl H1) 0 a rfl [some (.ref p), some (.ref t), v] rfl) (it H1 (Same.refl H1) 1 b rfl [some (.ref p), some (.ref t), v] rfl) (Evl.rv_eq rfl)))) (by
        show (true && _) = _
        rw [Bool.true_and]
        exact decide_eq_decide.mpr ⟨fun z => by injection z, fun z => by rw [z]⟩)) (fun e H2 s2 => ?_) (fun e H2 s2 => ?_)
      · have e : a = b := of_decide_eq_true e
        have hb : badOf [a, b] = some a := by show (if tokOk a = true then (if tokOk b = true then (if a = b then some a else none) else some b) else some a) = _; rw [if_pos ta, if_pos tb, if_pos e]
        refine emkr_oneE (it _ s2 0 a rfl _ rfl) (wth_str (hw a (by simp))) fun dd fs v' H' s h1 h2 h3 => ?_
        cases h3
        exact k2 a hb dd fs H' ((s1.trans s2).trans s) h1 h2
      · have e : ¬ a = b := of_decide_eq_false e
        have hb : badOf [a, b] = none := by show (if tokOk a = true then (if tokOk b = true then (if a = b then some a else none) else some b) else some a) = _; rw [if_pos ta, if_pos tb, if_neg e]
        refine ⟨_, rfl, _, rfl, p, C, dx, [], rfl, s2 _ _ hp1, cl, na, by decide, ?_⟩
        exact k1 hb H2 (s1.trans s2)
    | [], hl, _, _, _, _, _, _, _ => exact absurd hl (by decide)
    | _ :: _ :: _ :: _, hl, _, _, _, _, _, _, _ => exact absurd hl (by simp)
end
end Ss
namespace Ss
open PySem L2
section
variable {P : Program} {w : World} {K : PySem.W.Frag} {mg : Str → Option Value} {base : Heap}
abbrev sOinit : Stmt := inClass (topS 15) 1
theorem scOinit : FnScope ["self", "token"] ["self", "token"] (defScope sOinit) := ⟨rfl, rfl, rfl, by decide +kernel, rfl, by decide +kernel, by decide +kernel⟩
theorem ok_Oinit {f g R C Cb : Addr} {fd : FuncData} (F : Fun K "__init__" "Out.__init__" sOinit f fd) (Rd : ClsRd K mg "Rule" R) (fv : PySem.W.findCls K (.ref R) (.type "type") "__init__" = some (.val (.ref g))) (kp : PySem.W.keepIn K (.ref g) = true) (c : RCl K C (RK.word .out))
    (Fr : FnR P w K mg base (L2.CX P w) 5 g (fun vs H Q E => ∃ ws rest, vs = ws ++ rest ∧ ws.length = 1 ∧ rest.length ≤ sizeLine ∧ ∀ p, H p = none → spRI Cb K (ws ++ [V.ref p]) (upd H p (.tup rest)) Q E)) :
    FnOk P w K mg base (L2.CX P w) 6 f fd ["self", "token"] (spNew Cb C .out) := by
  refine F.okX scOinit (fun vs H Q E h => ?_) (fun cdv A outer s H vs Q E hr h => ?_)
  · obtain ⟨p, dx, toks, rfl, hl, _⟩ := h
    rw [List.length_cons, List.length_map, hl]; rfl
  · obtain ⟨p, dx, toks, rfl, hl, hp, hw, k1, k2⟩ := h
    match toks, hl, hw, k1, k2 with
    | [a], _, hw, k1, k2 =>
      refine ⟨_, (pss_cons (ps_expr (pe_clsfn Rd Fr fv kp hr (passes_call (takes_of rfl rfl rfl rfl) (fun _ _ _ _ h => h)) (pa_cons (pv 0) (pa_cons (pv 1) pa_nil)))) (pss_cons (ps_fld (pv 0) (pe_tup (pa_cons (pv 1) pa_nil)) rfl) (pss_one (ps_fld (pv 0) (pe_tup pa_nil) rfl)))), ?_⟩
      refine ⟨_, rfl, _, rfl, [.ref p], [.str a], rfl, rfl, by show 1 ≤ sizeLine; decide, fun t ht => ⟨p, t, C, dx, [a], rfl, upd_same, ?_, c.cl, c.t, .inl rfl, hw, fun hb H1 s1 => ?_, fun z hz => (k2 z hz).mono (Same.new (Same.refl H) ht)⟩⟩
      · rw [upd_ne (ne_of_none hp ht)]; exact hp
      have ntp : p ≠ t := ne_of_none hp ht
      have hpx : upd H1 p (.ins C dx [("tokens", .ref t)]) p = some (.ins C dx [("tokens", .ref t)]) := upd_same
      have htx : upd H1 p (.ins C dx [("tokens", .ref t)]) t = some (.tup (([a] : List Str).map V.str)) := by rw [upd_ne ntp.symm]; exact s1 _ _ upd_same
      have off : Off p H (upd H1 p (.ins C dx [("tokens", .ref t)])) := fun a o na ha => by rw [upd_ne na]; exact s1 _ _ (by rw [upd_ne (ne_of_none ha ht)]; exact ha)
      refine ⟨_, rfl, by show 1 ≤ sizeLine; decide, fun r hr => ⟨_, rfl, p, C, dx, _, rfl, by rw [upd_ne (ne_of_none hpx hr)]; exact hpx, c.cl, c.r, by show 1 < 1000; decide, ?_⟩⟩
      rw [putF_rem]
      refine ⟨by show 0 ≤ sizeLine; decide, fun i hi => ⟨_, rfl, p, C, dx, _, rfl, by rw [upd_ne (ne_of_none upd_same hi)]; exact upd_same, c.cl, c.i, by show 2 < 1000; decide, ?_⟩⟩
      rw [putF_ins]
      obtain ⟨q1, q2⟩ := rule_end (k := .out) (toks := [a]) hp off htx hpx hr hi
      exact k1 hb _ q1 q2
abbrev sWinit : Stmt := inClass (topS 16) 1
theorem scWinit : FnScope ["self", "token"] ["self", "token"] (defScope sWinit) := ⟨rfl, rfl, rfl, by decide +kernel, rfl, by decide +kernel, by decide +kernel⟩
theorem ok_Winit {f g R C Cb : Addr} {fd : FuncData} (F : Fun K "__init__" "Twice.__init__" sWinit f fd) (Rd : ClsRd K mg "Rule" R) (fv : PySem.W.findCls K (.ref R) (.type "type") "__init__" = some (.val (.ref g))) (kp : PySem.W.keepIn K (.ref g) = true) (c : RCl K C (RK.word .twice))
    (Fr : FnR P w K mg base (L2.CX P w) 5 g (fun vs H Q E => ∃ ws rest, vs = ws ++ rest ∧ ws.length = 1 ∧ rest.length ≤ sizeLine ∧ ∀ p, H p = none → spRI Cb K (ws ++ [V.ref p]) (upd H p (.tup rest)) Q E)) :
    FnOk P w K mg base (L2.CX P w) 6 f fd ["self", "token"] (spNew Cb C .twice) := by
  refine F.okX scWinit (fun vs H Q E h => ?_) (fun cdv A outer s H vs Q E hr h => ?_)
  · obtain ⟨p, dx, toks, rfl, hl, _⟩ := h
    rw [List.length_cons, List.length_map, hl]; rfl
  · obtain ⟨p, dx, toks, rfl, hl, hp, hw, k1, k2⟩ := h
    match toks, hl, hw, k1, k2 with
    | [a], _, hw, k1, k2 =>
      refine ⟨_, (pss_cons (ps_expr (pe_clsfn Rd Fr fv kp hr (passes_call (takes_of rfl rfl rfl rfl) (fun _ _ _ _ h => h)) (pa_cons (pv 0) (pa_cons (pv 1) pa_nil)))) (pss_cons (ps_fld (pv 0) (pe_tup (pa_cons (pv 1) pa_nil)) rfl) (pss_one (ps_fld (pv 0) (pe_tup (pa_cons (pv 1) (pa_cons (pv 1) pa_nil))) rfl)))), ?_⟩
      refine ⟨_, rfl, _, rfl, [.ref p], [.str a], rfl, rfl, by show 1 ≤ sizeLine; decide, fun t ht => ⟨p, t, C, dx, [a], rfl, upd_same, ?_, c.cl, c.t, .inl rfl, hw, fun hb H1 s1 => ?_, fun z hz => (k2 z hz).mono (Same.new (Same.refl H) ht)⟩⟩
      · rw [upd_ne (ne_of_none hp ht)]; exact hp
      have ntp : p ≠ t := ne_of_none hp ht
      have hpx : upd H1 p (.ins C dx [("tokens", .ref t)]) p = some (.ins C dx [("tokens", .ref t)]) := upd_same
      have htx : upd H1 p (.ins C dx [("tokens", .ref t)]) t = some (.tup (([a] : List Str).map V.str)) := by rw [upd_ne ntp.symm]; exact s1 _ _ upd_same
      have off : Off p H (upd H1 p (.ins C dx [("tokens", .ref t)])) := fun a o na ha => by rw [upd_ne na]; exact s1 _ _ (by rw [upd_ne (ne_of_none ha ht)]; exact ha)
      refine ⟨_, rfl, by show 1 ≤ sizeLine; decide, fun r hr => ⟨_, rfl, p, C, dx, _, rfl, by rw [upd_ne (ne_of_none hpx hr)]; exact hpx, c.cl, c.r, by show 1 < 1000; decide, ?_⟩⟩
      rw [putF_rem]
      refine ⟨_, rfl, _, rfl, by show 2 ≤ sizeLine; decide, fun i hi => ⟨_, rfl, p, C, dx, _, rfl, by rw [upd_ne (ne_of_none upd_same hi)]; exact upd_same, c.cl, c.i, by show 2 < 1000; decide, ?_⟩⟩
      rw [putF_ins]
      obtain ⟨q1, q2⟩ := rule_end (k := .twice) (toks := [a]) hp off htx hpx hr hi
      exact k1 hb _ q1 q2
abbrev sSinit : Stmt := inClass (topS 17) 2
theorem scSinit : FnScope ["self", "first", "second"] ["self", "first", "second"] (defScope sSinit) := ⟨rfl, rfl, rfl, by decide +kernel, rfl, by decide +kernel, by decide +kernel⟩
theorem ok_Sinit {f g R C Cb : Addr} {fd : FuncData} (F : Fun K "__init__" "Swapped.__init__" sSinit f fd) (Rd : ClsRd K mg "Rule" R) (fv : PySem.W.findCls K (.ref R) (.type "type") "__init__" = some (.val (.ref g))) (kp : PySem.W.keepIn K (.ref g) = true) (c : RCl K C (RK.word .swapped))
    (Fr : FnR P w K mg base (L2.CX P w) 5 g (fun vs H Q E => ∃ ws rest, vs = ws ++ rest ∧ ws.length = 1 ∧ rest.length ≤ sizeLine ∧ ∀ p, H p = none → spRI Cb K (ws ++ [V.ref p]) (upd H p (.tup rest)) Q E)) :
    FnOk P w K mg base (L2.CX P w) 6 f fd ["self", "first", "second"] (spNew Cb C .swapped) := by
  refine F.okX scSinit (fun vs H Q E h => ?_) (fun cdv A outer s H vs Q E hr h => ?_)
  · obtain ⟨p, dx, toks, rfl, hl, _⟩ := h
    rw [List.length_cons, List.length_map, hl]; rfl
  · obtain ⟨p, dx, toks, rfl, hl, hp, hw, k1, k2⟩ := h
    match toks, hl, hw, k1, k2 with
    | [a, b], _, hw, k1, k2 =>
      refine ⟨_, (pss_cons (ps_expr (pe_clsfn Rd Fr fv kp hr (passes_call (takes_of rfl rfl rfl rfl) (fun _ _ _ _ h => h)) (pa_cons (pv 0) (pa_cons (pv 1) (pa_cons (pv 2) pa_nil))))) (pss_cons (ps_fld (pv 0) (pe_tup (pa_cons (pv 1) (pa_cons (pv 2) pa_nil))) rfl) (pss_one (ps_fld (pv 0) (pe_tup (pa_cons (pv 2) (pa_cons (pv 1) pa_nil))) rfl)))), ?_⟩
      refine ⟨_, rfl, _, rfl, _, rfl, [.ref p], [.str a, .str b], rfl, rfl, by show 2 ≤ sizeLine; decide, fun t ht => ⟨p, t, C, dx, [a, b], rfl, upd_same, ?_, c.cl, c.t, .inr rfl, hw, fun hb H1 s1 => ?_, fun z hz => (k2 z hz).mono (Same.new (Same.refl H) ht)⟩⟩
      · rw [upd_ne (ne_of_none hp ht)]; exact hp
      have ntp : p ≠ t := ne_of_none hp ht
      have hpx : upd H1 p (.ins C dx [("tokens", .ref t)]) p = some (.ins C dx [("tokens", .ref t)]) := upd_same
      have htx : upd H1 p (.ins C dx [("tokens", .ref t)]) t = some (.tup (([a, b] : List Str).map V.str)) := by rw [upd_ne ntp.symm]; exact s1 _ _ upd_same
      have off : Off p H (upd H1 p (.ins C dx [("tokens", .ref t)])) := fun a o na ha => by rw [upd_ne na]; exact s1 _ _ (by rw [upd_ne (ne_of_none ha ht)]; exact ha)
      refine ⟨_, rfl, _, rfl, by show 2 ≤ sizeLine; decide, fun r hr => ⟨_, rfl, p, C, dx, _, rfl, by rw [upd_ne (ne_of_none hpx hr)]; exact hpx, c.cl, c.r, by show 1 < 1000; decide, ?_⟩⟩
      rw [putF_rem]
      refine ⟨_, rfl, _, rfl, by show 2 ≤ sizeLine; decide, fun i hi => ⟨_, rfl, p, C, dx, _, rfl, by rw [upd_ne (ne_of_none upd_same hi)]; exact upd_same, c.cl, c.i, by show 2 < 1000; decide, ?_⟩⟩
      rw [putF_ins]
      obtain ⟨q1, q2⟩ := rule_end (k := .swapped) (toks := [a, b]) hp off htx hpx hr hi
      exact k1 hb _ q1 q2
abbrev sKinit : Stmt := inClass (topS 18) 1
theorem scKinit : FnScope ["self", "first", "second"] ["self", "first", "second"] (defScope sKinit) := ⟨rfl, rfl, rfl, by decide +kernel, rfl, by decide +kernel, by decide +kernel⟩
theorem ok_Kinit {f g R C Cb : Addr} {fd : FuncData} (F : Fun K "__init__" "Taken.__init__" sKinit f fd) (Rd : ClsRd K mg "Rule" R) (fv : PySem.W.findCls K (.ref R) (.type "type") "__init__" = some (.val (.ref g))) (kp : PySem.W.keepIn K (.ref g) = true) (c : RCl K C (RK.word .taken))
    (Fr : FnR P w K mg base (L2.CX P w) 5 g (fun vs H Q E => ∃ ws rest, vs = ws ++ rest ∧ ws.length = 1 ∧ rest.length ≤ sizeLine ∧ ∀ p, H p = none → spRI Cb K (ws ++ [V.ref p]) (upd H p (.tup rest)) Q E)) :
    FnOk P w K mg base (L2.CX P w) 6 f fd ["self", "first", "second"] (spNew Cb C .taken) := by
  refine F.okX scKinit (fun vs H Q E h => ?_) (fun cdv A outer s H vs Q E hr h => ?_)
  · obtain ⟨p, dx, toks, rfl, hl, _⟩ := h
    rw [List.length_cons, List.length_map, hl]; rfl
  · obtain ⟨p, dx, toks, rfl, hl, hp, hw, k1, k2⟩ := h
    match toks, hl, hw, k1, k2 with
    | [a, b], _, hw, k1, k2 =>
      refine ⟨_, (pss_cons (ps_expr (pe_clsfn Rd Fr fv kp hr (passes_call (takes_of rfl rfl rfl rfl) (fun _ _ _ _ h => h)) (pa_cons (pv 0) (pa_cons (pv 1) (pa_cons (pv 2) pa_nil))))) (pss_cons (ps_fld (pv 0) (pe_tup (pa_cons (pv 1) pa_nil)) rfl) (pss_one (ps_fld (pv 0) (pe_tup (pa_cons (pv 2) pa_nil)) rfl)))), ?_⟩
      refine ⟨_, rfl, _, rfl, _, rfl, [.ref p], [.str a, .str b], rfl, rfl, by show 2 ≤ sizeLine; decide, fun t ht => ⟨p, t, C, dx, [a, b], rfl, upd_same, ?_, c.cl, c.t, .inr rfl, hw, fun hb H1 s1 => ?_, fun z hz => (k2 z hz).mono (Same.new (Same.refl H) ht)⟩⟩
      · rw [upd_ne (ne_of_none hp ht)]; exact hp
      have ntp : p ≠ t := ne_of_none hp ht
      have hpx : upd H1 p (.ins C dx [("tokens", .ref t)]) p = some (.ins C dx [("tokens", .ref t)]) := upd_same
      have htx : upd H1 p (.ins C dx [("tokens", .ref t)]) t = some (.tup (([a, b] : List Str).map V.str)) := by rw [upd_ne ntp.symm]; exact s1 _ _ upd_same
      have off : Off p H (upd H1 p (.ins C dx [("tokens", .ref t)])) := fun a o na ha => by rw [upd_ne na]; exact s1 _ _ (by rw [upd_ne (ne_of_none ha ht)]; exact ha)
      refine ⟨_, rfl, by show 1 ≤ sizeLine; decide, fun r hr => ⟨_, rfl, p, C, dx, _, rfl, by rw [upd_ne (ne_of_none hpx hr)]; exact hpx, c.cl, c.r, by show 1 < 1000; decide, ?_⟩⟩
      rw [putF_rem]
      refine ⟨_, rfl, by show 1 ≤ sizeLine; decide, fun i hi => ⟨_, rfl, p, C, dx, _, rfl, by rw [upd_ne (ne_of_none upd_same hi)]; exact upd_same, c.cl, c.i, by show 2 < 1000; decide, ?_⟩⟩
      rw [putF_ins]
      obtain ⟨q1, q2⟩ := rule_end (k := .taken) (toks := [a, b]) hp off htx hpx hr hi
      exact k1 hb _ q1 q2
end
end Ss
namespace Ss
open PySem L2 PyProof.Rows
/-! ### tuples and lists of texts, compared -/
theorem eqvAll_strs : ∀ a b : List Str, PyData.eqvAll (a.map PyData.str) (b.map PyData.str) = decide (a = b)
  | [], [] => rfl
  | [], _ :: _ => rfl
  | _ :: _, [] => rfl
  | x :: a, y :: b => by
    show ((x == y) && PyData.eqvAll (a.map PyData.str) (b.map PyData.str)) = _
    rw [eqvAll_strs a b]
    by_cases h : x = y
    · subst h
      by_cases q : a = b
      · subst q; simp
      · have e : decide (x :: a = x :: b) = false := decide_eq_false fun z => q (List.cons.inj z).2
        rw [decide_eq_false q, e, Bool.and_false]
    · have e : decide (x :: a = y :: b) = false := decide_eq_false fun z => h (List.cons.inj z).1
      rw [beq_eq_false_iff_ne.mpr h, e, Bool.false_and]
theorem shapedT_strs {ts : List Str} (h : ts.all okS = true) : SeqAt.shaped (.tuple (ts.map PyData.str)) = true := by
  show (PyData.canLayAll0 (ts.map PyData.str) && decide (PyData.depthAll (ts.map PyData.str) + 1 ≤ 64)) = true
  rw [lay_strs ts h, deep_strs]
  rfl
theorem rv_eqT {K : PySem.W.Frag} {H : Hp} {p q : Addr} {a b : List Str} (ha : a.all okS = true) (hb : b.all okS = true) (h1 : SqT K H p (a.map V.str)) (h2 : SqT K H q (b.map V.str)) : Evl.RV (rEqD K) (.ref p) (.ref q) H (.bl (decide (a = b))) := fun H1 e Q k =>
  ⟨_, _, .tup (Evl.ex_t e h1) (dp_strs a), .tup (Evl.ex_t e h2) (dp_strs b), shapedT_strs ha, shapedT_strs hb, by
    show Q (.bl (PyData.eqvAll _ _)) H1
    rw [eqvAll_strs]; exact k H1 (Evl.Ex.refl H1)⟩
theorem rv_neT {K : PySem.W.Frag} {H : Hp} {p q : Addr} {a b : List Str} (ha : a.all okS = true) (hb : b.all okS = true) (h1 : SqT K H p (a.map V.str)) (h2 : SqT K H q (b.map V.str)) : Evl.RV (rNeD K) (.ref p) (.ref q) H (.bl (!decide (a = b))) := fun H1 e Q k =>
  ⟨_, _, .tup (Evl.ex_t e h1) (dp_strs a), .tup (Evl.ex_t e h2) (dp_strs b), shapedT_strs ha, shapedT_strs hb, by
    show Q (.bl (!PyData.eqvAll _ _)) H1
    rw [eqvAll_strs]; exact k H1 (Evl.Ex.refl H1)⟩
theorem rv_neLs {K : PySem.W.Frag} {H : Hp} {p q : Addr} {a b : List Str} (ha : a.all okS = true) (hb : b.all okS = true) (h1 : SqL K H p (a.map V.str)) (h2 : SqL K H q (b.map V.str)) : Evl.RV (rNeD K) (.ref p) (.ref q) H (.bl (!decide (a = b))) := fun H1 e Q k =>
  ⟨_, _, .lst (Evl.ex_l e h1) (dp_strs a), .lst (Evl.ex_l e h2) (dp_strs b), shaped_strs ha, shaped_strs hb, by
    show Q (.bl (!PyData.eqvAll _ _)) H1
    rw [eqvAll_strs]; exact k H1 (Evl.Ex.refl H1)⟩
theorem okS_word {z : Str} (h : wordOk z) : okS z = true := by
  show z.cps.all (fun c => decide (c < 0x110000)) = true
  rw [← Array.all_toList]
  exact List.all_eq_true.mpr fun c hc => decide_eq_true (Nat.lt_of_lt_of_le (h.2 c hc) (by decide))
theorem okS_words {ts : List Str} (h : ∀ z ∈ ts, wordOk z) : ts.all okS = true := List.all_eq_true.mpr fun z hz => okS_word (h z hz)
theorem RK.word_ok (k : RK) : wordOk k.word := by cases k <;> exact ⟨by decide +kernel, by decide +kernel⟩
/-! ### the classes of rules beside each other -/
def RK.cls : RK → Str
  | .out => "Out"
  | .twice => "Twice"
  | .swapped => "Swapped"
  | .taken => "Taken"
structure RTab (K : PySem.W.Frag) (mg : Str → Option Value) (Cf : RK → Addr) (R : Addr) : Prop where
  cl : ∀ k, RCl K (Cf k) k.word
  g : ∀ k, mg k.cls = some (.ref (Cf k))
  gR : mg "Rule" = some (.ref R)
  own : ∀ a b, PySem.W.kitOne K (.ref (Cf a)) (.ref (Cf b)) = some (decide (a = b))
  base : ∀ a, PySem.W.kitOne K (.ref (Cf a)) (.ref R) = some true
  tup : PySem.W.kitOne K (.type "tuple") (.ref R) = some false
  nf : ∀ a b, PySem.W.notFirst K (Cf a) (.ref (Cf b)) = true
  nt : ∀ a, PySem.W.notFirst K (Cf a) (.type "tuple") = true
section
variable {K : PySem.W.Frag} {mg : Str → Option Value} {Cf : RK → Addr} {R : Addr} {H : Hp} {p : Addr} {k : RK} {toks : List Str} {σ : L2.St} {te : TE}
theorem rc_isR (Z : RTab K mg Cf R) (h : RuleAt H (Cf k) p k toks) {D : Addr} {b : Bool} (e : PySem.W.kitOne K (.ref (Cf k)) (.ref D) = some b) : Evl.RC (rIsi K) [.ref p, .ref D] H (.bl b) := fun H1 s Q q => by
  obtain ⟨dx, t, r, i, h1, _⟩ := h.mono s
  have c := Z.cl k
  exact ⟨.ref p, .ref D, .ref (Cf k), .ref D, b, rfl, .own D, .base (.ins h1 c.cl c.cla c.hn c.htk c.clm), e, q H1 (Evl.Ex.refl H1)⟩
theorem lk_word (t r i : V) : ([("tokens", t), ("removed", r), ("inserted", i)] : List (Str × V)).lookup ("word" : Str) = none := by
  rw [lookup_hd, if_neg (by decide +kernel), lookup_hd, if_neg (by decide +kernel), lookup_hd, if_neg (by decide +kernel)]
  rfl
/-- r.word, r.tokens -/
theorem ev_word (Z : RTab K mg Cf R) (h : RuleAt H (Cf k) p k toks) (he : Evl.Ev te σ H (.ref p)) : Evl.Ev (tCon K te "word") σ H (.str k.word) := fun H1 s Q q => he H1 s _ fun H2 s2 => by
  obtain ⟨dx, t, r, i, h1, _⟩ := h.mono (s.trans s2)
  obtain ⟨u, cu⟩ := (Z.cl k).word
  exact ⟨p, Cf k, dx, _, _, u, rfl, h1, (Z.cl k).cl, cu, by
    show (([("tokens", V.ref t), ("removed", V.ref r), ("inserted", V.ref i)] : List (Str × V))).lookup ("word" : Str) = none
    rw [lookup_hd, if_neg (by decide +kernel), lookup_hd, if_neg (by decide +kernel), lookup_hd, if_neg (by decide +kernel)]
    rfl, q H2 s2⟩
end
/-- a call of what raises nothing here -/
theorem passN {X : Cx} : Passes (L2.CX X.prog X.w) X (fun _ _ _ => False) := fun _ _ _ _ _ _ _ h => by
  obtain ⟨a, B, H', cls, d, h1, h2, h3, h4, h5, h6, h7, h8⟩ := h
  exact h8.elim
/-- the constant of a class of rules, read by the class's name -/
structure RNm (K : PySem.W.Frag) (mg : Str → Option Value) (k : RK) (C : Addr) : Prop where
  rd : ClsRd K mg k.cls C
  ex : ∃ u, PySem.W.findCls K (.ref C) (.type "type") "word" = some (.val u) ∧ RelV (.str k.word) u ∧ PySem.W.handedIn u = true
/-- a drawn rule: of tokens of the list at p -/
def spRule (K : PySem.W.Frag) : Sp := fun vs H Q _ => ∃ (b p : Addr) (n : Nat) (ws : List Str), vs = [.ref b, .ref p] ∧ Bag H b n ∧ n ≤ 800000000 ∧ p ≠ b ∧ SqL K H p (ws.map V.str) ∧ 2 ≤ ws.length ∧ ws.length ≤ 1000 ∧ ws.Nodup ∧
  ∀ (q : Addr) (k : RK) (toks : List Str) (H' : Hp), Off b H H' → Bag H' b (n + 3) → H q = none → H' q = some (.tup ((k.word :: toks).map V.str)) → toks.length = k.many → (∀ z ∈ toks, z ∈ ws) → toks.Nodup → Q (.ref q) H'
def spIsR (K : PySem.W.Frag) : Sp := fun vs H Q _ => ∃ (q : Addr) (k : RK) (toks : List Str), vs = [.ref q] ∧ H q = some (.tup ((k.word :: toks).map V.str)) ∧ toks.length = k.many ∧ (∀ z ∈ toks, wordOk z) ∧ badOf toks = none ∧ ∀ H', Same H H' → Q (.bl true) H'
def spOdd : Sp := fun vs H Q _ => ∃ (token more bad other : Str), vs = [.str token, .str more, .str bad, .str other] ∧ wordOk token ∧ wordOk more ∧ wordOk bad ∧ wordOk other ∧ tokOk token = true ∧ tokOk more = true ∧ tokOk bad = false ∧ token ≠ more ∧ ∀ H', Same H H' → Q (.bl true) H'
/-- str of a rule -/
def strR (k : RK) (toks : List Str) : Str := Txt.join " " (k.word :: toks)
theorem sum_small {ts : List Str} (h : ∀ z ∈ ts, wordOk z) : (ts.map (·.length)).sum ≤ 100 * ts.length := by
  induction ts with
  | nil => exact Nat.le_refl _
  | cons t ts ih =>
    have h1 := (h t List.mem_cons_self).1
    have h2 := ih fun z hz => h z (List.mem_cons_of_mem _ hz)
    rw [List.map_cons, List.sum_cons, List.length_cons]
    omega
def spRStr (Cf : RK → Addr) : Sp := fun vs H Q _ => ∃ (p : Addr) (k : RK) (toks : List Str), vs = [.ref p] ∧ RuleAt H (Cf k) p k toks ∧ toks.length ≤ 2 ∧ (∀ z ∈ toks, wordOk z) ∧ ∀ H', Same H H' → Q (.str (strR k toks)) H'
def spREq (K : PySem.W.Frag) (Cf : RK → Addr) : Sp := fun vs H Q _ => ∃ (p q : Addr) (k : RK) (toks : List Str), vs = [.ref p, .ref q] ∧ RuleAt H (Cf k) p k toks ∧ (∀ z ∈ toks, wordOk z) ∧
  ((∃ (k2 : RK) (toks2 : List Str), RuleAt H (Cf k2) q k2 toks2 ∧ (∀ z ∈ toks2, wordOk z) ∧ ∀ H', Same H H' → Q (.bl (decide (k = k2 ∧ toks = toks2))) H') ∨ (∃ xs, H q = some (.tup xs) ∧ ∀ H', Same H H' → Q (.bl false) H'))
/-- the law's way to a rule -/
def spRuled (K : PySem.W.Frag) (Cb : Addr) (Cf : RK → Addr) : Sp := fun vs H Q E => ∃ (q : Addr) (k : RK) (toks : List Str), vs = [.ref q] ∧ SqT K H q ((k.word :: toks).map V.str) ∧ toks.length = k.many ∧ (∀ z ∈ toks, wordOk z) ∧
  (badOf toks = none → ∀ (p : Addr) (H' : Hp), Same H H' → H p = none → RuleAt H' (Cf k) p k toks → Q (.ref p) H') ∧ (∀ z, badOf toks = some z → Bad Cb H z E)
def spWrong (K : PySem.W.Frag) : Sp := fun vs H Q _ => ∃ (q : Addr) (k : RK) (toks : List Str), vs = [.ref q] ∧ SqT K H q ((k.word :: toks).map V.str) ∧ toks.length = k.many ∧ (∀ z ∈ toks, wordOk z) ∧
  ∀ H', Same H H' → Q (match badOf toks with | none => V.non | some z => .str z) H'
section
variable {K : PySem.W.Frag} {σ : L2.St} {H : Hp} {ta : TA} {te : TE} {k : RK} {toks : List Str} {E : XK}
/-- what the law's try answers -/
def wrongV (toks : List Str) : V := match badOf toks with | none => V.non | some z => .str z
theorem ev_wrong (ha : Evl.EvA ta σ H ((k.word :: toks).map V.str)) (hl : toks.length = k.many) (hw : ∀ z ∈ toks, wordOk z) : Evl.Ev (tCall (spWrong K) [] E (tCons (tTup ta) tNil)) σ H (wrongV toks) := fun H1 s1 Q q =>
  (Evl.eu_tup ha (by rw [List.length_map, List.length_cons, hl]; cases k <;> decide)) H1 s1 (fun x H2 => spWrong K [x] H2 Q E) fun p H2 np s2 hp => ⟨p, k, toks, rfl, SqT.of hp, hl, hw, fun H' s' => q H' (s2.trans s')⟩
theorem ev_notN {x : V} (h : Evl.Ev te σ H x) : Evl.Ev (tNotN te) σ H (.bl (!decide (x = .non))) := fun H1 s Q q => h H1 s _ fun H2 s2 => q H2 s2
/-- != of texts -/
theorem et_neS {tb : TE} {a b : Str} {c : Bool} (h1 : Evl.Ev te σ H (.str a)) (h2 : Evl.Ev tb σ H (.str b)) (e : (!decide (a = b)) = c) : Evl.EvT (tTest (tOp rNe te tb)) σ H c :=
  Evl.et_is (Evl.et_test (Evl.ev_op h1 h2 (Evl.rv_ne rfl))) (by rw [← e]; congr 1; exact decide_eq_decide.mpr ⟨fun z => by injection z, fun z => by rw [z]⟩)
end
/-- == and str, whichever class of rules -/
theorem op_eqF {X : Cx} {CX : CXT} {Cf : RK → Addr} {k j : Nat} {ps : List Str} {sp : Sp} {E : XK} (D : ∀ c, Mm X.prog X.w X.K X.mg X.base CX (Cf c) k "__eq__" ps sp) (hr : Room j X.A) (hx : Passes CX X E) (hk : k ≤ j := by decide) : OpR X (compareOp .Eq) (fun x y H Q => ∃ c, rEqO X.K (Cf c) sp E x y H Q) := by
  intro pins s σ H x y v u Q I rx ry h
  obtain ⟨c, h⟩ := h
  exact op_eqO (D c) hr hx hk pins s σ H x y v u Q I rx ry h
theorem call_strF {X : Cx} {CX : CXT} {Cf : RK → Addr} {k j : Nat} {ps : List Str} {sp : Sp} {E : XK} (D : ∀ c, Mm X.prog X.w X.K X.mg X.base CX (Cf c) k "__str__" ps sp) (hr : Room j X.A) (hx : Passes CX X E) (hk : k + 2 ≤ j := by decide) : CallR X (.type "str") (fun xs H Q => ∃ c, rStrO (Cf c) sp E xs H Q) := by
  intro pins s σ H xs us Q I r h
  obtain ⟨c, h⟩ := h
  exact call_strO (D c) hr hx hk pins s σ H xs us Q I r h
theorem ix_tupK {X : Cx} {K : PySem.W.Frag} (h : X.K = K) : IxR X (rIxT K) := by subst h; exact ix_tup
theorem bad_1 {a : Str} (h : tokOk a = false) : badOf [a] = some a := by show (if tokOk a = true then none else some a) = _; rw [h]; rfl
theorem bad_1n {a : Str} (h : tokOk a = true) : badOf [a] = none := by show (if tokOk a = true then none else some a) = _; rw [h]; rfl
theorem bad_2a {a b : Str} (h : tokOk a = false) : badOf [a, b] = some a := by show (if tokOk a = true then _ else some a) = _; rw [h]; rfl
theorem bad_2b {a b : Str} (h : tokOk a = true) (g : tokOk b = false) : badOf [a, b] = some b := by show (if tokOk a = true then (if tokOk b = true then _ else some b) else some a) = _; rw [h, g]; rfl
theorem bad_2e {a : Str} (h : tokOk a = true) : badOf [a, a] = some a := by show (if tokOk a = true then (if tokOk a = true then (if a = a then some a else none) else some a) else some a) = _; rw [h, if_pos rfl, if_pos rfl, if_pos rfl]
theorem bad_2n {a b : Str} (h : tokOk a = true) (g : tokOk b = true) (n : a ≠ b) : badOf [a, b] = none := by show (if tokOk a = true then (if tokOk b = true then (if a = b then some a else none) else some b) else some a) = _; rw [h, g, if_pos rfl, if_pos rfl, if_neg n]
theorem wrong_s {toks : List Str} {z : Str} (h : badOf toks = some z) : wrongV toks = .str z := by unfold wrongV; rw [h]
theorem wrong_n {toks : List Str} (h : badOf toks = none) : wrongV toks = .non := by unfold wrongV; rw [h]
/-- a drawn token -/
def TokS (z : Str) : Prop := ∃ t : List Nat, z = mkS t ∧ 1 ≤ t.length ∧ t.length ≤ 4 ∧ ∀ c ∈ t, c ∈ SGN
theorem TokS.ok {z : Str} (h : TokS z) : tokOk z = true := by
  obtain ⟨t, rfl, h1, h2, h3⟩ := h
  exact tok_mk h1 h2 h3
theorem wordOk_mk {t : List Nat} (h1 : t.length ≤ 100) (h : ∀ c ∈ t, c < 1000) : wordOk (mkS t) := ⟨by rw [mkS_len]; exact h1, by rw [mkS_cps]; exact h⟩
theorem sgn_lt : ∀ c ∈ SGN, c < 1000 := by decide +kernel
theorem TokS.word {z : Str} (h : TokS z) : wordOk z := by
  obtain ⟨t, rfl, h1, h2, h3⟩ := h
  exact wordOk_mk (by omega) fun c hc => sgn_lt c (h3 c hc)
/-- a drawn rule at q -/
structure RT (H : Hp) (q : Addr) (k : RK) (toks : List Str) : Prop where
  at_ : H q = some (.tup ((k.word :: toks).map V.str))
  len : toks.length = k.many
  tok : ∀ z ∈ toks, TokS z
  nd : toks.Nodup
theorem RT.mono {H H' : Hp} {q : Addr} {k : RK} {toks : List Str} (h : RT H q k toks) (e : H' q = H q) : RT H' q k toks := ⟨e.trans h.at_, h.len, h.tok, h.nd⟩
theorem RT.off {H H' : Hp} {q b : Addr} {k : RK} {toks : List Str} {n : Nat} (h : RT H q k toks) (B : Bag H b n) (o : Off b H H') : RT H' q k toks := ⟨o q _ (fun e => by
  obtain ⟨d, m, c, hb, _⟩ := B
  rw [← e, h.at_] at hb; cases hb) h.at_, h.len, h.tok, h.nd⟩
theorem RT.same {H H' : Hp} {q : Addr} {k : RK} {toks : List Str} (h : RT H q k toks) (s : Same H H') : RT H' q k toks := ⟨s _ _ h.at_, h.len, h.tok, h.nd⟩
theorem RT.words {H : Hp} {q : Addr} {k : RK} {toks : List Str} (h : RT H q k toks) : ∀ z ∈ toks, wordOk z := fun z hz => (h.tok z hz).word
theorem RT.good {H : Hp} {q : Addr} {k : RK} {toks : List Str} (h : RT H q k toks) : badOf toks = none := by
  have hl := h.len
  have h12 : toks.length = 1 ∨ toks.length = 2 := by rw [hl]; cases k <;> simp [RK.many]
  match toks, h12, h.tok, h.nd with
  | [a], _, ht, _ => exact bad_1n (ht a (by simp)).ok
  | [a, b], _, ht, nd => exact bad_2n (ht a (by simp)).ok (ht b (by simp)).ok (by simpa using nd)
  | [], h, _, _ => exact absurd h (by decide)
  | _ :: _ :: _ :: _, h, _, _ => exact absurd h (by simp)
theorem RT.neb {H : Hp} {q b : Addr} {k : RK} {toks : List Str} {n : Nat} (h : RT H q k toks) (B : Bag H b n) : q ≠ b := fun e => by
  obtain ⟨d, m, c, hb, _⟩ := B
  rw [← e, h.at_] at hb; cases hb
/-- strings that are no tokens -/
theorem bad_tok {t : List Nat} (h : t.length = 0 ∨ 4 < t.length ∨ ∃ c ∈ t, c < 33) : tokOk (mkS t) = false := by
  cases e : tokOk (mkS t) with
  | false => rfl
  | true =>
    unfold tokOk at e
    rw [mkS_len, mkS_cps] at e
    simp only [Bool.and_eq_true, decide_eq_true_eq, List.all_eq_true] at e
    obtain ⟨⟨h1, h2⟩, h3⟩ := e
    rcases h with h | h | ⟨c, hc, h⟩
    · omega
    · omega
    · have q := h3 c hc
      unfold sgC at q
      simp only [Bool.and_eq_true, decide_eq_true_eq] at q
      omega
theorem joinL_one : ∀ t : List Nat, TL.joinL [] (t.map fun c => [c]) = t
  | [] => rfl
  | [c] => rfl
  | c :: d :: t => by
    show [c] ++ ([] ++ TL.joinL [] ((d :: t).map fun c => [c])) = _
    rw [joinL_one (d :: t)]
    rfl
theorem join_chars (t : List Nat) : Txt.join "" (t.map fun c => (⟨#[c]⟩ : Str)) = mkS t := by
  have h := TL.tl_join "" (t.map fun c => (⟨#[c]⟩ : Str))
  rw [← TL.join_eq, List.map_map] at h
  have e1 : TL.tl ("" : Str) = [] := by decide +kernel
  have e2 : (TL.tl ∘ fun c => (⟨#[c]⟩ : Str)) = fun c : Nat => [c] := rfl
  rw [e1, e2, joinL_one] at h
  have q := mkS_of (Txt.join "" (t.map fun c => (⟨#[c]⟩ : Str)))
  rw [q]
  exact congrArg mkS h
/-- a string that is no token, drawn -/
structure Odd (x : V) : Prop where
  ex : ∃ u : List Nat, x = .str (mkS u) ∧ u.length ≤ 100 ∧ (∀ c ∈ u, c < 1000) ∧ (u.length = 0 ∨ 4 < u.length ∨ ∃ c ∈ u, c < 33)
theorem odd_all {L s : List Nat} (hL : 4 < L.length ∧ L.length ≤ 10 ∧ ∀ c ∈ L, c ∈ SGN) (hs : s.length ≤ 1 ∧ ∀ c ∈ s, c ∈ SGN) : ∀ x ∈ ([V.str "", V.str (mkS L), V.str " ", V.str (mkS s ++ " "), V.str (" " ++ mkS s), V.str (mkS s ++ "\n"), V.str "\n", V.str (mkS s ++ " b"), V.str "\t", V.str (mkS s ++ "\t")] : List V), Odd x := by
  have e0 : ("" : Str) = mkS [] := by decide +kernel
  have e1 : (" " : Str) = mkS [32] := by decide +kernel
  have e2 : ("\n" : Str) = mkS [10] := by decide +kernel
  have e3 : (" b" : Str) = mkS [32, 98] := by decide +kernel
  have e4 : ("\t" : Str) = mkS [9] := by decide +kernel
  have sl : ∀ (v : List Nat) (c : Nat), (∀ d ∈ v, d < 1000) → v.length ≤ 5 → c ∈ v → c < 33 → Odd (.str (mkS (s ++ v))) := fun v c h1 h2 h3 h4 =>
    ⟨s ++ v, rfl, by rw [List.length_append]; have := hs.1; omega, fun d hd => (List.mem_append.mp hd).elim (fun z => sgn_lt d (hs.2 d z)) (h1 d), .inr (.inr ⟨c, List.mem_append_right _ h3, h4⟩)⟩
  intro x hx
  simp only [List.mem_cons, List.not_mem_nil, or_false] at hx
  rcases hx with rfl | rfl | rfl | rfl | rfl | rfl | rfl | rfl | rfl | rfl
  · exact ⟨[], by rw [e0], by decide, by simp, .inl rfl⟩
  · exact ⟨L, rfl, by have := hL.2.1; omega, fun c hc => sgn_lt c (hL.2.2 c hc), .inr (.inl hL.1)⟩
  · exact ⟨[32], by rw [e1], by decide, by decide, .inr (.inr ⟨32, by decide, by decide⟩)⟩
  · rw [e1, mkS_app]; exact sl [32] 32 (by decide) (by decide) (by decide) (by decide)
  · rw [e1, mkS_app]; exact ⟨[32] ++ s, rfl, by rw [List.length_append]; have := hs.1; show 1 + s.length ≤ 100; omega, fun d hd => (List.mem_append.mp hd).elim (fun z => by rw [List.mem_singleton.mp z]; decide) (fun z => sgn_lt d (hs.2 d z)), .inr (.inr ⟨32, List.mem_append_left _ (by decide), by decide⟩)⟩
  · rw [e2, mkS_app]; exact sl [10] 10 (by decide) (by decide) (by decide) (by decide)
  · exact ⟨[10], by rw [e2], by decide, by decide, .inr (.inr ⟨10, by decide, by decide⟩)⟩
  · rw [e3, mkS_app]; exact sl [32, 98] 32 (by decide) (by decide) (by decide) (by decide)
  · exact ⟨[9], by rw [e4], by decide, by decide, .inr (.inr ⟨9, by decide, by decide⟩)⟩
  · rw [e4, mkS_app]; exact sl [9] 9 (by decide) (by decide) (by decide) (by decide)
theorem sum_one : ∀ t : List Nat, ((t.map fun c => (⟨#[c]⟩ : Str)).map (·.length)).sum = t.length
  | [] => rfl
  | c :: t => by
    rw [List.map_cons, List.map_cons, List.sum_cons, sum_one t, List.length_cons]
    show 1 + t.length = t.length + 1
    omega
end Ss
namespace Ss
open PySem L2
section
variable {P : Program} {w : World} {K : PySem.W.Frag} {mg : Str → Option Value} {base : Heap}
abbrev sRuled : Stmt := topS 32
theorem scRuled : FnScope ["rule"] ["rule"] (defScope sRuled) := ⟨rfl, rfl, rfl, by decide +kernel, rfl, by decide +kernel, by decide +kernel⟩
theorem ok_ruled {Cb : Addr} {Cf : RK → Addr} (F : DefAt K mg "_law_ruled" sRuled) (DOut : NewD P w K mg base (L2.CX P w) (Cf .out) 6 "Out" ["self", "token"] (spNew Cb (Cf .out) .out)) (DTwice : NewD P w K mg base (L2.CX P w) (Cf .twice) 6 "Twice" ["self", "token"] (spNew Cb (Cf .twice) .twice))
    (DSwapped : NewD P w K mg base (L2.CX P w) (Cf .swapped) 6 "Swapped" ["self", "first", "second"] (spNew Cb (Cf .swapped) .swapped)) (DTaken : NewD P w K mg base (L2.CX P w) (Cf .taken) 6 "Taken" ["self", "first", "second"] (spNew Cb (Cf .taken) .taken)) :
    Dk P w K mg base (L2.CX P w) 8 "_law_ruled" ["rule"] (spRuled K Cb Cf) := by
  obtain ⟨f, fd, F, mf⟩ := F.ex
  refine ⟨f, fd, F.okX scRuled (fun vs H Q E h => ?_) (fun cdv A outer s H vs Q E hr h => ?_), mf, F.kp, F.binds fun _ _ _ _ _ _ us hl => match us, hl with | [_], _ => rfl⟩
  · obtain ⟨q, k, toks, rfl, _⟩ := h; rfl
  · obtain ⟨q, k, toks, rfl, hq, hl, hw, k1, k2⟩ := h
    refine ⟨_, (pss_cons (ps_if (pt_cmpR op_eq (pe_ix ix_tup (pv 0) pe_int (fun _ _ => rfl)) pe_str (nomark _)) (pss_one (ps_ret (pe_mk DOut hr (passes_call (takes_of rfl rfl rfl rfl) (fun _ _ _ _ h => h)) (pa_cons (pe_ix ix_tup (pv 0) pe_int (fun _ _ => rfl)) pa_nil)))) pss_nil) (pss_cons (ps_if (pt_cmpR op_eq (pe_ix ix_tup (pv 0) pe_int (fun _ _ => rfl)) pe_str (nomark _)) (pss_one (ps_ret (pe_mk DTwice hr (passes_call (takes_of rfl rfl rfl rfl) (fun _ _ _ _ h => h)) (pa_cons (pe_ix ix_tup (pv 0) pe_int (fun _ _ => rfl)) pa_nil)))) pss_nil) (pss_cons (ps_if (pt_cmpR op_eq (pe_ix ix_tup (pv 0) pe_int (fun _ _ => rfl)) pe_str (nomark _)) (pss_one (ps_ret (pe_mk DSwapped hr (passes_call (takes_of rfl rfl rfl rfl) (fun _ _ _ _ h => h)) (pa_cons (pe_ix ix_tup (pv 0) pe_int (fun _ _ => rfl)) (pa_cons (pe_ix ix_tup (pv 0) pe_int (fun _ _ => rfl)) pa_nil))))) pss_nil) (pss_one (ps_ret (pe_mk DTaken hr (passes_call (takes_of rfl rfl rfl rfl) (fun _ _ _ _ h => h)) (pa_cons (pe_ix ix_tup (pv 0) pe_int (fun _ _ => rfl)) (pa_cons (pe_ix ix_tup (pv 0) pe_int (fun _ _ => rfl)) pa_nil)))))))), ?_⟩
    have it : ∀ (H2 : Hp) (s2 : Same H H2) (i : Nat) (z : Str) (_ : (k.word :: toks)[i]? = some z), Evl.Ev (tOp (rIxT K) (tVar 0) (tC (.int (i : Nat)))) [some (.ref q)] H2 (.str z) := fun H2 s2 i z hz =>
      Evl.ev_op (Evl.ev_var rfl) Evl.ev_c (Evl.rv_ixT (Evl.ex_t s2 hq) (atI_nat (by rw [List.getElem?_map, hz]; rfl)))
    have te : ∀ (H2 : Hp) (s2 : Same H H2) (w : Str), Evl.EvT (tTest (tOp rEq (tOp (rIxT K) (tVar 0) (tC (.int ((0 : Nat) : Int)))) (tC (.str w)))) [some (.ref q)] H2 (decide (V.str k.word = V.str w)) := fun H2 s2 w =>
      Evl.et_test (Evl.ev_op (it H2 s2 0 k.word rfl) Evl.ev_c (Evl.rv_eq rfl))
    -- behind the making
    have fin : ∀ (H2 : Hp) (s2 : Same H H2) (x dx : Addr), H2 x = none → H2 dx = none → dx ≠ x → spNew Cb (Cf k) k (.ref x :: toks.map V.str) (upd (upd H2 dx (.own x)) x (.ins (Cf k) dx [])) (fun v H3 => v = .non ∧ Q (.ref x) H3) E := fun H2 s2 x dx nx ndx nex => by
      refine ⟨x, dx, toks, rfl, hl, upd_same, hw, fun hb H3 o r => ⟨rfl, k1 hb x H3 (fun a u ha => ?_) (Evl.fresh_back s2 nx) r⟩, fun z hz => (k2 z hz).mono (s2.trans ((Evl.Ex.new ndx).trans (Evl.Ex.new (by rw [upd_ne nex.symm]; exact nx))))⟩
      have h2 := s2 _ _ ha
      exact o a u (ne_of_none h2 nx) (by rw [upd_ne (ne_of_none h2 nx), upd_ne (ne_of_none h2 ndx)]; exact h2)
    match k, toks, hl, it, te, fin with
    | .out, [a], _, it, te, fin =>
      refine Evl.q_when (b := true) (Evl.et_is (te H (Same.refl H) "out") (by decide +kernel)) (fun _ H1 s1 => ?_) (fun e => Bool.noConfusion e)
      exact it H1 s1 1 a rfl H1 (Evl.Ex.refl H1) _ fun H2 s2 => fun x dx nx ndx nex => fin H2 (s1.trans s2) x dx nx ndx nex
    | .twice, [a], _, it, te, fin =>
      refine Evl.q_when (b := false) (Evl.et_is (te H (Same.refl H) "out") (by decide +kernel)) (fun e => Bool.noConfusion e) (fun _ H1 s1 => ?_)
      refine Evl.q_when (b := true) (Evl.et_is (te H1 s1 "twice") (by decide +kernel)) (fun _ H2 s2 => ?_) (fun e => Bool.noConfusion e)
      exact it H2 (s1.trans s2) 1 a rfl H2 (Evl.Ex.refl H2) _ fun H3 s3 => fun x dx nx ndx nex => fin H3 ((s1.trans s2).trans s3) x dx nx ndx nex
    | .swapped, [a, b], _, it, te, fin =>
      refine Evl.q_when (b := false) (Evl.et_is (te H (Same.refl H) "out") (by decide +kernel)) (fun e => Bool.noConfusion e) (fun _ H1 s1 => ?_)
      refine Evl.q_when (b := false) (Evl.et_is (te H1 s1 "twice") (by decide +kernel)) (fun e => Bool.noConfusion e) (fun _ H2 s2 => ?_)
      refine Evl.q_when (b := true) (Evl.et_is (te H2 (s1.trans s2) "swapped") (by decide +kernel)) (fun _ H3 s3 => ?_) (fun e => Bool.noConfusion e)
      have t3 := (s1.trans s2).trans s3
      exact it H3 t3 1 a rfl H3 (Evl.Ex.refl H3) _ fun H4 s4 => it H4 (t3.trans s4) 2 b rfl H4 (Evl.Ex.refl H4) _ fun H5 s5 => fun x dx nx ndx nex => fin H5 ((t3.trans s4).trans s5) x dx nx ndx nex
    | .taken, [a, b], _, it, te, fin =>
      refine Evl.q_when (b := false) (Evl.et_is (te H (Same.refl H) "out") (by decide +kernel)) (fun e => Bool.noConfusion e) (fun _ H1 s1 => ?_)
      refine Evl.q_when (b := false) (Evl.et_is (te H1 s1 "twice") (by decide +kernel)) (fun e => Bool.noConfusion e) (fun _ H2 s2 => ?_)
      refine Evl.q_when (b := false) (Evl.et_is (te H2 (s1.trans s2) "swapped") (by decide +kernel)) (fun e => Bool.noConfusion e) (fun _ H3 s3 => ?_)
      have t3 := (s1.trans s2).trans s3
      exact it H3 t3 1 a rfl H3 (Evl.Ex.refl H3) _ fun H4 s4 => it H4 (t3.trans s4) 2 b rfl H4 (Evl.Ex.refl H4) _ fun H5 s5 => fun x dx nx ndx nex => fin H5 ((t3.trans s4).trans s5) x dx nx ndx nex
end
end Ss
namespace Ss
open PySem PySem.Spec L2 PyProof.Rows
/-! ### x, *rest = a list -/
section
variable {prog : Program} {w : World} {A : Around} {E : Value → Shared → Prop} {s : Shared}
theorem shiftS {I : Addr} {fp wr : List Addr} {G : Array GenState → Array GenState → Prop} {n : Nat} {P : Nat → Value → Prop} {St : Nat → Shared → Prop} (W : WalksS prog w A I fp wr G (n + 1) P St) :
    WalksS prog w A I fp wr G n (fun i v => P (i + 1) v) (fun i s => St (i + 1) s) where
  sub := W.sub
  grefl := W.grefl
  gtrans := W.gtrans
  frame := fun i => W.frame (i + 1)
  item := fun i s Q E hi => W.item (i + 1) s Q E (by omega)
  done := W.done
  self := fun i => W.self (i + 1)
theorem items_eq {x : Value} {xs : List Value} {acc : Array Value} (h : ItemsOf (fun i v => (x :: xs)[i + 1]? = some v) acc xs.length) : acc.toList = xs := by
  refine List.ext_getElem? fun i => ?_
  rw [Array.getElem?_toList]
  by_cases hi : i < acc.size
  · have e := h.2 i acc[i] (by simp [hi])
    rw [Array.getElem?_eq_getElem hi, ← e]
    simp
  · rw [Array.getElem?_eq_none (by omega), List.getElem?_eq_none (by have := h.1; omega)]
theorem unpackItems_star {l : Addr} {x : Value} {xs : List Value} {Q : List Value → Shared → Prop} (hh : A.handled = none) (hl : s.heap.IsList l (x :: xs).toArray) (hz : xs.length ≤ sizeLine)
    (hQ : ∀ (h' : Heap) (tk : Nat), (∀ b o, s.heap.get? b = some o → h'.get? b = some o) → s.toks ≤ tk → Q [x, .ref h'.objs.size] { s with heap := h'.push (seqObj "list" xs.toArray 0), toks := tk }) : wpAny (model prog w) A (unpackItems (.ref l) 2 (some 1)) Q E s := by
  have hlt : l ≠ s.heap.objs.size := by obtain ⟨o, ho, _⟩ := hl; exact Nat.ne_of_lt (Heap.lt_size ho)
  unfold unpackItems
  refine wpAny_bind ?_
  unfold notIterableAtAll
  refine wpAny_bind (wpAny_specialOf hl.typeIs slot_list_iter.lookup ?_)
  refine wpAny_pure ?_
  simp only [Bool.false_eq_true, if_false]
  refine wpAny_bind (wpAny_holding (wpAny_pyIter_list hl ?_))
  refine wpAny_bind (wpAny_holding (PySem.W.kun_draw hlt 1 0 _ _ ⟨_, Heap.get?_push_size _ rfl, rfl, rfl⟩ (hl.push _) (by simp) fun h₁ hit₁ hs₁ => ?_))
  have hl₁ : h₁.IsList l (x :: xs).toArray := (hl.push _).extBut hs₁.extBut hlt
  have hk1 : ∀ b o, s.heap.get? b = some o → h₁.get? b = some o := fun b o e => hs₁.extBut b o (Nat.ne_of_lt (Heap.lt_size e)) (Heap.get?_push_of_some _ e)
  rw [if_neg (by simp)]
  have W := shiftS (n := xs.length) (by have q := (Walks.list (prog := prog) (w := w) (A := A.in1) hh s.heap.objs.size l hlt (x :: xs).toArray).toS; simpa using q)
  refine wpAny_bind (wpAny_holding (wpAny_collect_iter (s := { s with heap := h₁ }) (T := "list_iterator") (.inr (.inr (.inl rfl))) W (fun i s' h => Heap.IsListIter.typeIs h.1) ⟨hit₁, hl₁⟩ (fun b hb => ?_) (List.mem_cons_self) (fun s' acc mv hacc => ?_) hz))
  · rcases List.mem_cons.mp hb with e | hb
    · subst e
      obtain ⟨o, ho, _⟩ := hit₁
      exact Heap.lt_size ho
    · obtain rfl := List.mem_singleton.mp hb
      obtain ⟨o, ho, _⟩ := hl₁
      exact Heap.lt_size ho
  · rw [items_eq hacc]
    simp only [Nat.sub_self, Nat.not_lt_zero, if_false, List.length_cons, Nat.sub_zero, List.take_length, List.drop_length, List.append_nil]
    refine wpAny_bind (wpAny_newList ?_ hz)
    refine wpAny_pure ?_
    rw [Moved.eq_with mv]
    refine hQ s'.heap s'.toks (fun b o e => ?_) ?_
    · refine mv.heap b o (fun hm => ?_) (hk1 b o e)
      obtain rfl := List.mem_singleton.mp hm
      exact absurd (Heap.lt_size e) (Nat.lt_irrefl _)
    · exact mv.toks
end
section
variable {X : Cx} {pos p : Pos}
/-- x, *rest = a list of one or more -/
def gStar1 (K : PySem.W.Frag) (t : TGs) : TG := fun v σ H Q => ∃ a x xs, v = .ref a ∧ SqL K H a (x :: xs) ∧ ∀ q, H q = none → t [x, .ref q] σ (upd H q (.lst xs)) Q
theorem pg_star1 {e1 e2 : Expr} {k : Nat} {t : TGs} (hc : X.calm = true) (h : PGs X [e1, e2] t) (hs : assignEach [e1, .Starred e2 p] X.env = [(false, assign e1 X.env), (true, assign e2 X.env)] := by rfl)
    (h2 : (assignEach [e1, e2] X.env).map (·.2) = [assign e1 X.env, assign e2 X.env] := by rfl) : PG X (.Tuple [e1, .Starred e2 p] k pos) (gStar1 X.K t) := by
  refine ⟨fun pins s σ H v u Q I r hw => ?_⟩
  obtain ⟨a, x, xs, e1', hq, hw⟩ := hw
  subst e1'
  cases r
  obtain ⟨its, rv, pl, hz⟩ := I.list hq
  cases rv with
  | cons rx rxs =>
    rename_i y ys
    rw [PyProof.Rows.assign_Tuple]
    refine wpAny_bind (wpAny_standAt ?_)
    unfold unpack
    rw [hs]
    refine wpAny_bind (wpAny_holding (unpackItems_star (I.ok.hd hc) pl.isList (by rw [← rxs.length]; simp at hz; omega) fun h' tk hk ht => ?_))
    have I1 : Inv X pins σ H { s with heap := h', toks := tk } := I.kept (t' := tk) hk
    have hp := I1.hok.fresh (Nat.le_refl _)
    have I2 : Inv X pins σ (upd H h'.objs.size (.lst xs)) { s with heap := h'.push (seqObj "list" ys.toArray 0), toks := tk } :=
      I1.laid (fun b u q => Heap.get?_push_of_some _ q) (Nat.le_refl _) ⟨by simp at hz; omega, ys, 0, rxs, Heap.get?_push_size _ rfl⟩
    have q := h.run pins _ σ _ [x, .ref h'.objs.size] [y, .ref h'.objs.size] Q I2 (.cons rx (.cons rfl .nil)) (hw _ hp)
    rw [h2] at q
    exact q
end
end Ss
namespace Ss
open PySem L2 PyProof.Rows
/-! ### the text of a rule, read back -/
/-- the rule of a word and its tokens -/
def kindOf (w : Str) (toks : List Str) : Option RK :=
  if toks.all tokOk = true then
    match toks with
    | [_] => if w = "out" then some .out else if w = "twice" then some .twice else none
    | [a, b] => if a = b then none else if w = "swapped" then some .swapped else if w = "taken" then some .taken else none
    | _ => none
  else none
def readOf (z : Str) : Option (RK × List Str) := match Txt.split z " " with
  | [] => none
  | w :: toks => (kindOf w toks).map fun k => (k, toks)
theorem kind_some {w : Str} {toks : List Str} {k : RK} (h : kindOf w toks = some k) : w = k.word ∧ toks.length = k.many ∧ badOf toks = none ∧ (∀ z ∈ toks, tokOk z = true) := by
  unfold kindOf at h
  split at h
  · rename_i ha
    have ha := List.all_eq_true.mp ha
    match toks, h, ha with
    | [a], h, ha =>
      dsimp only at h
      split at h
      · rename_i e; cases h; exact ⟨e, rfl, bad_1n (ha a (by simp)), ha⟩
      · split at h
        · rename_i e; cases h; exact ⟨e, rfl, bad_1n (ha a (by simp)), ha⟩
        · cases h
    | [a, b], h, ha =>
      dsimp only at h
      split at h
      · cases h
      · rename_i n
        split at h
        · rename_i e; cases h; exact ⟨e, rfl, bad_2n (ha a (by simp)) (ha b (by simp)) n, ha⟩
        · split at h
          · rename_i e; cases h; exact ⟨e, rfl, bad_2n (ha a (by simp)) (ha b (by simp)) n, ha⟩
          · cases h
    | [], h, _ => cases h
    | _ :: _ :: _ :: _, h, _ => cases h
  · cases h
theorem kind_of {k : RK} {toks : List Str} (hl : toks.length = k.many) (ht : ∀ z ∈ toks, tokOk z = true) (nd : toks.Nodup) : kindOf k.word toks = some k := by
  unfold kindOf
  rw [if_pos (List.all_eq_true.mpr ht)]
  match k, toks, hl, nd with
  | .out, [a], _, _ => rfl
  | .twice, [a], _, _ => show (if RK.word .twice = "out" then _ else _) = _; rw [if_neg (by decide +kernel)]; rfl
  | .swapped, [a, b], _, nd => show (if a = b then none else _) = _; rw [if_neg (by simpa using nd)]; rfl
  | .taken, [a, b], _, nd => show (if a = b then none else if RK.word .taken = "swapped" then _ else _) = _; rw [if_neg (by simpa using nd), if_neg (by decide +kernel)]; rfl
theorem split_ne (z : Str) : Txt.split z " " ≠ [] := fun e => by
  have h := congrArg List.length (TL.split_spl z " " (by decide +kernel) (TL.kind_ok (by decide +kernel)))
  rw [List.length_map, e] at h
  have q : ∀ (L acc : List Nat), TL.spl (TL.tl " ") 0 acc L ≠ [] := by
    intro L
    induction L with
    | nil => intro acc; rw [TL.spl_nil]; simp
    | cons c r ih =>
      intro acc
      cases hp : TL.pre (TL.tl " ") (c :: r) with
      | true => rw [TL.spl_hit hp]; simp
      | false => rw [TL.spl_miss hp]; exact ih _
  exact q _ _ (List.length_eq_zero_iff.mp h.symm)
theorem read_some {z : Str} {k : RK} {toks : List Str} (h : readOf z = some (k, toks)) : Txt.split z " " = k.word :: toks ∧ toks.length = k.many ∧ badOf toks = none ∧ strR k toks = z := by
  unfold readOf at h
  split at h
  · cases h
  · rename_i w ts e
    rw [Option.map_eq_some_iff] at h
    obtain ⟨k', h1, h2⟩ := h
    cases h2
    obtain ⟨e1, e2, e3, _⟩ := kind_some h1
    subst e1
    refine ⟨e, e2, e3, ?_⟩
    unfold strR
    rw [← e, TL.join_eq]
    exact StrLaws.join_split z " "
theorem read_split {z w : Str} {toks : List Str} (h : Txt.split z " " = w :: toks) : readOf z = (kindOf w toks).map fun k => (k, toks) := by
  unfold readOf; rw [h]
theorem tok_no32 {z : Str} (h : tokOk z = true) : 32 ∉ TL.tl z := fun m => by
  unfold tokOk at h
  simp only [Bool.and_eq_true, List.all_eq_true] at h
  exact absurd (h.2 32 m) (by decide)
theorem word_no32 (k : RK) : 32 ∉ TL.tl k.word := by cases k <;> decide +kernel
theorem split_strR {k : RK} {toks : List Str} (ht : ∀ z ∈ toks, tokOk z = true) : Txt.split (strR k toks) " " = k.word :: toks := by
  refine TL.split_join (s := 32) (S := []) (by decide +kernel) (by decide +kernel) (by simp) fun p hp => ?_
  rcases List.mem_cons.mp hp with rfl | hp
  · exact word_no32 k
  · exact tok_no32 (ht p hp)
theorem read_join {k : RK} {toks : List Str} (hl : toks.length = k.many) (ht : ∀ z ∈ toks, tokOk z = true) (nd : toks.Nodup) : readOf (strR k toks) = some (k, toks) := by
  rw [read_split (split_strR ht), kind_of hl ht nd]; rfl
/-! ### small texts -/
/-- a text of at most n plain signs -/
def TX (n : Nat) (z : Str) : Prop := ∃ u : List Nat, z = mkS u ∧ u.length ≤ n ∧ ∀ c ∈ u, c < 128
theorem TX.mono {n m : Nat} {z : Str} (h : TX n z) (e : n ≤ m) : TX m z := let ⟨u, a, b, c⟩ := h; ⟨u, a, Nat.le_trans b e, c⟩
theorem TX.cat {n m : Nat} {a b : Str} (h : TX n a) (g : TX m b) : TX (n + m) (a ++ b) := by
  obtain ⟨u, rfl, h1, h2⟩ := h
  obtain ⟨v, rfl, g1, g2⟩ := g
  refine ⟨u ++ v, mkS_app u v, by rw [List.length_append]; omega, fun c hc => ?_⟩
  rcases List.mem_append.mp hc with q | q
  · exact h2 c q
  · exact g2 c q
theorem TX.lit {n : Nat} {z : Str} (h : (decide (z.length ≤ n) && z.cps.toList.all fun c => decide (c < 128)) = true) : TX n z := by
  simp only [Bool.and_eq_true, decide_eq_true_eq, List.all_eq_true] at h
  refine ⟨z.cps.toList, mkS_of z, ?_, h.2⟩
  have q := mkS_len z.cps.toList
  rw [← mkS_of z] at q
  omega
theorem TX.word {z : Str} (h : TX 100 z) : wordOk z := by
  obtain ⟨u, rfl, h1, h2⟩ := h
  exact wordOk_mk h1 fun c hc => Nat.lt_trans (h2 c hc) (by decide)
theorem TX.len {n : Nat} {z : Str} (h : TX n z) : z.length ≤ n := by
  obtain ⟨u, rfl, h1, _⟩ := h
  rw [mkS_len]; exact h1
theorem TokS.tx {z : Str} (h : TokS z) : TX 4 z := by
  obtain ⟨t, rfl, _, h2, h3⟩ := h
  exact ⟨t, rfl, h2, fun c hc => (show ∀ d ∈ SGN, d < 128 from by decide +kernel) c (h3 c hc)⟩
theorem RK.tx (k : RK) : TX 7 k.word := TX.lit (by cases k <;> decide +kernel)
theorem joinL_tx {n : Nat} : ∀ {ws : List (List Nat)}, (∀ u ∈ ws, u.length ≤ n ∧ ∀ c ∈ u, c < 128) → (TL.joinL [32] ws).length ≤ ws.length * (n + 1) ∧ ∀ c ∈ TL.joinL [32] ws, c < 128
  | [], _ => ⟨Nat.zero_le _, fun c hc => by cases hc⟩
  | [u], h => by
    have q := h u (by simp)
    refine ⟨?_, q.2⟩
    show u.length ≤ 1 * (n + 1)
    omega
  | u :: v :: r, h => by
    have q := h u (by simp)
    have ih := joinL_tx (ws := v :: r) fun x hx => h x (List.mem_cons_of_mem _ hx)
    have e : TL.joinL [32] (u :: v :: r) = u ++ ([32] ++ TL.joinL [32] (v :: r)) := rfl
    rw [e]
    refine ⟨?_, fun c hc => ?_⟩
    · rw [List.length_append, List.length_append, List.length_cons (a := u), Nat.add_mul (v :: r).length]
      have := ih.1
      show u.length + (1 + _) ≤ _
      omega
    · rcases List.mem_append.mp hc with m | m
      · exact q.2 c m
      · rcases List.mem_append.mp m with m | m
        · rw [List.mem_singleton.mp m]; decide
        · exact ih.2 c m
theorem TX.join {n m : Nat} {ws : List Str} (h : ∀ z ∈ ws, TX n z) (hm : ws.length * (n + 1) ≤ m) : TX m (Txt.join " " ws) := by
  have e := TL.tl_join " " ws
  rw [← TL.join_eq] at e
  have e1 : TL.tl " " = [32] := by decide +kernel
  rw [e1] at e
  have q := joinL_tx (n := n) (ws := ws.map TL.tl) fun u hu => by
    obtain ⟨z, hz, rfl⟩ := List.mem_map.mp hu
    obtain ⟨v, rfl, h1, h2⟩ := h z hz
    have e2 : TL.tl (mkS v) = v := mkS_cps v
    rw [e2]; exact ⟨h1, h2⟩
  rw [List.length_map] at q
  refine ⟨TL.tl (Txt.join " " ws), mkS_of _, ?_, ?_⟩
  · rw [e]; exact Nat.le_trans q.1 hm
  · rw [e]; exact q.2
theorem repl_one (a : Nat) (ys : List Nat) : ∀ L : List Nat, PySem.StrLaws.replL [a] ys L = L.flatMap fun c => if c = a then ys else [c]
  | [] => PySem.StrLaws.replL_nil
  | c :: r => by
    rw [List.flatMap_cons, ← repl_one a ys r]
    by_cases h : c = a
    · subst h
      rw [if_pos rfl, PySem.StrLaws.replL_hit (by simp) rfl]
      rfl
    · rw [if_neg h, PySem.StrLaws.replL_miss (by show ¬ (c :: r).take 1 = [a]; simpa using h)]
      rfl
theorem flat_len {a : Nat} {ys : List Nat} {n : Nat} (h1 : 1 ≤ n) (h : ys.length ≤ n) : ∀ L : List Nat, (L.flatMap fun c => if c = a then ys else [c]).length ≤ n * L.length
  | [] => Nat.zero_le _
  | c :: r => by
    rw [List.flatMap_cons, List.length_append, List.length_cons, Nat.mul_add]
    have := flat_len (a := a) h1 h r
    split
    · omega
    · simp only [List.length_cons, List.length_nil]; omega
theorem TX.repl {n k a : Nat} {z y x : Str} {ys : List Nat} (h : TX n z) (hy : y = mkS [a]) (hx : x = mkS ys) (h1 : 1 ≤ k) (hk : ys.length ≤ k) (hc : ∀ c ∈ ys, c < 128) : TX (k * n) (Txt.replace z y x) := by
  obtain ⟨u, rfl, h1', h2⟩ := h
  subst hy; subst hx
  have e := PySem.StrLaws.replace_list (x := mkS u) (y := mkS [a]) (z := mkS ys) (by rw [mkS_len]; exact Nat.le_refl 1)
  rw [mkS_cps, mkS_cps, mkS_cps, repl_one] at e
  refine ⟨_, mkS_of _, ?_, ?_⟩
  · rw [e]; exact Nat.le_trans (flat_len h1 hk u) (Nat.mul_le_mul_left k h1')
  · rw [e]
    intro c hc2
    obtain ⟨d, hd, hm⟩ := List.mem_flatMap.mp hc2
    split at hm
    · exact hc c hm
    · rw [List.mem_singleton.mp hm]; exact h2 d hd
theorem TX.upper {n : Nat} {z : Str} (h : TX n z) : TX n (Txt.upper z) := by
  obtain ⟨u, rfl, h1, h2⟩ := h
  have e : Txt.upper (mkS u) = mkS (u.map PyProof.Rows.up1) := SX.upper_S (List.all_eq_true.mpr fun c hc => decide_eq_true (h2 c hc))
  refine ⟨_, e, by rw [List.length_map]; exact h1, fun c hc => ?_⟩
  obtain ⟨d, hd, rfl⟩ := List.mem_map.mp hc
  have q : ∀ d, d < 128 → PyProof.Rows.up1 d < 128 := by decide +kernel
  exact q d (h2 d hd)
theorem spl_sub : ∀ (L acc : List Nat), ∀ p ∈ TL.spl [32] 0 acc L, p.length ≤ acc.length + L.length ∧ ∀ c ∈ p, c ∈ acc ∨ c ∈ L
  | [], acc, p, hp => by
    rw [TL.spl_nil] at hp
    rw [List.mem_singleton.mp hp]
    exact ⟨Nat.le_add_right _ _, fun c hc => .inl hc⟩
  | c :: r, acc, p, hp => by
    cases hh : TL.pre [32] (c :: r) with
    | true =>
      rw [TL.spl_hit hh] at hp
      rcases List.mem_cons.mp hp with rfl | hp
      · exact ⟨Nat.le_add_right _ _, fun c hc => .inl hc⟩
      · obtain ⟨h1, h2⟩ := spl_sub r [] p hp
        exact ⟨by rw [List.length_cons]; simp at h1; omega, fun d hd => .inr (List.mem_cons_of_mem _ ((h2 d hd).resolve_left (by simp)))⟩
    | false =>
      rw [TL.spl_miss hh] at hp
      obtain ⟨h1, h2⟩ := spl_sub r (acc ++ [c]) p hp
      refine ⟨by rw [List.length_append] at h1; simp at h1 ⊢; omega, fun d hd => ?_⟩
      rcases h2 d hd with q | q
      · rcases List.mem_append.mp q with q | q
        · exact .inl q
        · exact .inr (by rw [List.mem_singleton.mp q]; exact List.mem_cons_self)
      · exact .inr (List.mem_cons_of_mem _ q)
theorem TX.parts {n : Nat} {z : Str} (h : TX n z) : ∀ p ∈ Txt.split z " ", TX n p := fun p hp => by
  obtain ⟨u, rfl, h1, h2⟩ := h
  have e := TL.split_spl (mkS u) " " (by decide +kernel) (TL.kind_ok (by decide +kernel))
  have e1 : TL.tl " " = [32] := by decide +kernel
  have e2 : TL.tl (mkS u) = u := mkS_cps u
  rw [e1, e2] at e
  have m : TL.tl p ∈ TL.spl [32] 0 [] u := by rw [← e]; exact List.mem_map_of_mem hp
  obtain ⟨g1, g2⟩ := spl_sub u [] _ m
  exact ⟨TL.tl p, mkS_of p, by have g1 : (TL.tl p).length ≤ 0 + u.length := g1; show (TL.tl p).length ≤ n; omega, fun c hc => h2 c ((g2 c hc).resolve_left (by simp))⟩
theorem split_small {z : Str} {n : Nat} (h : TX n z) : (Txt.split z " ").length ≤ n + 2 := Nat.le_trans (split_le z " ") (by have := h.len; omega)
theorem given_list {α : Type} (l : List α) (v : Nat → V) (g : α → V) (h : ∀ i x, l[i]? = some x → v i = g x) : Evl.given l.length (fun _ => true) v = l.map g := by
  unfold Evl.given
  rw [List.filter_eq_self.mpr (fun _ _ => rfl)]
  refine List.ext_getElem? fun i => ?_
  rw [List.getElem?_map, List.getElem?_map]
  cases e : l[i]? with
  | none => rw [List.getElem?_eq_none (by rw [List.length_range]; exact List.getElem?_eq_none_iff.mp e)]; rfl
  | some x =>
    have hi := (List.getElem?_eq_some_iff.mp e).1
    rw [List.getElem?_range hi]
    exact congrArg some (h i x e)
theorem given_filter (l : List Nat) (f : Nat → Bool) (v : Nat → V) : Evl.given l.length (fun i => f (l.getD i 0)) (fun i => v (l.getD i 0)) = (l.filter f).map v := by
  have e : (List.range l.length).map (fun i => l.getD i 0) = l := by
    refine List.ext_getElem? fun i => ?_
    rw [List.getElem?_map]
    by_cases h : i < l.length
    · rw [List.getElem?_range h, List.getElem?_eq_getElem h]
      show some (l.getD i 0) = _
      rw [List.getD_eq_getElem?_getD, List.getElem?_eq_getElem h]; rfl
    · rw [List.getElem?_eq_none (by rw [List.length_range]; omega), List.getElem?_eq_none (by omega)]; rfl
  have q : ((List.range l.length).map (fun i => l.getD i 0)).filter f = l.filter f := by rw [e]
  rw [← q, List.filter_map, List.map_map]
  rfl
/-- [e for c in a text if ..] -/
theorem el_lcStr {σ : L2.St} {H : Hp} {tl te : TE} {t : TT} {j : Nat} {vs : List Nat} {z : Str} (f : Nat → Bool) (v : Nat → V) (h : Evl.Ev tl σ H (.str z)) (hz : z.length ≤ 40000) (hw : ∀ x, wipe ((wipe σ vs).set j (some x)) vs = wipe σ vs)
    (ht : ∀ (c : Nat) H1, Same H H1 → c ∈ z.cps.toList → Evl.EvT t ((wipe σ vs).set j (some (.str ⟨#[c]⟩))) H1 (f c)) (he : ∀ (c : Nat) H1, Same H H1 → f c = true → Evl.Ev te ((wipe σ vs).set j (some (.str ⟨#[c]⟩))) H1 (v c)) :
    Evl.EvL (tLc (iStr tl) (gName j) t te vs) σ H ((z.cps.toList.filter f).map v) := fun H0 e Q q => h H0 e _ fun H1 e1 => by
  have hs : z.cps.size = z.length := rfl
  rw [← given_filter] at q
  rw [Array.length_toList] at q
  refine ⟨z, rfl, fun Dl hD => lc_it (walk_str (z := z)) (Evl.Cw H1 (fun i => f (z.cps.toList.getD i 0)) (fun i => v (z.cps.toList.getD i 0)) Dl) ⟨hD, Evl.Ex.new hD, upd_same⟩ (fun _ _ _ _ => trivial) (fun i x H' H2 hi p y => ?_) (fun H' p => q Dl H' (Evl.fresh_back e1 p.1) (e1.trans p.2.1) p.2.2)⟩
  obtain ⟨rfl, c, hc, rfl⟩ := y
  have hc' : z.cps.toList[i]? = some c := by rw [Array.getElem?_toList]; exact hc
  have ec : z.cps.toList.getD i 0 = c := by rw [List.getD_eq_getElem?_getD, hc']; rfl
  refine ⟨hw _, Evl.cw_turn p (by omega) ?_ (fun hf => ?_)⟩
  · show Evl.EvT _ _ _ (f (z.cps.toList.getD i 0))
    rw [ec]
    exact ht c H1 (e.trans e1) (List.mem_of_getElem? hc')
  · show Evl.Ev _ _ _ (v (z.cps.toList.getD i 0))
    have hf : f (z.cps.toList.getD i 0) = true := hf
    rw [ec] at hf ⊢
    exact he c H1 (e.trans e1) hf
/-! ### what the law wants of a word -/
def wantN (w : Str) : Option Nat := if w = "out" then some 2 else if w = "twice" then some 2 else if w = "swapped" then some 3 else if w = "taken" then some 3 else none
def WK0 : List (Key × V) := [(.inr "out", .int 2), (.inr "twice", .int 2), (.inr "swapped", .int 3), (.inr "taken", .int 3)]
theorem want_val (w : Str) : valV (mergeK [] WK0) (.inr w) = (wantN w).map fun n : Nat => V.int n := by
  have e : mergeK [] WK0 = WK0 := by
    have e1 : putK ([] : List (Key × V)) (.inr "out") (.int 2) = [(.inr "out", .int 2)] := putK_new _ (valV_nil (κ := Key))
    have e2 : putK ([(.inr "out", .int 2)] : List (Key × V)) (.inr "twice") (.int 2) = [(.inr "out", .int 2), (.inr "twice", .int 2)] := putK_new _ (by rw [valV_neg (by decide +kernel), valV_nil])
    have e3 : putK ([(.inr "out", .int 2), (.inr "twice", .int 2)] : List (Key × V)) (.inr "swapped") (.int 3) = [(.inr "out", .int 2), (.inr "twice", .int 2), (.inr "swapped", .int 3)] := putK_new _ (by rw [valV_neg (by decide +kernel), valV_neg (by decide +kernel), valV_nil])
    have e4 : putK ([(.inr "out", .int 2), (.inr "twice", .int 2), (.inr "swapped", .int 3)] : List (Key × V)) (.inr "taken") (.int 3) = [(.inr "out", .int 2), (.inr "twice", .int 2), (.inr "swapped", .int 3), (.inr "taken", .int 3)] := putK_new _ (by rw [valV_neg (by decide +kernel), valV_neg (by decide +kernel), valV_neg (by decide +kernel), valV_nil])
    show putK (putK (putK (putK ([] : List (Key × V)) (.inr "out") (.int 2)) (.inr "twice") (.int 2)) (.inr "swapped") (.int 3)) (.inr "taken") (.int 3) = _
    rw [e1, e2, e3, e4]
    rfl
  rw [e]
  unfold WK0 wantN
  have ne : ∀ {a : Str} {v : V}, ¬ w = a → ¬ ((Sum.inr a, v) : Key × V).1 = (Sum.inr w : Key) := fun {a v} h z => h (by have z : (Sum.inr a : Key) = Sum.inr w := z; injection z with z; exact z.symm)
  by_cases h1 : w = "out"
  · rw [if_pos h1, h1, valV_pos (κ := Key) rfl]; rfl
  rw [if_neg h1, valV_neg (ne h1)]
  by_cases h2 : w = "twice"
  · rw [if_pos h2, h2, valV_pos (κ := Key) rfl]; rfl
  rw [if_neg h2, valV_neg (ne h2)]
  by_cases h3 : w = "swapped"
  · rw [if_pos h3, h3, valV_pos (κ := Key) rfl]; rfl
  rw [if_neg h3, valV_neg (ne h3)]
  by_cases h4 : w = "taken"
  · rw [if_pos h4, h4, valV_pos (κ := Key) rfl]; rfl
  rw [if_neg h4, valV_neg (ne h4), valV_nil]; rfl
theorem want_kind (k : RK) : wantN k.word = some (k.many + 1) := by cases k <;> rfl
theorem want_no {w : Str} {toks : List Str} (h : wantN w ≠ some (toks.length + 1)) : kindOf w toks = none := by
  cases e : kindOf w toks with
  | none => rfl
  | some k =>
    obtain ⟨e1, e2, _⟩ := kind_some e
    rw [e1, e2] at h
    exact absurd (want_kind k) h
theorem want_bad {w : Str} {toks : List Str} {y : Str} (hy : y ∈ toks) (h : tokOk y = false) : kindOf w toks = none := by
  cases e : kindOf w toks with
  | none => rfl
  | some k =>
    have q := (kind_some e).2.2.2 y hy
    rw [h] at q; cases q
theorem want_yes {w : Str} {toks : List Str} (h : wantN w = some (toks.length + 1)) (ha : ∀ y ∈ toks, tokOk y = true) : (∃ a k, toks = [a] ∧ kindOf w toks = some k) ∨ (∃ a b, toks = [a, b] ∧ ((a = b ∧ kindOf w toks = none) ∨ (a ≠ b ∧ ∃ k, kindOf w toks = some k))) := by
  have fin : ∀ k : RK, w = k.word → toks.length = k.many → toks.Nodup → kindOf w toks = some k := fun k e1 e2 nd => by rw [e1]; exact kind_of e2 ha nd
  unfold wantN at h
  have one : ∀ k : RK, w = k.word → k.many = 1 → toks.length + 1 = 2 → ∃ a k, toks = [a] ∧ kindOf w toks = some k := fun k e e1 e2 => by
    obtain ⟨a, rfl⟩ := List.length_eq_one_iff.mp (show toks.length = 1 by omega)
    exact ⟨a, k, rfl, fin k e (by rw [e1]; rfl) (by simp)⟩
  have two : ∀ k : RK, w = k.word → k.many = 2 → toks.length + 1 = 3 → ∃ a b, toks = [a, b] ∧ ((a = b ∧ kindOf w toks = none) ∨ (a ≠ b ∧ ∃ k, kindOf w toks = some k)) := fun k e e1 e2 => by
    match toks, e2, fin with
    | [a, b], _, fin =>
      refine ⟨a, b, rfl, ?_⟩
      by_cases q : a = b
      · refine .inl ⟨q, ?_⟩
        unfold kindOf
        split
        · show (if a = b then none else _) = _
          rw [if_pos q]
        · rfl
      · exact .inr ⟨q, k, fin k e (by rw [e1]; rfl) (by simpa using q)⟩
  split at h
  · rename_i e; exact .inl (one .out e rfl (by injection h with h; omega))
  · split at h
    · rename_i e; exact .inl (one .twice e rfl (by injection h with h; omega))
    · split at h
      · rename_i e; exact .inr (two .swapped e rfl (by injection h with h; omega))
      · split at h
        · rename_i e; exact .inr (two .taken e rfl (by injection h with h; omega))
        · cases h
theorem tok_split (y : Str) : tokOk y = (decide (1 ≤ y.length) && decide (y.length ≤ 4) && decide (y.cps.toList.filter (fun c => !decide (c ∈ SGN)) = [])) := by
  unfold tokOk
  congr 1
  rw [Bool.eq_iff_iff, List.all_eq_true, decide_eq_true_eq, List.filter_eq_nil_iff]
  constructor
  · intro h c hc
    have q := (sg_iff c).mp (h c hc)
    simp [q]
  · intro h c hc
    have q := h c hc
    simp at q
    exact (sg_iff c).mpr q
theorem cut_tail (x : V) (xs : List V) : cutV (x :: xs) (some 1) none = xs := by
  unfold cutV
  have e : HT.sIx (x :: xs).length 0 (some 1) = 1 := by
    have q := HT.sIx_nat (x :: xs).length 0 1
    rw [show ((1 : Nat) : Int) = 1 from rfl] at q
    rw [q, List.length_cons]; omega
  rw [e, HT.sIx_none, List.drop_succ_cons, List.drop_zero, List.length_cons, Nat.add_sub_cancel, List.take_length]
theorem sig_nil {l : List Nat} : decide (l.map (fun c => (⟨#[c]⟩ : Str)) = []) = decide (l = []) := decide_eq_decide.mpr List.map_eq_nil_iff
theorem TX.sig {n : Nat} {y : Str} (h : TX n y) : ∀ c ∈ y.cps.toList, c < 128 := by
  obtain ⟨u, rfl, _, h2⟩ := h
  rw [mkS_cps]; exact h2
/-! ### rules that name K -/
theorem room1 {k : Nat} {A : Around} (r : Room k A) : A.units + 1 < cLine := by have := r.units; omega
theorem ix_lK {X : Cx} {K : PySem.W.Frag} (h : X.K = K) : IxR X (rIxL K) := h ▸ ix_list
theorem pi_lK {X : Cx} {K : PySem.W.Frag} {tg l : Expr} {tl : TE} (h : X.K = K) (hl : PE X l tl) : PI X tg l (iList K tl) := by subst h; exact pi_list hl
theorem pe_notX {X : Cx} {a : Expr} {pos : Pos} {ta : TE} (ha : PE X a ta) : PE X (.UnaryOp .Not a pos) (tNotV ta) := pe_not ha
end Ss
namespace Ss
open PySem L2 PyProof.Rows
section
variable {X : Cx} {e f : Expr} {es : List Expr} {te tf : TE} {t : TA} {pos : Pos}
/-- e, behind it a token is out -/
def PEO (X : Cx) (e : Expr) (t : TE) : Prop :=
  ∀ (pins : List (Addr × Obj)) (s : Shared) (σ : L2.St) (H : Hp) (Q : VK), Inv X pins σ H s → t σ H Q → wpAny (model X.prog X.w) X.A (eval e X.env) (fun u s' => 1 ≤ s'.toks ∧ EP X pins σ Q u s') X.xe s
theorem peo_str {x : Str} {j : Nat} {p : Pos} : PEO X (.Constant (.str x) j p) (tC (.str x)) := fun pins s σ H Q I h =>
  Calls.Constant_str ⟨by show 1 ≤ s.toks + 1; omega, .str x, H, I.tok _, ⟨s.toks, rfl⟩, h⟩
theorem peo_op {op : Operator} {r : R2} (ho : OpR X (binaryOp op) r) (ha : PEO X e te) (hb : PE X f tf) : PEO X (.BinOp e op f pos) (tOp r te tf) := by
  intro pins s σ H Q I h
  refine wpAny_BinOp (wpAny_mono (ha pins s σ H _ I h) (fun v s1 q => ?_) fun _ _ z => z)
  obtain ⟨h1, x, H1, I1, r1, q1⟩ := q
  refine wpAny_mono (PySem.wpAny_toks (hb.run pins s1 σ H1 _ I1 q1)) (fun u s2 q => ?_) fun _ _ z => z.2
  obtain ⟨hk, y, H2, I2, r2, q2⟩ := q
  refine wpAny_mono (PySem.wpAny_toks (ho pins s2 σ H2 x y v u Q I2 r1 r2 q2)) (fun u3 s3 q => ?_) fun _ _ z => z.2
  exact ⟨Nat.le_trans h1 (Nat.le_trans hk q.1), q.2⟩
theorem pa_out (ha : PEO X e te) (hr : PAT X es t) (hs : starEach (e :: es) X.env = (false, eval e X.env) :: starEach es X.env := by rfl) : PA X (e :: es) (tCons te t) := by
  refine ⟨fun pos pins s σ H Q I h => ?_⟩
  rw [hs]
  show wpAny _ _ (spliced ((false, eval e X.env) :: backTo pos (starEach es X.env))) _ _ s
  refine Calls.spliced_cons (wpAny_mono (ha pins s σ H _ I h) (fun v s1 q => ?_) fun _ _ z => z)
  obtain ⟨h1, x, H1, I1, r1, q1⟩ := q
  exact thn (hr pos pins s1 σ H1 _ h1 I1 q1) fun us s2 ⟨xs, H2, I2, r2, q2⟩ => ⟨x :: xs, H2, I2, .cons r1 r2, q2⟩
theorem pat_of (h : PA X es t) : PAT X es t := fun pos pins s σ H Q _ I q => h.run pos pins s σ H Q I q
end
section
variable {K : PySem.W.Frag} {σ : L2.St} {H : Hp} {ta tb te : TE}
theorem ev_repl {x y z : Str} (h : Evl.Ev te σ H (.str x)) (hl : x.length + (x.length + 1) * z.length ≤ 16777216) : Evl.Ev (CwR.tReplC te y z) σ H (.str (Txt.replace x y z)) := fun H1 s Q q => h H1 s _ fun H2 s2 => ⟨x, rfl, hl, q H2 s2⟩
theorem ev_upper {x : Str} (h : Evl.Ev te σ H (.str x)) (hl : x.length ≤ 5592405) : Evl.Ev (tM0 (fun x xs H Q => ∃ a, x = .str a ∧ xs = [] ∧ a.length ≤ 5592405 ∧ Q (.str (Txt.upper a)) H) te) σ H (.str (Txt.upper x)) := fun H1 s Q q => h H1 s _ fun H2 s2 => ⟨⟨x, rfl⟩, x, rfl, rfl, hl, q H2 s2⟩
theorem ev_adds {a b : Str} (h : Evl.Ev ta σ H (.str a)) (g : Evl.Ev tb σ H (.str b)) (hl : a.length + b.length ≤ 1000) : Evl.Ev (tOp (fun x y H Q => ∃ i j, x = .str i ∧ y = .str j ∧ i.length + j.length ≤ sizeLine ∧ Q (.str (i ++ j)) H) ta tb) σ H (.str (a ++ b)) :=
  Evl.ev_op h g fun H1 s Q q => ⟨a, b, rfl, rfl, Nat.le_trans hl (by decide), q H1 (Evl.Ex.refl H1)⟩
theorem el_catN {xs ys : List V} (ha : Evl.EvL ta σ H xs) (hb : Evl.EvL tb σ H ys) (hz : xs.length + ys.length ≤ 100000) : Evl.EvL (tOp rCat ta tb) σ H (xs ++ ys) := fun H1 e Q q =>
  ha H1 e _ fun l H2 hl e2 h2 => hb H2 (e.trans e2) _ fun p H3 hp e3 h3 => ⟨l, p, xs, ys, rfl, rfl, e3 _ _ h2, h3, Evl.sz_of hz, fun r hr => q r _ (Evl.fresh_back (e2.trans e3) hr) ((e2.trans e3).trans (Evl.Ex.new hr)) upd_same⟩
theorem el_rep {xs : List V} {k : Nat} (ha : Evl.EvL ta σ H xs) (hb : Evl.Ev tb σ H (.int (k : Nat))) (hk : k ≤ 1000) (hz : xs.length * k ≤ 100000) : Evl.EvL (tOp rRep ta tb) σ H (List.replicate k xs).flatten := fun H1 e Q q =>
  ha H1 e _ fun l H2 hl e2 h2 => hb H2 (e.trans e2) _ fun H3 e3 => ⟨l, (k : Nat), xs, rfl, rfl, e3 _ _ h2, by omega, by omega, by rw [Int.toNat_natCast]; exact Evl.sz_of hz, fun r hr => q r _ (Evl.fresh_back (e2.trans e3) hr) ((e2.trans e3).trans (Evl.Ex.new hr)) (by rw [upd_same, Int.toNat_natCast])⟩
theorem sum_tx {n : Nat} : ∀ {ws : List Str}, (∀ z ∈ ws, TX n z) → (ws.map (·.length)).sum ≤ ws.length * n
  | [], _ => Nat.zero_le _
  | w :: r, h => by
    have h1 := (h w List.mem_cons_self).len
    have h2 := sum_tx (ws := r) fun z hz => h z (List.mem_cons_of_mem _ hz)
    rw [List.map_cons, List.sum_cons, List.length_cons, Nat.add_mul]; omega
/-- what a join of small texts wants -/
theorem join_room {n : Nat} {ws : List Str} (h : ∀ z ∈ ws, TX n z) (hn : n ≤ 1000) (hl : ws.length ≤ 100) : (ws.map (·.length)).sum + ws.length * (" " : Str).length ≤ 16777216 := by
  have h1 := sum_tx h
  have h2 : (" " : Str).length = 1 := by decide +kernel
  have h3 : ws.length * n ≤ 100 * 1000 := Nat.mul_le_mul hl hn
  rw [h2]; omega
end
theorem cut_map (ws : List Str) (lo hi : Option Int) : ∃ ws' : List Str, cutV (ws.map V.str) lo hi = ws'.map V.str ∧ (∀ z ∈ ws', z ∈ ws) ∧ ws'.length ≤ ws.length := by
  refine ⟨(ws.drop (HT.sIx (ws.map V.str).length 0 lo)).take (HT.sIx (ws.map V.str).length (ws.map V.str).length hi - HT.sIx (ws.map V.str).length 0 lo), ?_, fun z hz => List.mem_of_mem_drop (List.mem_of_mem_take hz), ?_⟩
  · unfold cutV
    rw [List.map_take, List.map_drop]
  · rw [List.length_take, List.length_drop]; omega
theorem rep_map (ws : List Str) (k : Nat) : (List.replicate k (ws.map V.str)).flatten = ((List.replicate k ws).flatten).map V.str := by
  rw [List.map_flatten, List.map_replicate]
theorem rep_len {α : Type} (ws : List α) : ∀ k : Nat, ((List.replicate k ws).flatten).length = k * ws.length
  | 0 => by rw [Nat.zero_mul]; rfl
  | k + 1 => by
    rw [List.replicate_succ, List.flatten_cons, List.length_append, rep_len ws k, Nat.add_mul, Nat.one_mul]
    omega
theorem ev_isNone {σ : L2.St} {H : Hp} {te : TE} {x : V} (h : Evl.Ev te σ H x) : Evl.Ev (tIsN te) σ H (.bl (decide (x = .non))) := fun H1 s Q q => h H1 s _ fun H2 s2 => q H2 s2
end Ss
namespace Ss
open PySem PySem.Spec PyProof.Rows L2
/-! ### d.update(d2), l.extend(a tuple) -/
section
variable {X : Cx}
theorem d_upd {pins : List (Addr × Obj)} {σ : L2.St} {H : Hp} {s : Shared} {a b : Addr} {kvs ls : List (L2.Key × V)} {A : Around} {E Q : Value → Shared → Prop} (I : Inv X pins σ H s) (e : H a = some (.dK kvs)) (e2 : H b = some (.dK ls)) (ne : a ≠ b) (hz : kvs.length + ls.length ≤ sizeLine)
    (q : ∀ s', Inv X pins σ (upd H a (.dK (mergeK kvs ls))) s' → Q .none s') : wpAny (model X.prog X.w) A (call (.builtin "dict.update") [.ref a, .ref b]) Q E s := by
  obtain ⟨z1, hd1, vs, rel1, dd1⟩ := dk_of I.hok e
  obtain ⟨z2, hd2, ws, rel2, dd2⟩ := dk_of I.hok e2
  refine call_meetsIn PySem.F.slot_dict_update dd1.typeIs PySem.F.entry_dict_update (PySem.F.args_dict_update_2 _ _) (meets_dict_update (mixKind X.prog X.w) a b ne hd2) ⟨vs, ws, dd1, dd2, by rw [← rel1.length, ← rel2.length]; exact hz, fun h' dd' _ hs => ?_⟩
  have there : ∃ o, h'.get? a = some o := let ⟨o, _, _, z, _⟩ := dd'; ⟨o, z⟩
  have rel := KV.merge rel2 rel1
  have z3 : (mergeK kvs ls).length ≤ sizeLine := Nat.le_trans (length_mergeK ls kvs) hz
  exact q _ (d_write (t' := s.toks) I (by rw [e]; trivial) hs there (dk_new z3 hd1 rel dd'))
def tDUpd (td ty : TE) : TE := fun σ H Q => td σ H fun x H1 => ∃ a, x = .ref a ∧ IsD H1 a ∧ ty σ H1 fun y H2 => ∃ (b : Addr) (kvs ls : List (L2.Key × V)), y = .ref b ∧ H2 a = some (.dK kvs) ∧ H2 b = some (.dK ls) ∧ a ≠ b ∧ kvs.length + ls.length ≤ sizeLine ∧ Q .non (upd H2 a (.dK (mergeK kvs ls)))
theorem pe_dupd {o e : Expr} {td ty : TE} {apos cpos : Pos} (ho : PE X o td) (he : PE X e ty) (m : M1 X o "update" apos e cpos) : PE X (.Call (.Attribute o "update" apos) [e] [] cpos) (tDUpd td ty) := by
  refine ⟨fun pins s σ H Q I h => ?_⟩
  refine wpAny_Call_method m.base m.few m.line PySem.F.plainAttrs_dict PySem.F.slot_dict_update PySem.F.type_dict_update (thn (ho.run pins s σ H _ I h) fun u s1 ⟨x, H1, I1, rx, a, ex, d, q1⟩ => ?_)
  subst ex
  cases rx
  obtain ⟨t1, t2, _⟩ := isD_at I1 d
  refine ⟨t1, t2, ?_⟩
  rw [m.trees]
  refine Calls.callWith_builtin rfl (Calls.evalArgs_plain (Calls.spliced_cons (thn (he.run pins s1 σ H1 _ I1 q1) fun v s2 ⟨y, H2, I2, ry, b, kvs, ls, ey, e1, e2, ne, hz, q2⟩ => Calls.spliced_nil ?_)))
  subst ey
  cases ry
  exact d_upd I2 e1 e2 ne hz fun s3 I3 => ⟨.non, _, I3, rfl, q2⟩
def rExtT (K : PySem.W.Frag) : V → List V → Hp → VK → Prop := fun x vs H Q => ∃ (l b : Addr) (xs zs : List V), x = .ref l ∧ vs = [.ref b] ∧ H l = some (.lst xs) ∧ H b = some (.tup zs) ∧ xs.length + zs.length ≤ 100000 ∧ Q .non (upd H l (.lst (xs ++ zs)))
theorem mt_extT : MtR X "list.extend" (rExtT X.K) := by
  intro pins s σ H x vs v us Q I rx rv h
  obtain ⟨l, b, xs, zs, rfl, rfl, hH, hB, hz, q⟩ := h
  cases rx
  obtain ⟨u, rfl, ru⟩ := rv.one
  cases ru
  obtain ⟨z, its, n, r, hl, e⟩ := I.lstM hH
  obtain ⟨z2, its2, r2, o2, g1, g2, n2, g3⟩ := (show ObjOk X.prog X.w H s.heap b (.tup zs) from I.hok b _ hB)
  have l1 := r.length
  have l2 := r2.length
  have sL : (100000 : Nat) ≤ sizeLine := by decide
  have no : Builtin.List.listTooLong (its.toArray.size + its2.toArray.size) = false := notLongL (by rw [List.size_toArray, List.size_toArray]; omega)
  have nlb : l ≠ b := fun q => by subst q; rw [hH] at hB; cases hB
  refine wpAny_call_entry PySem.F.slot_list_extend ⟨_, e, rfl⟩ PySem.F.entry_list_extend ?_ (PySem.F.args_list_extend_2 _ _)
  show wpAny _ _ (Builtin.List.listExtendWith (.ref l) (.ref b) .none) _ _ s
  unfold Builtin.List.listExtendWith
  refine wpAny_bind (wpAny_typeOf ⟨o2, g1, g2⟩ ?_)
  have h1 : (Builtin.List.listSameRef (.ref l) (.ref b) || Value.type "tuple" == Value.type "list" || Value.type "tuple" == Value.type "tuple") = true := by simp
  simp only [h1, if_true]
  unfold Builtin.List.listItems
  refine wpAny_bind (wpAny_bind (wpAny_seqItems g1 g3 (wpAny_pure ?_)))
  refine wpAny_bind (wpAny_bind (wpAny_seqItems e rfl (wpAny_pure ?_)))
  rw [no, Bool.and_false, if_neg Bool.false_ne_true]
  show wpAny _ _ (updateSeq l (· ++ its2.toArray) >>= fun _ => ret Value.none) _ _ s
  refine wpAny_bind (wpAny_updateSeq e rfl ?_ (hz := by rw [List.size_toArray]; omega) (_hz' := by rw [Array.size_append, List.size_toArray, List.size_toArray]; omega))
  refine wpAny_pure ⟨_, rfl, .non, _, I.lset (its' := its ++ its2) hH e (by simp) (r.append r2) (by rw [List.length_append]; omega), rfl, q⟩
end
end Ss
namespace Ss
open PySem PySem.Spec PyProof.Rows L2 Evl
/-! ### rules at places, in pure terms -/
theorem Room.u1 {j : Nat} {A : Around} (hr : Room j A) : A.units + 1 < cLine := by have := hr.units; omega
/-- l[n : n + m] -/
theorem cut_nat {xs : List V} {n m : Nat} : cutV xs (some ((n : Nat) : Int)) (some (((n : Nat) : Int) + ((m : Nat) : Int))) = (xs.drop n).take m := by
  unfold cutV
  rw [show ((n : Nat) : Int) + ((m : Nat) : Int) = ((n + m : Nat) : Int) by omega, HT.sIx_nat, HT.sIx_nat]
  by_cases h : n ≤ xs.length
  · rw [Nat.min_eq_left h]
    by_cases h2 : n + m ≤ xs.length
    · rw [Nat.min_eq_left h2]; congr 1; omega
    · rw [Nat.min_eq_right (by omega)]
      rw [List.take_of_length_le (by rw [List.length_drop]; omega), List.take_of_length_le (by rw [List.length_drop]; omega)]
  · rw [Nat.min_eq_right (by omega), Nat.min_eq_right (by omega)]
    rw [List.drop_eq_nil_of_le (Nat.le_refl _), List.drop_eq_nil_of_le (by omega)]
    simp
def standsP (ts rem : List Str) (pl : Int) : Bool := decide (0 ≤ pl) && decide ((ts.drop pl.toNat).take rem.length = rem)
theorem stands_bound {ts rem : List Str} {pl : Int} (h : standsP ts rem pl = true) : ∃ n : Nat, pl = (n : Int) ∧ n + rem.length ≤ ts.length ∧ (ts.drop n).take rem.length = rem ∨ (∃ n : Nat, pl = (n : Int) ∧ rem = []) := by
  unfold standsP at h
  rw [Bool.and_eq_true] at h
  have h0 := of_decide_eq_true h.1
  have h1 := of_decide_eq_true h.2
  refine ⟨pl.toNat, ?_⟩
  by_cases c : rem = []
  · exact .inr ⟨pl.toNat, by omega, c⟩
  · refine .inl ⟨by omega, ?_, h1⟩
    have l := congrArg List.length h1
    rw [List.length_take, List.length_drop] at l
    have : rem.length ≠ 0 := fun z => c (List.length_eq_zero_iff.mp z)
    omega
/-- what stands at the places that were written -/
abbrev Wr := Int → Option (List Str)
def wrNext (M : Wr) (rem ins : List Str) (pl : Int) : Wr := fun x => if x = pl then some ins else if pl ≤ x ∧ x < pl + rem.length then some [] else M x
def freeP (M : Wr) (rem : List Str) (pl : Int) : Bool := (List.range rem.length).all fun i => (M (pl + (i : Nat))).isNone
/-- one step: the place that is wrong, or what is written then -/
def wrStep (ts : List Str) (s : Int ⊕ Wr) (x : (List Str × List Str) × Int) : Int ⊕ Wr := match s with
  | .inl p => .inl p
  | .inr M => if standsP ts x.1.1 x.2 && freeP M x.1.1 x.2 then .inr (wrNext M x.1.1 x.1.2 x.2) else .inl x.2
def wrAll (ts : List Str) (xs : List ((List Str × List Str) × Int)) : Int ⊕ Wr := xs.foldl (wrStep ts) (.inr fun _ => none)
theorem wr_stuck (ts : List Str) (p : Int) : ∀ xs : List ((List Str × List Str) × Int), xs.foldl (wrStep ts) (.inl p) = .inl p
  | [] => rfl
  | x :: xs => wr_stuck ts p xs
theorem wr_take {ts : List Str} {xs : List ((List Str × List Str) × Int)} {i : Nat} {p : Int} (h : wrAll ts (xs.take i) = .inl p) : wrAll ts xs = .inl p := by
  unfold wrAll at h ⊢
  rw [← List.take_append_drop i xs, List.foldl_append, h]
  exact wr_stuck ts p _
theorem wr_succ {ts : List Str} {xs : List ((List Str × List Str) × Int)} {i : Nat} {x : (List Str × List Str) × Int} (h : xs[i]? = some x) : wrAll ts (xs.take (i + 1)) = wrStep ts (wrAll ts (xs.take i)) x := by
  unfold wrAll
  rw [List.take_add_one, h, Option.toList_some, List.foldl_append]; rfl
/-- the text that is told, token by token -/
def wrOut (ts : List Str) (M : Wr) : List Str := (((List.range ts.length).map fun (i : Nat) => (M (i : Int)).getD [ts.getD i Str.empty])).flatten
/-- the steps of a list of rules at places -/
abbrev RS := List ((RK × List Str) × Int)
def rsP (r : RS) : List ((List Str × List Str) × Int) := r.map fun x => ((x.1.1.rem x.1.2, x.1.1.ins x.1.2), x.2)
/-! ### words -/
section
variable {X : Cx} {CX : CXT} {k j : Nat} {K : PySem.W.Frag} {σ : L2.St} {H : Hp} {ta tb te : TE}
/-- o.m(e, ..), o an object of one of several classes -/
def tMethF (Cf : RK → Addr) (m : Str) (sp : Sp) (E : XK) (ta : TE) (t : TA) : TE := fun σ H Q => ∃ k : RK, tMeth (Cf k) m sp [] E ta t σ H Q
theorem pe_mdF {Cf : RK → Addr} {m : Str} {ps : List Str} {sp : Sp} {E : XK} {o e : Expr} {es : List Expr} {t : TA} {apos pos : Pos} {pl : Sem Bool} (he : PE X o ta) (c : ∀ k, Cls X.K (Cf k)) (D : ∀ kd, Mm X.prog X.w X.K X.mg X.base CX (Cf kd) k m ps sp) (hr : Room j X.A) (hx : Passes CX X E) (ha : PA X (e :: es) t) (hk : k ≤ j := by decide)
    (hst : starEach (e :: es) X.env = (false, eval e X.env) :: starEach es X.env := by rfl) (hpl : (backTo pos (starEach es X.env)).any (·.1) = false := by rfl)
    (ht : eval (.Call (.Attribute o m apos) (e :: es) [] pos) X.env = (do
      let ov ← eval o X.env
      standAt apos.atName
      let (f, first) ← holding [ov] (getMethod ov m pl)
      callWith pos f first (backTo pos (starEach (e :: es) X.env)) (backToKw pos (keywordEach [] X.env))) := by rfl) :
    PE X (.Call (.Attribute o m apos) (e :: es) [] pos) (tMethF Cf m sp E ta t) :=
  ⟨fun pins s σ H Q I ⟨kd, h⟩ => (pe_md (pl := pl) he (c kd) (D kd) hr hx ha hk hst hpl ht).run pins s σ H Q I h⟩
/-- tuple(l[a:b]) == t, texts -/
theorem ev_eqTS {p : Addr} {a b : List Str} (h : EvU ta σ H (a.map V.str)) (hb : Ev tb σ H (.ref p)) (hp : SqT K H p (b.map V.str)) (oa : a.all okS = true) (ob : b.all okS = true) : Ev (tOp (rEqD K) ta tb) σ H (.bl (decide (a = b))) := fun H1 s Q q =>
  h H1 s _ fun r H2 _ s2 a2 => hb H2 (s.trans s2) _ fun H3 s3 => rv_eqT oa ob (SqT.of (s3 _ _ a2)) (ex_t ((s.trans s2).trans s3) hp) H3 (Ex.refl H3) Q fun H4 s4 => q H4 ((s2.trans s3).trans s4)
end
end Ss
namespace Ss
open PySem PySem.Spec PyProof.Rows L2 Evl
/-! ### dicts of numbers, joined -/
theorem mem_putK {κ : Type} [DecidableEq κ] {kvs : List (κ × V)} {k : κ} {v : V} {e : κ × V} (h : e ∈ putK kvs k v) : e = (k, v) ∨ e ∈ kvs := by
  unfold putK at h
  split at h
  · obtain ⟨a, ha, rfl⟩ := List.mem_map.mp h
    by_cases c : a.1 = k
    · left; rw [if_pos c, c]
    · right; rw [if_neg c]; exact ha
  · rcases List.mem_append.mp h with h | h
    · exact .inr h
    · exact .inl (List.mem_singleton.mp h)
theorem key_putK {κ : Type} [DecidableEq κ] {kvs : List (κ × V)} {k j : κ} {v : V} (h : j = k ∨ ∃ u, (j, u) ∈ kvs) : ∃ u, (j, u) ∈ putK kvs k v := by
  have q := valV_put kvs k j v
  have s : (valV (putK kvs k v) j).isSome = true := by
    rw [q]
    by_cases e : j = k
    · rw [if_pos e]; rfl
    · rw [if_neg e, ← valV_any]
      obtain ⟨u, hu⟩ := h.resolve_left e
      exact List.any_eq_true.mpr ⟨_, hu, decide_eq_true rfl⟩
  rw [← valV_any] at s
  obtain ⟨⟨a, u⟩, h1, h2⟩ := List.any_eq_true.mp s
  have h2 : a = j := of_decide_eq_true h2
  subst h2
  exact ⟨u, h1⟩
theorem merge_val {j : L2.Key} : ∀ (ls kvs : List (L2.Key × V)), (∃ v, (j, v) ∈ ls ∧ valV (mergeK kvs ls) j = some v) ∨ ((∀ v, (j, v) ∉ ls) ∧ valV (mergeK kvs ls) j = valV kvs j)
  | [], kvs => .inr ⟨(fun v h => nomatch h), rfl⟩
  | (a, u) :: ls, kvs => by
    show (∃ v, (j, v) ∈ (a, u) :: ls ∧ valV (mergeK (putK kvs a u) ls) j = some v) ∨ ((∀ v, (j, v) ∉ (a, u) :: ls) ∧ valV (mergeK (putK kvs a u) ls) j = valV kvs j)
    rcases merge_val (j := j) ls (putK kvs a u) with ⟨v, h1, h2⟩ | ⟨h1, h2⟩
    · exact .inl ⟨v, List.mem_cons_of_mem _ h1, h2⟩
    · rw [h2, valV_put]
      by_cases e : j = a
      · subst e
        exact .inl ⟨u, List.mem_cons_self, by rw [if_pos rfl]⟩
      · rw [if_neg e]
        refine .inr ⟨fun v h => ?_, rfl⟩
        rcases List.mem_cons.mp h with h | h
        · exact e (Prod.mk.inj h).1
        · exact h1 v h
/-- what a dict of empty tuples at these numbers holds -/
def Blank (H : Hp) (ns : List Int) (ls : List (L2.Key × V)) : Prop := (∀ e ∈ ls, ∃ x q, e = (.inl x, .ref q) ∧ x ∈ ns ∧ H q = some (.tup [])) ∧ ∀ x ∈ ns, ∃ v, ((.inl x : L2.Key), v) ∈ ls
section
variable {K : PySem.W.Frag} {σ : L2.St} {H : Hp} {tl : TE}
theorem len_putK {κ : Type} [DecidableEq κ] (kvs : List (κ × V)) (k : κ) (v : V) : (putK kvs k v).length ≤ kvs.length + 1 := length_putK kvs k v
/-- {at: () for at in l} -/
theorem ed_blank {o : Addr} {j : Nat} {vs : List Nat} {ns : List Int} (h : Ev tl σ H (.ref o)) (hx : SqL K H o (ns.map V.int)) (hz : ns.length ≤ 1000) (hw : ∀ x, wipe ((wipe σ vs).set j (some x)) vs = wipe σ vs) (hj : ∀ x, ((wipe σ vs).set j (some x))[j]? = some (some x)) :
    ∀ H1, Ex H H1 → ∀ Q : VK, (∀ D ls H2, H1 D = none → Ex H1 H2 → H2 D = some (.dK ls) → ls.length ≤ ns.length → Blank H2 ns ls → Q (.ref D) H2) → tDc (iList K tl) (gName j) tYes (tVar j) (tTup tNil) vs σ H1 Q := by
  intro H1 s1 Q q
  refine h H1 s1 _ fun H2 s2 => ⟨o, rfl, ⟨_, ex_l (s1.trans s2) hx⟩, fun D hD => ?_⟩
  have hDH : H1 D = none := fresh_back s2 hD
  let Pv : Nat → Hp → Prop := fun i G => Ex H2 G ∧ ∃ ls, G D = some (.dK ls) ∧ ls.length ≤ i ∧ Blank G (ns.take i) ls
  refine ⟨fun i m G => m + i = ns.length ∧ Pv i G, ⟨ns.length, rfl, Ex.new hD, [], upd_same, Nat.le_refl _, ⟨(fun e he => nomatch he), (fun x hx => by simp at hx)⟩⟩, ?_⟩
  rintro i m G ⟨hm, sG, ls, hG, hl, hB⟩
  have seq : SqL K G o (ns.map V.int) := ex_l ((s1.trans s2).trans sG) hx
  by_cases lt : i < ns.length
  · refine .inr ⟨⟨_, V.int ns[i], seq, by rw [List.getElem?_map, List.getElem?_eq_getElem lt]; rfl⟩, Pv (i + 1), fun G' p' => ⟨m - 1, by omega, by omega, p'⟩, fun x G' y => ?_⟩
    obtain ⟨rfl, y⟩ := y
    have y := y _ seq
    rw [List.getElem?_map, List.getElem?_eq_getElem lt] at y
    cases y
    refine ⟨hw _, ?_⟩
    unfold tYes; dsimp only; rw [if_pos rfl]
    refine ⟨_, hj _, by show 0 ≤ sizeLine; exact Nat.zero_le _, fun t ht => ?_⟩
    have nD : D ≠ t := fun e => by subst e; rw [hG] at ht; cases ht
    refine ⟨ls, .inl ns[i], rfl, by rw [upd_ne nD]; exact hG, Nat.lt_of_le_of_lt (show _ ≤ 1000 by omega) (by decide), ?_⟩
    have keep : ∀ b ob, b ≠ D → G' b = some ob → upd (upd G' t (.tup [])) D (.dK (putK ls (.inl ns[i]) (.ref t))) b = some ob := fun b ob nb hb => by
      rw [upd_ne nb, upd_ne (ne_of_none hb ht)]; exact hb
    have et : upd (upd G' t (.tup [])) D (.dK (putK ls (.inl ns[i]) (.ref t))) t = some (.tup []) := by rw [upd_ne nD.symm]; exact upd_same
    refine ⟨fun b ob hb => keep b ob (ne_of_none hb hD) (sG b ob hb), _, upd_same, Nat.le_trans (len_putK _ _ _) (by omega), ⟨fun e he => ?_, fun x hx => ?_⟩⟩
    · have tk : ns.take (i + 1) = ns.take i ++ [ns[i]] := by rw [List.take_add_one, List.getElem?_eq_getElem lt]; rfl
      rw [tk]
      rcases mem_putK he with rfl | he
      · exact ⟨_, t, rfl, List.mem_append_right _ (List.mem_singleton.mpr rfl), et⟩
      · obtain ⟨x, q0, e1, e2, e3⟩ := hB.1 e he
        exact ⟨x, q0, e1, List.mem_append_left _ e2, keep _ _ (fun z => by subst z; rw [hG] at e3; cases e3) e3⟩
    · rw [List.take_add_one, List.getElem?_eq_getElem lt, Option.toList_some] at hx
      rcases List.mem_append.mp hx with hx | hx
      · exact key_putK (.inr (hB.2 x hx))
      · rw [List.mem_singleton.mp hx]; exact key_putK (.inl rfl)
  · have e : i = ns.length := by omega
    subst e
    rw [List.take_length] at hB
    exact .inl ⟨⟨_, seq, by rw [List.length_map]; exact Nat.le_refl _⟩, q D ls G hDH (s2.trans sG) hG hl hB⟩
end
theorem joinB {ys : List Str} (h : ∀ y ∈ ys, wordOk y) (hl : ys.length ≤ 100000) : (ys.map (·.length)).sum + ys.length * (" " : Str).length ≤ 16777216 := by
  have q := sum_small h
  have q3 : (" " : Str).length = 1 := by decide +kernel
  rw [q3]; omega
end Ss
namespace Ss
open PySem L2
section
variable {P : Program} {w : World} {K : PySem.W.Frag} {mg : Str → Option Value} {base : Heap}
abbrev sStands : Stmt := inClass (topS 14) 8
theorem scStands : FnScope ["self", "tokens", "place"] ["self", "tokens", "place"] (defScope sStands) := ⟨rfl, rfl, rfl, by decide +kernel, rfl, by decide +kernel, by decide +kernel⟩
/-- whether a rule stands at a place -/
def spStands (K : PySem.W.Frag) (Cf : RK → Addr) : Sp := fun vs H Q _ => ∃ (p t : Addr) (pl : Int) (kd : RK) (toks ts : List Str), vs = [.ref p, .ref t, .int pl] ∧ RuleAt H (Cf kd) p kd toks ∧ SqL K H t (ts.map V.str) ∧ ts.all okS = true ∧ toks.all okS = true ∧ ∀ H', Same H H' → Q (.bl (standsP ts (kd.rem toks) pl)) H'
theorem rem_all {k : RK} {toks : List Str} {p : Str → Bool} (h : toks.all p = true) : (k.rem toks).all p = true := by
  match k, toks, h with
  | .out, [a], h => exact h
  | .twice, [a], h => exact h
  | .swapped, [a, b], h => exact h
  | .taken, [a, b], h =>
    simp only [List.all_cons, List.all_nil, Bool.and_true, Bool.and_eq_true] at h ⊢
    simp only [RK.rem, List.all_cons, List.all_nil, Bool.and_true]
    exact h.1
  | .out, [], _ => rfl
  | .out, _ :: _ :: _, _ => rfl
  | .twice, [], _ => rfl
  | .twice, _ :: _ :: _, _ => rfl
  | .swapped, [], _ => rfl
  | .swapped, [_], _ => rfl
  | .swapped, _ :: _ :: _ :: _, _ => rfl
  | .taken, [], _ => rfl
  | .taken, [_], _ => rfl
  | .taken, _ :: _ :: _ :: _, _ => rfl
theorem ok_stands {C R : Addr} {Cf : RK → Addr} (F : MethAt K C "stands" "Rule.stands" sStands) (T : G0 mg) (Z : RTab K mg Cf R) : Mm P w K mg base CX0 C 1 "stands" ["self", "tokens", "place"] (spStands K Cf) := by
  obtain ⟨f, fd, F, mf⟩ := F.ex
  refine ⟨f, fd, F.ok scStands (fun vs H Q E h => ?_) (fun cdv A outer s H vs Q E hr h => ?_), mf, F.binds fun _ _ _ _ _ _ us hl => match us, hl with | [_, _, _], _ => rfl⟩
  · obtain ⟨p, t, pl, kd, toks, ts, rfl, _⟩ := h; rfl
  · obtain ⟨p, t, pl, kd, toks, ts, rfl, hR, ht, o1, o2, k⟩ := h
    refine ⟨_, (pss_one (ps_ret (pe_and (pe_cmpR op_ge (pv 2) pe_int (nomark _)) (pe_one (pe_cmpR (op_eqD hr.units) (pe_callTy call_tuple_of (by rfl) T.tuple (by decide +kernel) (pa_cons (pe_slice sl_list (pv 1) (po_some (pv 2)) (po_some (pe_op op_add (pv 2) (pe_callB call_len_seq (by rfl) T.len (by decide +kernel) (pa_cons (pe_fld (pv 0) rfl) pa_nil))))) pa_nil)) (pe_fld (pv 0) rfl) (nomark _)))))), ?_⟩
    obtain ⟨dx, tt, rr, ii, h1, h2, h3, h4⟩ := id hR
    have fr : ∀ {G : Hp} {σ : L2.St}, Same H G → σ[0]? = some (some (.ref p)) → Evl.Ev (tFld K (tVar 0) "removed") σ G (.ref rr) := fun s h G1 s1 Q1 q1 => ⟨_, h, p, Cf kd, dx, _, _, rfl, s1 _ _ (s _ _ h1), (Z.cl kd).cl, (Z.cl kd).r, rfl, q1 G1 (Evl.Ex.refl G1)⟩
    refine Evl.s_ret (v := .bl (standsP ts (kd.rem toks) pl)) ?_ fun H' s' => k H' s'
    unfold standsP
    refine Evl.ev_andV (a := decide (0 ≤ pl)) (Evl.ev_is (Evl.ev_op (Evl.ev_var rfl) Evl.ev_c Evl.rv_I0) (by congr 1)) fun z => ?_
    have z := of_decide_eq_true z
    obtain ⟨n, rfl⟩ : ∃ n : Nat, pl = (n : Int) := ⟨pl.toNat, by omega⟩
    have e : cutV (ts.map V.str) (some ((n : Nat) : Int)) (some (((n : Nat) : Int) + (((kd.rem toks).length : Nat) : Int))) = ((ts.drop n).take (kd.rem toks).length).map V.str := by rw [cut_nat, ← List.map_drop, ← List.map_take]
    refine ev_eqTS (a := (ts.drop n).take (kd.rem toks).length) (b := kd.rem toks) (fun G s Q1 q1 => ?_) (fr (Evl.Ex.refl H) rfl) (SqT.of h3) ?_ (rem_all o2)
    · refine (Evl.el_sl (Evl.ev_var rfl) (Evl.eo_some (Evl.ev_var rfl)) (Evl.eo_some (Evl.ev_op (Evl.ev_var rfl) (Evl.ev_is (Evl.ev_cb (Evl.ea_cons (fr (Evl.Ex.refl H) rfl) Evl.ea_nil) (fun H1 s Q q => ⟨rr, _, rfl, .inr (SqT.of (s _ _ h3)), q H1 (Evl.Ex.refl H1)⟩)) (by rw [List.length_map])) Evl.rv_I0)) ht) G s _ fun q G2 nq s2 e2 => ⟨q, _, rfl, .inl ⟨SqL.of e2, fun l hl => ?_⟩⟩
      rw [e]
      exact q1 l _ (Evl.fresh_back s2 hl) (s2.trans (Evl.Ex.new hl)) upd_same
    · refine List.all_eq_true.mpr fun x hx => List.all_eq_true.mp o1 x (List.mem_of_mem_drop (List.mem_of_mem_take hx))
end
end Ss
namespace Ss
open PySem L2
section
variable {P : Program} {w : World} {K : PySem.W.Frag} {mg : Str → Option Value} {base : Heap}
abbrev sRuns : Stmt := topS 10
theorem scRuns : FnScope ["text", "run"] ["text"] (defScope sRuns) := ⟨rfl, rfl, rfl, by decide +kernel, rfl, by decide +kernel, by decide +kernel⟩
theorem ok_runs (F : DefAt K mg "runs_of" sRuns) : Dk P w K mg base CX0 1 "runs_of" ["text"] spRuns := by
  obtain ⟨f, fd, F, mf⟩ := F.ex
  refine ⟨f, fd, fun_okT F scRuns (by decide +kernel) (by decide) (fun vs H Q E h => ?_) (fun cdv A outer s H vs Q E hr h => ?_), mf, F.kp, F.binds fun _ _ _ _ _ _ us hl => match us, hl with | [_], _ => rfl⟩
  · obtain ⟨z, rfl, _⟩ := h; rfl
  · obtain ⟨z, rfl, hz, k⟩ := h
    refine ⟨_, CwR.psst_one (CwR.pst_ret (pet_lc (own := [("run", 1)]) (g := gName 1) rfl scRuns.nd (pit_list (pet_split (CwR.pet_replC (pv 0)) pe_str)) (blkOk_by (N := ["text", "run"]) (sc := defScope sRuns) (by decide +kernel)) (fun _ _ _ _ _ => pg_name (i := 1) scRuns.nd rfl (.inl rfl)) (fun _ _ _ _ _ => (pts_one (pt_cmpR op_ne (pv 1) pe_str (nomark _)))) (fun _ _ _ _ _ => (pv 1)))), ?_⟩
    have l32 : (" " : Str).length = 1 := by decide +kernel
    have e16 : (16777216 : Nat) ≤ sizeLine := by decide
    have lr := TK.replace_len z "\n" " "
    rw [l32] at lr
    have lp := parts_len z
    refine ⟨_, rfl, z, rfl, ?_, _, rfl, _, rfl, by decide +kernel, ?_, fun p hp => ⟨p, rfl, ⟨_, SqL.of upd_same⟩, fun D hD => ?_⟩⟩
    · rw [l32]; omega
    · omega
    have nD : D ≠ p := fun e => by subst e; rw [upd_same] at hD; cases hD
    have hDH : H D = none := by rw [upd_ne nD] at hD; exact hD
    refine lc_list (xs := (partsS z).map V.str) (fun i H' => H' D = some (.lst ((((partsS z).take i).filter fun y : Str => y != "").map V.str)) ∧ H' p = some (.lst ((partsS z).map V.str)) ∧ Same H H') ⟨upd_same, by rw [upd_ne nD.symm]; exact upd_same, (Same.new (Same.new (Same.refl H) hp) hD)⟩ (fun i H' _ h => SqL.of h.2.1) ?_ ?_
    · rintro i x H' hx ⟨h1, h2, h3⟩
      obtain ⟨y, hy, rfl⟩ : ∃ y, (partsS z)[i]? = some y ∧ x = V.str y := by
        rw [List.getElem?_map] at hx
        cases e : (partsS z)[i]? with
        | none => rw [e] at hx; cases hx
        | some y => rw [e] at hx; cases hx; exact ⟨y, rfl, rfl⟩
      have et : (partsS z).take (i + 1) = (partsS z).take i ++ [y] := by rw [List.take_add_one, hy]; rfl
      have hi : i < (partsS z).length := (List.getElem?_eq_some_iff.mp hy).1
      refine ⟨rfl, _, rfl, rfl, _, rfl, ?_⟩
      have ed : (!decide (V.str y = V.str "")) = (y != "") := by
        by_cases q : y = ""
        · subst q; rfl
        · rw [decide_eq_false (fun z => q (by injection z))]; exact (bne_iff_ne.mpr q).symm
      have fl : ((((partsS z).take i).filter fun y : Str => y != "").map V.str).length < sizeLine := by
        rw [List.length_map]
        have q1 := List.length_filter_le (fun y : Str => y != "") ((partsS z).take i)
        rw [List.length_take] at q1
        omega
      by_cases q : (y != "") = true
      · have e1 : (!decide (V.str y = V.str "")) = true := ed.trans q
        show if (!decide (V.str y = V.str "")) = true then _ else _
        rw [if_pos e1]
        refine ⟨_, rfl, _, h1, fl, ?_, ?_, ?_⟩
        · rw [upd_same, et, List.filter_append, List.map_append, List.filter_cons, if_pos q]; rfl
        · rw [upd_ne nD.symm]; exact h2
        · exact fun b o hb => by rw [upd_ne (ne_of_none hb hDH)]; exact h3 b o hb
      · have e1 : ¬ (!decide (V.str y = V.str "")) = true := fun z => q (ed.symm.trans z)
        show if (!decide (V.str y = V.str "")) = true then _ else _
        rw [if_neg e1]
        refine ⟨?_, h2, h3⟩
        rw [et, List.filter_append, List.filter_cons, if_neg q, h1]; simp
    · rintro H' ⟨h1, h2, h3⟩
      rw [List.length_map, List.take_length, parts_rn] at h1
      exact k D H' hDH h3 h1
abbrev sTokensof : Stmt := topS 12
theorem scTokensof : FnScope ["text"] ["text"] (defScope sTokensof) := ⟨rfl, rfl, rfl, by decide +kernel, rfl, by decide +kernel, by decide +kernel⟩
theorem ok_tokensof (F : DefAt K mg "tokens_of" sTokensof) (Druns : Dk P w K mg base CX0 1 "runs_of" ["text"] spRuns) : Dk P w K mg base CX0 2 "tokens_of" ["text"] spRuns := by
  obtain ⟨f, fd, F, mf⟩ := F.ex
  refine ⟨f, fd, F.ok scTokensof (fun vs H Q E h => ?_) (fun cdv A outer s H vs Q E hr h => ?_), mf, F.kp, F.binds fun _ _ _ _ _ _ us hl => match us, hl with | [_], _ => rfl⟩
  · obtain ⟨z, rfl, _⟩ := h; rfl
  · obtain ⟨z, rfl, hz, k⟩ := h
    refine ⟨_, (pss_one (ps_ret (pe_cd Druns hr pass0 (pa_cons (pv 0) pa_nil)))), ?_⟩
    exact ⟨_, rfl, z, rfl, hz, k⟩
abbrev sLaid : Stmt := topS 25
theorem scLaid : FnScope ["bag", "tokens", "text", "line", "lines", "at", "token", "gap"] ["bag", "tokens"] (defScope sLaid) := ⟨rfl, rfl, rfl, by decide +kernel, rfl, by decide +kernel, by decide +kernel⟩
/-- a text of these tokens -/
def spLaid (K : PySem.W.Frag) : Sp := fun vs H Q _ => ∃ (b p : Addr) (n : Nat) (ts : List (List Nat)), vs = [.ref b, .ref p] ∧ Bag H b n ∧ n ≤ 800000000 ∧ p ≠ b ∧ SqL K H p (ts.map fun t => V.str (mkS t)) ∧ ts.length ≤ 1000 ∧
  (∀ t ∈ ts, t ≠ [] ∧ t.length ≤ 8 ∧ ∀ c ∈ t, gapC c = false) ∧
  ∀ (q l : Addr) (z : List Nat) (ls : List V) (H' : Hp), Off b H H' → Bag H' b (n + 2 * ts.length + 1) → H q = none → H' q = some (.tup [.str (mkS z), .ref l]) → rn [] z = ts → z.length ≤ 11 * ts.length + 3 → H l = none → H' l = some (.lst ls) → Q (.ref q) H'
theorem ok_laid (F : DefAt K mg "_law_laid" sLaid) (T : G0 mg) (Dof : Dk P w K mg base CX0 2 "_law_of" ["dice", "some"] (spOf K)) : Dk P w K mg base CX0 3 "_law_laid" ["bag", "tokens"] (spLaid K) := by
  obtain ⟨f, fd, F, mf⟩ := F.ex
  refine ⟨f, fd, F.ok scLaid (fun vs H Q E h => ?_) (fun cdv A outer s H vs Q E hr h => ?_), mf, F.kp, F.binds fun _ _ _ _ _ _ us hl => match us, hl with | [_, _], _ => rfl⟩
  · obtain ⟨b, p, n, ts, rfl, _⟩ := h; rfl
  · obtain ⟨b, p, n, ts, rfl, hB, hn, hpb, hS, hl, ht, k⟩ := h
    refine ⟨_, (pss_cons (ps_par3 (i := 2) (j := 3) (l := 4) (by rfl) scLaid.nd rfl rfl rfl (by decide) (by decide) (by decide) rfl rfl rfl (pa_cons pe_str (pa_cons pe_int (pa_cons (pe_lst pa_nil) pa_nil))) (by rfl)) (pss_cons (ps_for PassesOwn.never rfl (pi_enum (by rfl) T.enumerate (pa_cons (pv 1) pa_nil)) (pg_tup (by rfl) (pgs_cons (pg_name (i := 5) scLaid.nd rfl (.inl rfl)) (pgs_cons (pg_name (i := 6) scLaid.nd rfl (.inl rfl)) pgs_nil))) (pss_cons (ps_set (i := 7) scLaid.nd rfl (Or.inl rfl) (pe_cd Dof hr pass0 (pa_cons (pv 0) (pa_cons (pe_lst (pa_cons pe_str (pa_cons pe_str (pa_cons pe_str (pa_cons pe_str (pa_cons pe_str (pa_cons pe_str (pa_cons pe_str pa_nil)))))))) pa_nil)))) (Evl.pss_cut (ps_if (pt_cmpR op_eq (pv 5) pe_int (nomark _)) (pss_one (ps_set (i := 7) scLaid.nd rfl (Or.inl rfl) (pe_cd Dof hr pass0 (pa_cons (pv 0) (pa_cons (pe_lst (pa_cons pe_str (pa_cons pe_str (pa_cons pe_str (pa_cons pe_str pa_nil))))) pa_nil))))) pss_nil) (pss_cons (ps_set (i := 2) scLaid.nd rfl (Or.inl rfl) (pe_op op_add_str (pe_op op_add_str (pv 2) (pv 7)) (pv 6))) (pss_cons (ps_set (i := 3) scLaid.nd rfl (Or.inl rfl) (pe_op op_add (pv 3) (pe_bm PySem.F.plainAttrs_str PySem.F.slot_str_count PySem.F.type_str_count mt_count (pv 7) (pa_cons pe_str pa_nil)))) (pss_one (ps_expr (pe_bm PySem.F.plainAttrs_list PySem.F.slot_list_append PySem.F.type_list_append mt_append (pv 4) (pa_cons (pv 3) pa_nil))))))))) (pss_one (ps_ret (pe_tup (pa_cons (pe_op op_add_str (pv 2) (pe_cd Dof hr pass0 (pa_cons (pv 0) (pa_cons (pe_lst (pa_cons pe_str (pa_cons pe_str (pa_cons pe_str (pa_cons pe_str (pa_cons pe_str pa_nil)))))) pa_nil)))) (pa_cons (pv 4) pa_nil))))))), ?_⟩
    refine ⟨Nat.zero_le _, fun l hnl => ⟨_, _, _, rfl, ?_⟩⟩
    have el : (ts.map fun t => V.str (mkS t)).length = ts.length := List.length_map ..
    have sL : (16777216 : Nat) ≤ sizeLine := by decide
    have nbl : l ≠ b := (hB.ne hnl).symm
    refine ⟨_, rfl, p, _, rfl, (Off.new (Off.refl b H) hnl).seq hpb hS, for_it (walk_enum (xs := ts.map fun t => V.str (mkS t))) (fun i σ H' => ∃ (z : List Nat) (ln : Int) (ls : List V) (v5 v6 v7 : Option V), σ = [some (.ref b), some (.ref p), some (.str (mkS z)), some (.int ln), some (.ref l), v5, v6, v7] ∧ Laid z (ts.take i) ∧ (i = 0 → z = []) ∧ z.length ≤ 11 * i ∧ H' l = some (.lst ls) ∧ ls.length = i ∧ Off b H H' ∧ Bag H' b (n + 2 * i))
      ⟨[], 1, [], none, none, none, by rw [← mkS_nil]; rfl, laid_nil, fun _ => rfl, Nat.zero_le _, upd_same, rfl, Off.new (Off.refl b H) hnl, hB.new hnl⟩ (fun i σ H' _ h => ?_) ?_ ?_⟩
    · obtain ⟨_, _, _, _, _, _, _, _, _, _, _, _, hO, _⟩ := h
      exact hO.seq hpb hS
    · rintro i x σ H1 H2 hi ⟨z, ln, ls, v5, v6, v7, rfl, hz, hz0, hzl, hll, hlen, hO, hB1⟩ ⟨t0, x1, x2, rfl, ht0, rfl, e1, e2⟩
      rw [el] at hi
      obtain ⟨tk, etk, rfl⟩ : ∃ t, ts[i]? = some t ∧ x2 = V.str (mkS t) := ⟨ts[i], List.getElem?_eq_getElem hi, by
        have e2 : (ts.map fun t => V.str (mkS t))[i]? = some x2 := e2
        rw [List.getElem?_map, List.getElem?_eq_getElem hi] at e2; cases e2; rfl⟩
      cases e1
      have hne : ∀ {a : Addr} {o : HO}, H1 a = some o → a ≠ t0 := fun h => ne_of_none h ht0
      have nbl0 : b ≠ t0 := hB1.ne ht0
      obtain ⟨htk1, htk2, htk3⟩ := ht tk (List.mem_of_getElem? etk)
      have hB2 := hB1.new (o := .tup [.int (i : Nat), .str (mkS tk)]) ht0
      have hO2 : Off b H (upd H1 t0 (.tup [.int (i : Nat), .str (mkS tk)])) := hO.new ht0
      have hl2 : upd H1 t0 (.tup [.int (i : Nat), .str (mkS tk)]) l = some (.lst ls) := by rw [upd_ne (hne hll)]; exact hll
      refine ⟨t0, _, rfl, SqT.of upd_same, rfl, _, _, rfl, _, _, rfl, rfl, ?_⟩
      generalize upd H1 t0 (.tup [.int (i : Nat), .str (mkS tk)]) = H2 at hB2 hO2 hl2 ⊢
      refine ⟨_, rfl, by show 7 ≤ sizeLine; decide, fun q hq => ?_⟩
      refine ⟨b, n + 2 * i, hB2.new hq, by omega, .inl ⟨q, _, rfl, (hB2.ne hq).symm, SqL.of upd_same, by show 1 ≤ 7; decide, by show 7 ≤ 1000000; decide, fun x H3 hx hO3 hB3 => ?_⟩⟩
      have hO3' : Off b H H3 := (hO2.new hq).trans hO3
      have hl3 : H3 l = some (.lst ls) := hO3 _ _ nbl (by rw [upd_ne (ne_of_none hl2 hq)]; exact hl2)
      obtain ⟨g, rfl, hg, hgn, hgl⟩ := gap_more hx
      refine ⟨fun σ' H' => ∃ g : List Nat, σ' = [some (.ref b), some (.ref p), some (.str (mkS z)), some (.int ln), some (.ref l), some (.int (i : Nat)), some (.str (mkS tk)), some (.str (mkS g))] ∧ (∀ c ∈ g, gapC c = true) ∧ (i ≠ 0 → g ≠ []) ∧ g.length ≤ 3 ∧ Off b H H' ∧ Bag H' b (n + 2 * i + 2) ∧ H' l = some (.lst ls), ?_, ?_⟩
      · refine ⟨_, rfl, rfl, _, rfl, ?_⟩
        refine ite2 (fun c0 => ?_) (fun c0 => ?_)
        · have h0 : i = 0 := by
            have q := of_decide_eq_true c0
            injection q with q
            omega
          subst h0
          refine ⟨_, rfl, by show 4 ≤ sizeLine; decide, fun q2 hq2 => ?_⟩
          refine ⟨b, _, hB3.new hq2, by omega, .inl ⟨q2, _, rfl, (hB3.ne hq2).symm, SqL.of upd_same, by show 1 ≤ 4; decide, by show 4 ≤ 1000000; decide, fun x H4 hx hO4 hB4 => ?_⟩⟩
          obtain ⟨g2, rfl, hg2, hgl2⟩ := gap_first hx
          exact ⟨g2, rfl, hg2, fun z => absurd rfl z, hgl2, (hO3'.new hq2).trans hO4, hB4, hO4 _ _ nbl (by rw [upd_ne (ne_of_none hl3 hq2)]; exact hl3)⟩
        · exact ⟨g, rfl, hg, fun _ => hgn, hgl, hO3', hB3.mono (by omega), hl3⟩
      rintro _ H4 ⟨g, rfl, hg, hgn, hgl, hO4, hB4, hl4⟩
      refine ⟨_, rfl, _, rfl, _, _, rfl, rfl, ?_, _, rfl, _, _, rfl, rfl, ?_, ?_⟩
      · rw [mkS_len, mkS_len]; omega
      · rw [mkS_app, mkS_len, mkS_len, List.length_append]; omega
      refine ⟨_, rfl, _, rfl, rfl, _, _, rfl, rfl, _, _, rfl, rfl, ?_⟩
      refine ⟨_, rfl, .inl ⟨rfl, _, SqL.of hl4⟩, _, rfl, l, _, _, rfl, rfl, hl4, by rw [hlen]; omega, ?_⟩
      refine ⟨z ++ g ++ tk, _, _, _, _, _, by rw [mkS_app, mkS_app]; rfl, ?_, fun e => by omega, ?_, upd_same, by rw [List.length_append, hlen]; rfl, fun a o na ha => ?_, ?_⟩
      · have et : ts.take (i + 1) = ts.take i ++ [tk] := by rw [List.take_add_one, etk]; rfl
        rw [et]
        by_cases h0 : i = 0
        · subst h0
          rw [hz0 rfl]
          exact laid_first hg htk3 htk1
        · exact laid_more hz hg (hgn h0) htk3 htk1
      · rw [List.length_append, List.length_append]; omega
      · rw [upd_ne (ne_of_none ha hnl)]; exact hO4 a o na ha
      · obtain ⟨d, m, c, h1, r⟩ := hB4
        refine ⟨d, m, c, by rw [upd_ne nbl.symm]; exact h1, ?_⟩
        obtain ⟨r1, r2, r3, r4, r5⟩ := r
        exact ⟨r1, r2, r3, r4, by omega⟩
    · rintro σ H1 ⟨z, ln, ls, v5, v6, v7, rfl, hz, hz0, hzl, hll, hlen, hO, hB1⟩
      rw [el] at hz hz0 hzl hlen hB1
      rw [List.take_length] at hz
      refine ⟨_, rfl, _, rfl, by show 5 ≤ sizeLine; decide, fun q hq => ?_⟩
      refine ⟨b, _, hB1.new hq, by omega, .inl ⟨q, _, rfl, (hB1.ne hq).symm, SqL.of upd_same, by show 1 ≤ 5; decide, by show 5 ≤ 1000000; decide, fun x H3 hx hO3 hB3 => ?_⟩⟩
      obtain ⟨g, rfl, hg, hgl⟩ := gap_last hx
      refine ⟨_, _, rfl, rfl, ?_, _, rfl, by show 2 ≤ sizeLine; decide, fun t hnt => ?_⟩
      · rw [mkS_len, mkS_len]; omega
      have hl3 : H3 l = some (.lst ls) := hO3 _ _ nbl (by rw [upd_ne (ne_of_none hll hq)]; exact hll)
      have hO4 : Off b H H3 := (hO.new hq).trans hO3
      refine k t l (z ++ g) ls _ (hO4.new hnt) (hB3.new hnt) ?_ (by rw [mkS_app]; exact upd_same) (hz.fin g hg) (by rw [List.length_append]; omega) hnl (by rw [upd_ne (ne_of_none hl3 hnt)]; exact hl3)
      cases e : H t with
      | none => rfl
      | some o =>
        by_cases ne : t = b
        · subst ne
          obtain ⟨d, m, c, h1, _⟩ := hB3
          rw [h1] at hnt; cases hnt
        · rw [hO4 t o ne e] at hnt; cases hnt
end
end Ss
namespace Ss
open PySem PySem.Spec PyProof.Rows L2 GenW
section
variable {X : Cx}
/-! ### if, in the body of a generator -/
def tGIf (c : TT) (ta tb : TGn) : TGn := fun D ys σ H => c σ H fun b H1 => if b = true then ta D ys σ H1 else tb D ys σ H1
theorem gs_if {test : Expr} {a b : List Stmt} {pos : Pos} {tc : TT} {ta tb : TGn} (hc : PT X test tc) (ha : GSs X a ta) (hb : GSs X b tb) : GS X (.If test a b pos) (tGIf tc ta tb) := by
  refine ⟨fun A S ip R n ys s₀ c fs K J gd lv s σ H D g hn k hI ht => ?_⟩
  obtain ⟨acc, cc, r, I⟩ := hI
  rw [PySem.exec_If]
  refine seg_bind_wrap (wpAny_standAt ?_)
  refine seg_bind_wrap ?_
  rw [g.over]
  refine wpAny_mono (hc.run _ s σ H _ I ht) (fun bb s' hb' => ?_) fun x s' hx => k.exc n s₀ x s' hx
  obtain ⟨H2, I2, q2⟩ := hb'
  cases bb with
  | true => exact ha.run A S ip R n ys s₀ c fs K J gd lv s' σ H2 D g hn k ⟨acc, cc, r, I2⟩ q2
  | false => exact hb.run A S ip R n ys s₀ c fs K J gd lv s' σ H2 D g hn k ⟨acc, cc, r, I2⟩ q2
end
end Ss
namespace Ss
open PySem PySem.Spec PyProof.Rows L2 GenW
section
variable {M : Model} {A : Around} {R : GenEnd} {Y : Protocol} {n : Nat} {s₀ : Shared} {c : Code} {fs : List Frame} {s : Shared} {env : Env}
  {K : Flow → Sem PySem.Fin} {H : Value → Sem PySem.Fin} {gd : Bool → Bool} {lv : List Value → List Value}
theorem seg_For {tg iter : Expr} {body orelse : List Stmt} {pos : Pos} (hs : ∀ x, foldedSetIterable iter env x = pure x := by intro _; rfl)
    (h : wpAny M (A.over c fs) (eval iter env) (fun x s1 => wpAny M (A.over c fs) (pyIter x) (fun it s2 => ∀ p, Seg M A R Y n s₀ (.forLoop tg it body orelse env) (M.den (.forLoop tg it body orelse env))
      (.ret (fun r => ((match r with | .ok f => (.pure f : Sem Flow) | .error e => .raise e).onRaise (cameBack env)).wrap K H gd lv) none (gd false) (lv []) c p [] :: fs) s2) (fun x s' => Seg M A R Y n s₀ c (H x) fs s') s1) (fun x s' => Seg M A R Y n s₀ c (H x) fs s') s) :
    Seg M A R Y n s₀ c ((exec (.For tg iter body orelse pos) env).wrap K H gd lv) fs s := by
  rw [exec_For]
  refine seg_bind_wrap (wpAny_standAt ?_)
  refine seg_bind_wrap (wpAny_mono h (fun x s1 h1 => ?_) fun x s' hx => hx)
  refine seg_bind_wrap (wpAny_of_eq (hs x) ?_)
  refine seg_bind_wrap (wpAny_standAt ?_)
  refine seg_bind_wrap (wpAny_holding (wpAny_mono h1 (fun it s2 h2 => ?_) fun x s' hx => hx))
  exact seg_call h2
end
section
variable {prog : Program} {w : World} {A : Around} {R : GenEnd} {Y : Protocol} {n : Nat} {s₀ : Shared} {fs : List Frame} {s : Shared} {env : Env}
/-- what a loop's code does with an exception of its turn -/
abbrev noted (env : Env) (e : Value) : Sem PySem.Fin := (do noteFrame e env; theTreesLotGoes e : Sem Unit).wrap (fun _ => .raise e) .raise id id
theorem seg_forLoop {tg : Expr} {it : Value} {body orelse : List Stmt}
    (h : wpAny (model prog w) (A.over (.forLoop tg it body orelse env) fs) (pyNext it) (fun r s1 => match r with
      | none => Seg (model prog w) A R Y n s₀ (.forLoop tg it body orelse env) (.pure (.again (.block orelse env))) fs s1
      | some v => wpAny (model prog w) (A.over (.forLoop tg it body orelse env) fs) (letOwnedTupleGo tg it v) (fun _ s2 => wpAny (model prog w) (A.over (.forLoop tg it body orelse env) fs) (assign tg env v) (fun _ s3 =>
          Seg (model prog w) A R Y n s₀ (.forLoop tg it body orelse env) ((execs body env).wrap (fun f => match f with
            | .next | .cont => .pure (.again (.forLoop tg it body orelse env))
            | .brk => .pure (.done .next)
            | .ret v => .pure (.done (.ret v))) (noted env) id id) fs s3)
          (fun x s' => Seg (model prog w) A R Y n s₀ (.forLoop tg it body orelse env) (noted env x) fs s') s2) (fun x s' => Seg (model prog w) A R Y n s₀ (.forLoop tg it body orelse env) (noted env x) fs s') s1)
      (fun x s' => Seg (model prog w) A R Y n s₀ (.forLoop tg it body orelse env) (noted env x) fs s') s) :
    Seg (model prog w) A R Y n s₀ (.forLoop tg it body orelse env) ((model prog w).den (.forLoop tg it body orelse env)) fs s := by
  show Seg _ A R Y n s₀ _ ((forTurn tg it body orelse env).onRaise (fun x => do noteFrame x env; theTreesLotGoes x)) fs s
  unfold forTurn
  rw [Sem.onRaise_eq_wrap]
  have err : ∀ (x : Value) (s' : Shared), Seg (model prog w) A R Y n s₀ (.forLoop tg it body orelse env) (noted env x) fs s' → Seg (model prog w) A R Y n s₀ (.forLoop tg it body orelse env) ((do noteFrame x env; theTreesLotGoes x : Sem Unit).bind fun _ => .raise x) fs s' := fun x s' hx => by
    rw [Sem.bind_eq_wrap]; exact hx
  refine seg_bind_wrap (wpAny_standAt ?_)
  refine seg_bind_wrap (wpAny_onRaise (wpAny_mono h (fun r s1 h1 => ?_) fun x s' hx => wpAny_standAt (err x s' hx)))
  cases r with
  | none => exact h1
  | some v =>
    refine seg_bind_wrap (wpAny_mono h1 (fun _ s1' h2 => ?_) fun x s' hx => err x s' hx)
    refine seg_bind_wrap (wpAny_mono h2 (fun _ s2 h3 => ?_) fun x s' hx => err x s' hx)
    rw [Sem.bind_eq_wrap', Sem.wrap_wrap]
    rw [Sem.wrap_congr (execs body env) _ _ (K' := fun f => match f with
            | .next | .cont => .pure (.again (.forLoop tg it body orelse env))
            | .brk => .pure (.done .next)
            | .ret v => .pure (.done (.ret v))) (H' := noted env)
        (fun f => by cases f <;> rfl)
        (fun e => by first | exact Sem.bind_eq_wrap _ _ | (show (do noteFrame e env; theTreesLotGoes e : Sem Unit).bind (fun _ => .raise e) = _; rw [Sem.bind_eq_wrap]))]
    exact h3
end
end Ss
namespace Ss
open PySem PySem.Spec PyProof.Rows L2 GenW
section
variable {X : Cx}
def tGFor (wi : TI) (g : TG) (tb : TGn) : TGn := fun D ys σ H => wi σ H fun J H1 => ∃ W : Nat → Nat → List V → L2.St → Hp → Prop, (∃ m, W 0 m ys σ H1) ∧ ∀ i m ys σ H, W i m ys σ H →
  (J.stop i H ∧ D.nx ys σ H) ∨ (J.go i H ∧ ∃ N : List V → L2.St → Hp → Prop, (∀ ys' σ' H', N ys' σ' H' → ∃ m', m' < m ∧ W (i + 1) m' ys' σ' H') ∧ ∀ x H', J.yld i H x H' → g x σ H' fun σ2 H2 => tb { D with nx := N, ct := N, bk := D.nx } ys σ2 H2)
theorem gcB {S : Addr} {ip ip' : List (Addr × Obj)} {A : Around} {c : Code} {fs : List Frame} {gd : Bool → Bool} (q : GC X S ip A c fs gd) (h : ∀ p ∈ ip', p.1 ≠ S) : GC X S ip' A c fs gd :=
  ⟨q.pn, h, q.apart, q.over, q.split, q.guard, q.gd⟩
theorem gs_for {tg iter : Expr} {body : List Stmt} {pos : Pos} {wi : TI} {gt : TG} {tb : TGn} (hp : PassesOwn (model X.prog X.w) X.A X.env X.xe) (hc : X.calm = true) (hi : PI X tg iter wi) (hg : PG X tg gt) (hb : GSs X body tb)
    (hs : ∀ x, foldedSetIterable iter X.env x = pure x := by intro _; rfl) : GS X (.For tg iter body [] pos) (tGFor wi gt tb) := by
  refine ⟨fun A S ip R n ys s₀ c fs K J gd lv s σ H D g hn k hI ht => ?_⟩
  obtain ⟨acc, cc, r, I⟩ := hI
  refine seg_For hs ?_
  rw [g.over]
  refine wpAny_mono (hi.run ((S, lstObj acc cc) :: ip) s σ H _ I ht) (fun v s1 h1 => wpAny_mono h1 (fun itv s2 h2 p => ?_) (fun x s' hx => k.exc n s₀ x s' hx)) (fun x s' hx => k.exc n s₀ x s' hx)
  obtain ⟨it, fp, tn, Jt, H2, rfl, I2, T, st2, f2, W, ⟨m0, w0⟩, turn⟩ := h2
  have stat : ∀ {acc' : Array Value} {c' : Nat} {H' : Hp}, (∀ b ∈ fp, H' b = none) → ∀ b ∈ fp, FpOk X ((S, lstObj acc' c') :: ip) H' b := fun {acc' c' H'} hn b hb => by
    obtain ⟨h1, h2, h3, h4, h5, h6⟩ := f2 b hb
    refine ⟨hn b hb, h2, h3, h4, h5, fun p hp => ?_⟩
    rcases List.mem_append.mp hp with hp | hp
    · exact h6 p (List.mem_append_left _ hp)
    · rcases List.mem_cons.mp hp with rfl | hp
      · exact h6 (S, lstObj acc cc) (List.mem_append_right _ (List.mem_cons_self ..))
      · exact h6 p (List.mem_append_right _ (List.mem_cons_of_mem _ hp))
  have neS : ∀ b ∈ fp, b ≠ S := fun b hb e => (f2 b hb).2.2.2.2.2 (S, lstObj acc cc) (List.mem_append_right _ (List.mem_cons_self ..)) e.symm
  have gl := fun (kk : Result → Sem PySem.Fin) => gc_loop (k := kk) (c' := .forLoop tg (.ref it) body [] X.env) (l := lv []) (kp := []) (p := p) g rfl rfl
  have ee : ∀ (n : Nat) (s₀ : Shared) (x : Value) (s' : Shared), X.xe x s' → Seg (model X.prog X.w) A R (GY X S) n s₀ (.forLoop tg (.ref it) body [] X.env) (noted X.env x)
      (.ret (fun r => ((match r with | .ok f => (.pure f : Sem Flow) | .error e => .raise e).onRaise (cameBack X.env)).wrap K J gd lv) none (gd false) (lv []) c p [] :: fs) s' := fun n s₀ x s' hx => by
    refine seg_wrap ?_
    rw [(gl _).over]
    refine wpAny_bind (wpAny_mono (hp x s' hx) (fun _ s'' hcb => wpAny_theTreesLotGoes ?_) fun y s'' hcb => ?_)
    · exact seg_leaf (.error x) (seg_cameBack g k hcb)
    · exact seg_leaf (.error y) (seg_cameBack g k hcb)
  have loop : ∀ (m i n : Nat) (ys : List V) (s₀ s : Shared) (σ : L2.St) (H : Hp), n + ys.length = sizeLine → W i m ys σ H → GI X S ip ys σ H s → tn i s.heap → (∀ b ∈ fp, H b = none) →
      Seg (model X.prog X.w) A R (GY X S) n s₀ (.forLoop tg (.ref it) body [] X.env) ((model X.prog X.w).den (.forLoop tg (.ref it) body [] X.env))
        (.ret (fun r => ((match r with | .ok f => (.pure f : Sem Flow) | .error e => .raise e).onRaise (cameBack X.env)).wrap K J gd lv) none (gd false) (lv []) c p [] :: fs) s := by
    intro m
    induction m using Nat.strongRecOn with
    | ind m ih =>
      intro i n ys s₀ s σ H hn w hI st fr
      refine seg_forLoop ?_
      rw [(gl _).over]
      obtain ⟨acc, cc, r, I⟩ := hI
      rcases turn i m ys σ H w with ⟨stop, qn⟩ | ⟨go, N, hN, step⟩
      · refine wpAny_mono (T.done X rfl rfl rfl hc i _ s σ H X.xe I (stat fr) st stop) (fun r' s4 ⟨hr, I4⟩ => ?_) fun x s' hx => ee n s₀ x s' hx
        subst hr
        exact seg_again rfl (seg_leaf (.ok .next) (k.ok n ys s₀ s4 .next hn ⟨σ, H, ⟨acc, cc, r, I4⟩, qn⟩))
      · refine wpAny_mono (T.item X rfl rfl rfl hc i _ s σ H X.xe I (stat fr) st go) (fun r' s4 ⟨u, hr, h4⟩ => ?_) fun x s' hx => ee n s₀ x s' hx
        subst hr
        refine wpAny_mono h4 (fun _ s5 ⟨x, H5, I5, r5, y5, st5, fr5⟩ => ?_) fun x s' hx => ee n s₀ x s' hx
        have I5' := I5.pinned (stat fr5) (T.obj _ _ st5)
        refine wpAny_mono (hg.run _ s5 σ H5 x u _ I5' r5 (step x H5 y5)) (fun _ s6 ⟨σ6, H6, I6, q6⟩ => ?_) fun x s' hx => ee n s₀ x s' hx
        have again : ∀ {ys7 : List V} {σ7 : L2.St} {H7 : Hp} {s7 : Shared} (n7 : Nat) (s₀7 : Shared), n7 + ys7.length = sizeLine → GI X S (ip ++ pinsAt fp s5.heap) ys7 σ7 H7 s7 → N ys7 σ7 H7 →
            Seg (model X.prog X.w) A R (GY X S) n7 s₀7 (.forLoop tg (.ref it) body [] X.env) (.pure (.again (.forLoop tg (.ref it) body [] X.env))) (.ret (fun r => ((match r with | .ok f => (.pure f : Sem Flow) | .error e => .raise e).onRaise (cameBack X.env)).wrap K J gd lv) none (gd false) (lv []) c p [] :: fs) s7 := fun {ys7 σ7 H7 s7} n7 s₀7 hn7 ⟨acc7, cc7, r7, I7⟩ hN7 => by
          obtain ⟨m', hm, w7⟩ := hN ys7 σ7 H7 hN7
          refine seg_again rfl (ih m' hm (i + 1) n7 ys7 s₀7 s7 σ7 H7 hn7 w7 ⟨acc7, cc7, r7, Inv.unpinned (pins := (S, lstObj acc7 cc7) :: ip) I7⟩ (T.keep _ _ _ st5 fun b hb o e => (I7.pin (b, o) (List.mem_append_right _ (List.mem_cons_of_mem _ (List.mem_append_right _ (mem_pinsAt hb e))))).1) fun b hb => ?_)
          obtain ⟨o, e, d⟩ := T.obj _ _ st5 b hb
          exact (I7.pin (b, o) (List.mem_append_right _ (List.mem_cons_of_mem _ (List.mem_append_right _ (mem_pinsAt hb e))))).2.1
        refine hb.run A S (ip ++ pinsAt fp s5.heap) R n ys s₀ _ _ _ _ id id s6 σ6 H6 { D with nx := N, ct := N, bk := D.nx } (gcB (gl _) ?_) hn ⟨fun n' ys' s₀' s3 f hn' hs => ?_, fun n' s₀' x s3 hx => ee n' s₀' x s3 hx⟩ ⟨acc, cc, r, I6⟩ q6
        · intro q hq
          rcases List.mem_append.mp hq with hq | hq
          · exact g.ip q hq
          · exact neS _ (of_pinsAt hq).1
        · cases f with
          | next => obtain ⟨σ3, H3, I3, n3⟩ := hs; exact again n' s₀' hn' I3 n3
          | cont => obtain ⟨σ3, H3, I3, n3⟩ := hs; exact again n' s₀' hn' I3 n3
          | brk => obtain ⟨σ3, H3, ⟨a3, c3, r3, I3⟩, n3⟩ := hs; exact seg_leaf (.ok .next) (k.ok n' ys' s₀' s3 .next hn' ⟨σ3, H3, ⟨a3, c3, r3, Inv.unpinned (pins := (S, lstObj a3 c3) :: ip) I3⟩, n3⟩)
          | ret v => obtain ⟨x3, σ3, H3, ⟨a3, c3, r3, I3⟩, rv3, n3⟩ := hs; exact seg_leaf (.ok (.ret v)) (k.ok n' ys' s₀' s3 (.ret v) hn' ⟨x3, σ3, H3, ⟨a3, c3, r3, Inv.unpinned (pins := (S, lstObj a3 c3) :: ip) I3⟩, rv3, n3⟩)
  exact loop m0 0 n ys s₀ s2 σ H2 hn w0 ⟨acc, cc, r, I2⟩ st2 fun b hb => (f2 b hb).1
end
end Ss
/-! generators whose consumer has several objects of its own (a comprehension: its list and its names), and whose values are known ahead -/
namespace Ss
open PySem PySem.Spec PyProof.Rows L2 GenW
/-- the consumer's own objects: where, and what stands there -/
abbrev Zs := List (Addr × Obj)
/-- while the generator sleeps its consumer changes its own; all else is kept -/
structure Zzz (Z : List Addr) (zs' : Zs) (s s' : Shared) : Prop where
  os : s'.os = s.os
  bare : AllBare s'.gens
  ad : zs'.map (·.1) = Z
  keep : ∀ b o, b ∉ Z → s.heap.get? b = some o → s'.heap.get? b = some o
  own : ∀ p ∈ zs', s'.heap.get? p.1 = some p.2 ∧ ∀ v, p.2.data ≠ .cell v
/-- the consumer's own is younger than the generator's call, none of its frame's -/
def ZApart (X : Cx) (Z : List Addr) : Prop := ∀ b ∈ Z, X.s_0.heap.objs.size ≤ b ∧ b ≠ X.env.locals ∧ b ∉ X.fs ∧ ∀ x c, X.env.cells.lookup x = some c → c ≠ b
abbrev ZI (X : Cx) (zs : Zs) (ip : List (Addr × Obj)) (σ : L2.St) (H : Hp) (s : Shared) : Prop := Inv X (zs ++ ip) σ H s
theorem ZI.woken {X : Cx} {zs zs' : Zs} {ip : List (Addr × Obj)} {σ : L2.St} {H : Hp} {s s' : Shared} (hpn : ∀ p ∈ X.pn, p.1 ∉ zs.map (·.1)) (hip : ∀ p ∈ ip, p.1 ∉ zs.map (·.1)) (hA : ZApart X (zs.map (·.1))) (I : ZI X zs ip σ H s) (z : Zzz (zs.map (·.1)) zs' s s') : ZI X zs' ip σ H s' := by
  have I0 : Inv X ip σ H s := I.pins_of fun p hp => I.pin p (List.mem_append_right _ (List.mem_append_right _ hp))
  have hZ : ∀ b ∈ zs.map (·.1), H b = none := fun b hb => by
    obtain ⟨p, hp, rfl⟩ := List.mem_map.mp hb
    exact (I.pin p (List.mem_append_right _ (List.mem_append_left _ hp))).2.1
  have nt : ∀ b u, H b = some u → b ∉ zs.map (·.1) := fun b u q hb => by rw [hZ b hb] at q; cases q
  obtain ⟨z1, z2, z3, z4, z5⟩ := z
  obtain ⟨hh, g, d, t, o⟩ := s'
  have ho : o = s.os := z1
  subst ho
  have hL : X.env.locals ∉ zs.map (·.1) := fun m => (hA _ m).2.1 rfl
  have J : Inv X ip σ H { s with heap := hh, gens := g, drawn := d, toks := t } := by
    refine I0.step (g' := g) (t' := t) (d' := d) (ch := zs.map (·.1)) (fun b hb => ?_)
      (fun b ob _ _ hc q _ => z4 b ob hc q) (fun b ob _ _ hc q _ => ⟨ob.slots, z4 b ob hc q⟩) (fun _ _ _ _ n => n) (fun b ob hc q => ⟨ob, z4 b ob hc q⟩)
      (fun _ _ q => q) (fun _ _ _ q => q) (fun b ps q => ⟨#[], by rw [q]; simp⟩) (fun m hm => ?_) (fun b u q => ?_) z2
    · obtain ⟨a1, a2, a3, a4⟩ := hA b hb
      refine ⟨.inr a1, a2, a4, fun p hp e => ?_⟩
      rcases List.mem_append.mp hp with hp | hp
      · exact hpn p hp (by rw [e]; exact hb)
      · exact hip p hp (by rw [e]; exact hb)
    · obtain ⟨ob, es, ep, ho, r⟩ := hm
      exact ⟨ob, es, ep, z4 _ ob hL ho, r⟩
    · refine (I0.hok b u q).stay (fun c v hc y => z4 c v ?_ y) (fun _ y => y) fun _ _ y => y
      rcases hc with y | y
      · rw [y]; exact nt b u q
      · exact nt c _ y
  refine J.pins_of fun p hp => ?_
  rcases List.mem_append.mp hp with hp | hp
  · have hb : p.1 ∈ zs.map (·.1) := by rw [← z3]; exact List.mem_map_of_mem hp
    obtain ⟨a1, a2, a3, a4⟩ := hA _ hb
    exact ⟨(z5 p hp).1, hZ _ hb, a2, a3, (z5 p hp).2⟩
  · exact J.pin p (List.mem_append_right _ hp)
/-- what stands there stood so when the generator was woken -/
def ZAt (zs : Zs) (s : Shared) : Prop := ∀ p ∈ zs, s.heap.get? p.1 = some p.2
/-- n of out are still to come; s₀: when it was woken last -/
def ZY (X : Cx) (Z : List Addr) (out : List V) : Protocol := fun n s₀ v s kap =>
  ∃ (zs : Zs) (j : Nat) (x : V) (ip : List (Addr × Obj)) (σ : L2.St) (H : Hp), zs.map (·.1) = Z ∧ ZAt zs s₀ ∧ n + 1 + j = out.length ∧ out[j]? = some x ∧ RelV x v ∧ ZI X zs ip σ H s ∧ ∀ zs' s', Zzz Z zs' s s' → kap (.send .none) s'
def ZR (X : Cx) (Z : List Addr) (Q : VK) (F : Value → Shared → Prop) : GenEnd := fun n s₀ r s => match r with
  | .ok (.ret u) => ∃ (zs : Zs) (v : V) (ip : List (Addr × Obj)) (σ : L2.St) (H : Hp), zs.map (·.1) = Z ∧ ZAt zs s₀ ∧ n = 0 ∧ ZI X zs ip σ H s ∧ RelV v u ∧ Q v H
  | .ok _ => False
  | .error e => F e s
/-- what is wanted behind a statement; the number: how many are out -/
structure ZEnds where
  nx : Nat → L2.St → Hp → Prop
  rt : Nat → VK
  bk : Nat → L2.St → Hp → Prop := fun _ _ _ => False
  ct : Nat → L2.St → Hp → Prop := fun _ _ _ => False
abbrev TZ := ZEnds → Nat → L2.St → Hp → Prop
def ZEnds.at (D : ZEnds) (j : Nat) : Ends := { nx := D.nx j, rt := D.rt j, bk := D.bk j, ct := D.ct j }
def ZSP (X : Cx) (zs : Zs) (ip : List (Addr × Obj)) (D : ZEnds) (j : Nat) (f : Flow) (s : Shared) : Prop := SP X (zs ++ ip) (D.at j) f s
structure ZC (X : Cx) (Z : List Addr) (ip : List (Addr × Obj)) (A : Around) (c : Code) (fs : List Frame) (gd : Bool → Bool) : Prop where
  pn : ∀ p ∈ X.pn, p.1 ∉ Z
  ip : ∀ p ∈ ip, p.1 ∉ Z
  apart : ZApart X Z
  over : A.over c fs = X.A
  split : splitAtGen fs = none
  guard : fs.any Frame.guarded = false
  gd : gd false = false
structure ZK (X : Cx) (Z : List Addr) (out : List V) (ip : List (Addr × Obj)) (A : Around) (R : GenEnd) (c : Code) (fs : List Frame) (K : Flow → Sem PySem.Fin) (J : Value → Sem PySem.Fin) (D : ZEnds) : Prop where
  ok : ∀ (zs : Zs) (n j : Nat) (s₀ s : Shared) (f : Flow), zs.map (·.1) = Z → ZAt zs s₀ → n + j = out.length → ZSP X zs ip D j f s → Seg (model X.prog X.w) A R (ZY X Z out) n s₀ c (K f) fs s
  exc : ∀ (n : Nat) (s₀ : Shared) (e : Value) (s : Shared), X.xe e s → Seg (model X.prog X.w) A R (ZY X Z out) n s₀ c (J e) fs s
def ZRun (X : Cx) (m : Sem Flow) (t : TZ) (out : List V) : Prop :=
  ∀ (A : Around) (Z : List Addr) (zs : Zs) (ip : List (Addr × Obj)) (R : GenEnd) (n j : Nat) (s₀ : Shared) (c : Code) (fs : List Frame) (K : Flow → Sem PySem.Fin) (J : Value → Sem PySem.Fin) (gd : Bool → Bool) (lv : List Value → List Value) (s : Shared) (σ : L2.St) (H : Hp) (D : ZEnds),
    ZC X Z ip A c fs gd → zs.map (·.1) = Z → ZAt zs s₀ → n + j = out.length → ZK X Z out ip A R c fs K J D → ZI X zs ip σ H s → t D j σ H →
    Seg (model X.prog X.w) A R (ZY X Z out) n s₀ c (m.wrap K J gd lv) fs s
structure ZS (X : Cx) (out : List V) (st : Stmt) (t : TZ) : Prop where
  run : ZRun X (exec st X.env) t out
structure ZSs (X : Cx) (out : List V) (st : List Stmt) (t : TZ) : Prop where
  run : ZRun X (execs st X.env) t out
section
variable {X : Cx} {out : List V} {st : Stmt} {rest : List Stmt}
/-- a statement that hands out nothing -/
def tZPlain (t : TS) : TZ := fun D j σ H => t (D.at j) σ H
theorem zs_ps {t : TS} (h : PS X st t) : ZS X out st (tZPlain t) :=
  ⟨fun A Z zs ip R n j s₀ c fs K J gd lv s σ H D g hz hat hn k hI ht => by
    refine seg_wrap ?_
    rw [g.over]
    exact wpAny_mono (h.run _ s σ H (D.at j) hI ht) (fun f s' hs => k.ok zs n j s₀ s' f hz hat hn hs) fun x s' hx => k.exc n s₀ x s' hx⟩
def tZ0 : TZ := fun D j σ H => D.nx j σ H
theorem zss_nil : ZSs X out [] tZ0 := ⟨fun A Z zs ip R n j s₀ c fs K J gd lv s σ H D g hz hat hn k hI ht => seg_execs_nil (k.ok zs n j s₀ s .next hz hat hn ⟨σ, H, hI, ht⟩)⟩
def tZThen (t u : TZ) : TZ := fun D j σ H => t { D with nx := fun j' σ' H' => u D j' σ' H' } j σ H
theorem zss_cons {t u : TZ} (a : ZS X out st t) (b : ZSs X out rest u) : ZSs X out (st :: rest) (tZThen t u) :=
  ⟨fun A Z zs ip R n j s₀ c fs K J gd lv s σ H D g hz hat hn k hI ht => by
    refine seg_execs_cons ?_
    refine a.run A Z zs ip R n j s₀ c fs _ J gd lv s σ H { D with nx := fun j' σ' H' => u D j' σ' H' } g hz hat hn ⟨fun zs' n' j' s₀' s' f hz' hat' hn' hs => ?_, k.exc⟩ hI ht
    cases f with
    | next =>
      obtain ⟨σ', H', I', q⟩ := hs
      exact b.run A Z zs' ip R n' j' s₀' c fs K J gd lv s' σ' H' D g hz' hat' hn' k I' q
    | brk => exact k.ok zs' n' j' s₀' s' .brk hz' hat' hn' hs
    | cont => exact k.ok zs' n' j' s₀' s' .cont hz' hat' hn' hs
    | ret u => exact k.ok zs' n' j' s₀' s' (.ret u) hz' hat' hn' hs⟩
def tZIf (c : TT) (ta tb : TZ) : TZ := fun D j σ H => c σ H fun b H1 => if b = true then ta D j σ H1 else tb D j σ H1
theorem zs_if {test : Expr} {a b : List Stmt} {pos : Pos} {tc : TT} {ta tb : TZ} (hc : PT X test tc) (ha : ZSs X out a ta) (hb : ZSs X out b tb) : ZS X out (.If test a b pos) (tZIf tc ta tb) :=
  ⟨fun A Z zs ip R n j s₀ c fs K J gd lv s σ H D g hz hat hn k hI ht => by
    rw [PySem.exec_If]
    refine seg_bind_wrap (wpAny_standAt ?_)
    refine seg_bind_wrap ?_
    rw [g.over]
    refine wpAny_mono (hc.run _ s σ H _ hI ht) (fun bb s' hb' => ?_) fun x s' hx => k.exc n s₀ x s' hx
    obtain ⟨H2, I2, q2⟩ := hb'
    cases bb with
    | true => exact ha.run A Z zs ip R n j s₀ c fs K J gd lv s' σ H2 D g hz hat hn k I2 q2
    | false => exact hb.run A Z zs ip R n j s₀ c fs K J gd lv s' σ H2 D g hz hat hn k I2 q2⟩
/-- yield e: the next of out -/
def tZYield (out : List V) (te : TE) : TZ := fun D j σ H => j < out.length ∧ te σ H fun x H1 => out[j]? = some x ∧ D.nx (j + 1) σ H1
theorem zs_yield {e : Expr} {yp pos : Pos} {te : TE} (he : PE X e te) (hco : X.env.scope.isCoroutine = false := by rfl) (hi : interactive X.env = false := by rfl) : ZS X out (.Expr (.Yield (some e) yp) pos) (tZYield out te) :=
  ⟨fun A Z zs ip R n j s₀ c fs K J gd lv s σ H D g hz hat hn k hI ht => by
    obtain ⟨lt, ht⟩ := ht
    obtain ⟨n, rfl⟩ : ∃ m, n = m + 1 := ⟨n - 1, by omega⟩
    refine seg_Expr_Yield g.split g.gd g.guard ?_ hco hi
    rw [g.over]
    refine wpAny_mono (he.run _ s σ H _ hI ht) (fun v s' hv => ?_) fun x s' hx => k.exc _ s₀ x s' hx
    obtain ⟨x, H1, I1, rv, ex, q⟩ := hv
    intro kap hk
    refine ⟨zs, j, x, ip, σ, H1, hz, hat, hn, ex, rv, I1, fun zs' s'' z => hk .none s'' ?_⟩
    have hz' : zs'.map (·.1) = Z := z.ad
    rw [← hz] at z
    refine k.ok zs' n (j + 1) s'' s'' .next hz' (fun p hp => (z.own p hp).1) (by omega) ⟨σ, H1, ZI.woken ?_ ?_ ?_ I1 z, q⟩
    · rw [hz]; exact g.pn
    · rw [hz]; exact g.ip
    · rw [hz]; exact g.apart⟩
end
end Ss
/-! for, in the body of such a generator -/
namespace Ss
open PySem PySem.Spec PyProof.Rows L2 GenW
section
variable {X : Cx} {out : List V}
def tZFor (wi : TI) (g : TG) (tb : TZ) : TZ := fun D j σ H => wi σ H fun J H1 => ∃ W : Nat → Nat → Nat → L2.St → Hp → Prop, (∃ m, W 0 m j σ H1) ∧ ∀ i m j σ H, W i m j σ H →
  (J.stop i H ∧ D.nx j σ H) ∨ (J.go i H ∧ ∃ N : Nat → L2.St → Hp → Prop, (∀ j' σ' H', N j' σ' H' → ∃ m', m' < m ∧ W (i + 1) m' j' σ' H') ∧ ∀ x H', J.yld i H x H' → g x σ H' fun σ2 H2 => tb { D with nx := N, ct := N, bk := D.nx } j σ2 H2)
theorem zc_ip {Z : List Addr} {ip ip' : List (Addr × Obj)} {A : Around} {c : Code} {fs : List Frame} {gd : Bool → Bool} (q : ZC X Z ip A c fs gd) (h : ∀ p ∈ ip', p.1 ∉ Z) : ZC X Z ip' A c fs gd := ⟨q.pn, h, q.apart, q.over, q.split, q.guard, q.gd⟩
theorem zc_loop {Z : List Addr} {ip : List (Addr × Obj)} {A : Around} {c c' : Code} {fs : List Frame} {gd : Bool → Bool} {k : Result → Sem PySem.Fin} {l kp : List Value} {p : Pos} (g : ZC X Z ip A c fs gd) (hw : c'.weight = 0) (hu : c'.cUnits = 0) :
    ZC X Z ip A c' (.ret k none (gd false) l c p kp :: fs) id where
  pn := g.pn
  ip := g.ip
  apart := g.apart
  over := (over_loop hw hu).trans g.over
  split := by
    show (splitAtGen fs).map _ = none
    rw [g.split]; rfl
  guard := by
    show (gd false || fs.any Frame.guarded) = false
    rw [g.gd, g.guard]; rfl
  gd := rfl
theorem zseg_back {Z : List Addr} {ip : List (Addr × Obj)} {A : Around} {R : GenEnd} {c : Code} {fs : List Frame} {K : Flow → Sem PySem.Fin} {J : Value → Sem PySem.Fin} {gd : Bool → Bool} {lv : List Value → List Value} {D : ZEnds} {n : Nat} {s₀ s : Shared} {e : Value}
    (g : ZC X Z ip A c fs gd) (k : ZK X Z out ip A R c fs K J D) (h : cameBackBy (model X.prog X.w) X.A X.env X.xe e s) :
    Seg (model X.prog X.w) A R (ZY X Z out) n s₀ c (((Sem.raise e : Sem Flow).onRaise (cameBack X.env)).wrap K J gd lv) fs s := by
  show Seg _ _ _ _ _ _ _ (((cameBack X.env e).bind fun _ => (Sem.raise e : Sem Flow)).wrap K J gd lv) _ _
  rw [Sem.bind_eq_wrap, Sem.wrap_wrap]
  refine seg_wrap ?_
  rw [g.over]
  exact wpAny_mono h (fun _ s' hx => k.exc n s₀ e s' hx) fun x s' hx => k.exc n s₀ x s' hx
theorem sp_unpin {zs : Zs} {ip ip2 : List (Addr × Obj)} {σ : L2.St} {H : Hp} {s : Shared} (I : Inv X (zs ++ (ip ++ ip2)) σ H s) : Inv X (zs ++ ip) σ H s := I.pins_of fun p hp => I.pin p (List.mem_append_right _ (by
  rcases List.mem_append.mp hp with h | h
  · exact List.mem_append_left _ h
  · exact List.mem_append_right _ (List.mem_append_left _ h)))
theorem zs_for {tg iter : Expr} {body : List Stmt} {pos : Pos} {wi : TI} {gt : TG} {tb : TZ} (hp : PassesOwn (model X.prog X.w) X.A X.env X.xe) (hc : X.calm = true) (hi : PI X tg iter wi) (hg : PG X tg gt) (hb : ZSs X out body tb)
    (hs : ∀ x, foldedSetIterable iter X.env x = pure x := by intro _; rfl) : ZS X out (.For tg iter body [] pos) (tZFor wi gt tb) := by
  refine ⟨fun A Z zs ip R n j s₀ c fs K J gd lv s σ H D g hz hat hn k hI ht => ?_⟩
  refine seg_For hs ?_
  rw [g.over]
  refine wpAny_mono (hi.run (zs ++ ip) s σ H _ hI ht) (fun v s1 h1 => wpAny_mono h1 (fun itv s2 h2 p => ?_) (fun x s' hx => k.exc n s₀ x s' hx)) (fun x s' hx => k.exc n s₀ x s' hx)
  obtain ⟨it, fp, tn, Jt, H2, rfl, I2, T, st2, f2, W, ⟨m0, w0⟩, turn⟩ := h2
  have stat : ∀ {zs' : Zs} {H' : Hp}, zs'.map (·.1) = Z → (∀ b ∈ fp, H' b = none) → ∀ b ∈ fp, FpOk X (zs' ++ ip) H' b := fun {zs' H'} hz' hn b hb => by
    obtain ⟨h1, h2, h3, h4, h5, h6⟩ := f2 b hb
    refine ⟨hn b hb, h2, h3, h4, h5, fun p hp => ?_⟩
    rcases List.mem_append.mp hp with hp | hp
    · exact h6 p (List.mem_append_left _ hp)
    · rcases List.mem_append.mp hp with hp | hp
      · have m : p.1 ∈ zs.map (·.1) := by rw [hz, ← hz']; exact List.mem_map_of_mem hp
        obtain ⟨q, hq, e⟩ := List.mem_map.mp m
        rw [← e]
        exact h6 q (List.mem_append_right _ (List.mem_append_left _ hq))
      · exact h6 p (List.mem_append_right _ (List.mem_append_right _ hp))
  have neZ : ∀ b ∈ fp, b ∉ Z := fun b hb m => by
    rw [← hz] at m
    obtain ⟨q, hq, e⟩ := List.mem_map.mp m
    exact (f2 b hb).2.2.2.2.2 q (List.mem_append_right _ (List.mem_append_left _ hq)) e
  have gl := fun (kk : Result → Sem PySem.Fin) => zc_loop (k := kk) (c' := .forLoop tg (.ref it) body [] X.env) (l := lv []) (kp := []) (p := p) g rfl rfl
  have ee : ∀ (n : Nat) (s₀ : Shared) (x : Value) (s' : Shared), X.xe x s' → Seg (model X.prog X.w) A R (ZY X Z out) n s₀ (.forLoop tg (.ref it) body [] X.env) (noted X.env x)
      (.ret (fun r => ((match r with | .ok f => (.pure f : Sem Flow) | .error e => .raise e).onRaise (cameBack X.env)).wrap K J gd lv) none (gd false) (lv []) c p [] :: fs) s' := fun n s₀ x s' hx => by
    refine seg_wrap ?_
    rw [(gl _).over]
    refine wpAny_bind (wpAny_mono (hp x s' hx) (fun _ s'' hcb => wpAny_theTreesLotGoes ?_) fun y s'' hcb => ?_)
    · exact seg_leaf (.error x) (zseg_back g k hcb)
    · exact seg_leaf (.error y) (zseg_back g k hcb)
  have loop : ∀ (m i n j : Nat) (zs : Zs) (s₀ s : Shared) (σ : L2.St) (H : Hp), zs.map (·.1) = Z → ZAt zs s₀ → n + j = out.length → W i m j σ H → ZI X zs ip σ H s → tn i s.heap → (∀ b ∈ fp, H b = none) →
      Seg (model X.prog X.w) A R (ZY X Z out) n s₀ (.forLoop tg (.ref it) body [] X.env) ((model X.prog X.w).den (.forLoop tg (.ref it) body [] X.env))
        (.ret (fun r => ((match r with | .ok f => (.pure f : Sem Flow) | .error e => .raise e).onRaise (cameBack X.env)).wrap K J gd lv) none (gd false) (lv []) c p [] :: fs) s := by
    intro m
    induction m using Nat.strongRecOn with
    | ind m ih =>
      intro i n j zs s₀ s σ H hz hat hn w I st fr
      refine seg_forLoop ?_
      rw [(gl _).over]
      rcases turn i m j σ H w with ⟨stop, qn⟩ | ⟨go, N, hN, step⟩
      · refine wpAny_mono (T.done X rfl rfl rfl hc i _ s σ H X.xe I (stat hz fr) st stop) (fun r' s4 ⟨hr, I4⟩ => ?_) fun x s' hx => ee n s₀ x s' hx
        subst hr
        exact seg_again rfl (seg_leaf (.ok .next) (k.ok zs n j s₀ s4 .next hz hat hn ⟨σ, H, I4, qn⟩))
      · refine wpAny_mono (T.item X rfl rfl rfl hc i _ s σ H X.xe I (stat hz fr) st go) (fun r' s4 ⟨u, hr, h4⟩ => ?_) fun x s' hx => ee n s₀ x s' hx
        subst hr
        refine wpAny_mono h4 (fun _ s5 ⟨x, H5, I5, r5, y5, st5, fr5⟩ => ?_) fun x s' hx => ee n s₀ x s' hx
        have I5' := I5.pinned (stat hz fr5) (T.obj _ _ st5)
        refine wpAny_mono (hg.run _ s5 σ H5 x u _ I5' r5 (step x H5 y5)) (fun _ s6 ⟨σ6, H6, I6, q6⟩ => ?_) fun x s' hx => ee n s₀ x s' hx
        rw [List.append_assoc] at I6
        have again : ∀ {zs7 : Zs} {j7 : Nat} {σ7 : L2.St} {H7 : Hp} {s7 : Shared} (n7 : Nat) (s₀7 : Shared), zs7.map (·.1) = Z → ZAt zs7 s₀7 → n7 + j7 = out.length → ZI X zs7 (ip ++ pinsAt fp s5.heap) σ7 H7 s7 → N j7 σ7 H7 →
            Seg (model X.prog X.w) A R (ZY X Z out) n7 s₀7 (.forLoop tg (.ref it) body [] X.env) (.pure (.again (.forLoop tg (.ref it) body [] X.env))) (.ret (fun r => ((match r with | .ok f => (.pure f : Sem Flow) | .error e => .raise e).onRaise (cameBack X.env)).wrap K J gd lv) none (gd false) (lv []) c p [] :: fs) s7 := fun {zs7 j7 σ7 H7 s7} n7 s₀7 hz7 hat7 hn7 I7 hN7 => by
          obtain ⟨m', hm, w7⟩ := hN j7 σ7 H7 hN7
          refine seg_again rfl (ih m' hm (i + 1) n7 j7 zs7 s₀7 s7 σ7 H7 hz7 hat7 hn7 w7 (sp_unpin I7) (T.keep _ _ _ st5 fun b hb o e => (I7.pin (b, o) (List.mem_append_right _ (List.mem_append_right _ (List.mem_append_right _ (mem_pinsAt hb e))))).1) fun b hb => ?_)
          obtain ⟨o, e, d⟩ := T.obj _ _ st5 b hb
          exact (I7.pin (b, o) (List.mem_append_right _ (List.mem_append_right _ (List.mem_append_right _ (mem_pinsAt hb e))))).2.1
        refine hb.run A Z zs (ip ++ pinsAt fp s5.heap) R n j s₀ _ _ _ _ id id s6 σ6 H6 { D with nx := N, ct := N, bk := D.nx } (zc_ip (gl _) ?_) hz hat hn ⟨fun zs' n' j' s₀' s3 f hz' hat' hn' hs => ?_, fun n' s₀' x s3 hx => ee n' s₀' x s3 hx⟩ I6 q6
        · intro q hq
          rcases List.mem_append.mp hq with hq | hq
          · exact g.ip q hq
          · exact neZ _ (of_pinsAt hq).1
        · cases f with
          | next => obtain ⟨σ3, H3, I3, n3⟩ := hs; exact again n' s₀' hz' hat' hn' I3 n3
          | cont => obtain ⟨σ3, H3, I3, n3⟩ := hs; exact again n' s₀' hz' hat' hn' I3 n3
          | brk => obtain ⟨σ3, H3, I3, n3⟩ := hs; exact seg_leaf (.ok .next) (k.ok zs' n' j' s₀' s3 .next hz' hat' hn' ⟨σ3, H3, sp_unpin I3, n3⟩)
          | ret v => obtain ⟨x3, σ3, H3, I3, rv3, n3⟩ := hs; exact seg_leaf (.ok (.ret v)) (k.ok zs' n' j' s₀' s3 (.ret v) hz' hat' hn' ⟨x3, σ3, H3, sp_unpin I3, rv3, n3⟩)
  exact loop m0 0 n j zs s₀ s2 σ H2 hz hat hn w0 I2 st2 fun b hb => (f2 b hb).1
end
end Ss
/-! a generator def whose values are known ahead, by its body -/
namespace Ss
open PySem PySem.Spec PyProof.Rows L2 GenW
/-- arguments, heap, what is handed out, what is wanted of the heap at the end -/
abbrev SpZ := List V → Hp → List V → (Hp → Prop) → XK → Prop
def ZREnd (P : Program) (w : World) (outer : List Env) (H : Hp) (s : Shared) (Z : List Addr) (a : Addr) (g : Nat) (Q : Hp → Prop) (E : XK) : GenEnd := fun n s₀ r s1 =>
  ((r = .ok (.ret .none) ∨ r = .ok .next) ∧ n = 0 ∧ ∃ H', s1.os = s.os ∧ AllBare s1.gens ∧ Un (frs outer) [] H H' s.heap s1.heap ∧ HOk P w H' s1.heap ∧ (∀ b ∈ Z, H' b = none ∧ s1.heap.get? b = s₀.heap.get? b) ∧ Q H') ∨
  ∃ e, r = .error e ∧ CX P w outer H s E e s1 ∧ s1.heap.IsGen a g
def ZYItem (s : Shared) (Z : List Addr) (a : Addr) (g : Nat) (out : List V) : Protocol := fun n s₀ v s1 kap =>
  s1.os = s.os ∧ AllBare s1.gens ∧ s1.heap.NoLimit ∧ s1.heap.IsGen a g ∧ (∀ b ∈ Z, s1.heap.get? b = s₀.heap.get? b) ∧ (∃ j x, n + 1 + j = out.length ∧ out[j]? = some x ∧ RelV x v) ∧ ∀ zs' s', Zzz Z zs' s1 s' → kap (.send .none) s'
/-- what a call gives: a generator that has not begun -/
def ZMade (P : Program) (w : World) (k : Nat) (outer : List Env) (H : Hp) (s : Shared) (out : List V) (Q : Hp → Prop) (E : XK) (u : Value) (s' : Shared) : Prop :=
  ∃ (a : Addr) (g : Nat) (c : Code), u = .ref a ∧ s.heap.objs.size ≤ a ∧ a < s'.heap.objs.size ∧ s'.heap.IsGen a g ∧ s'.gens[g]? = some (.fresh c) ∧ s'.os = s.os ∧ AllBare s'.gens ∧ s'.heap.NoLimit ∧ (∀ b o, s.heap.get? b = some o → s'.heap.get? b = some o) ∧
    ∀ (A : Around) (zs : Zs) (s2 : Shared), Room k A → A.frames = some outer → (∀ p ∈ zs, s'.heap.objs.size ≤ p.1 ∧ ∀ v, p.2.data ≠ .cell v) → (∀ b o, s'.heap.get? b = some o → s2.heap.get? b = some o) → ZAt zs s2 → s2.os = s.os → AllBare s2.gens →
      Seg (model P w) A (ZREnd P w outer H s (zs.map (·.1)) a g Q E) (ZYItem s (zs.map (·.1)) a g out) out.length s2 c ((model P w).den c) [] s2
structure ZFn (P : Program) (w : World) (K : PySem.W.Frag) (mg : Str → Option Value) (base : Heap) (k : Nat) (f : Addr) (fd : FuncData) (ps : List Str) (sp : SpZ) : Prop where
  len : ∀ vs H out Q E, sp vs H out Q E → vs.length = ps.length
  run : ∀ (A : Around) (outer : List Env) (s : Shared) (H : Hp) (args : Args) (us : List Value) (vs : List V) (out : List V) (Q : Hp → Prop) (E : XK), Room k A → Env0 P w K mg base A outer s H → BindsTo s fd args (ps.zip us) → Vals vs us → sp vs H out Q E →
    codeAny (model P w) A (.call (.ref f) args) (fun r s' => match r with | .ok (.ret u) => ZMade P w k outer H s out Q E u s' | _ => False) s
theorem zfn_of {P : Program} {w : World} {K : PySem.W.Frag} {mg : Str → Option Value} {base : Heap} {k : Nat} {f : Addr} {name qual : Str} {params : Arguments} {body : List Stmt} {scope : Scope} {dV kV doc pm cdv ct oc : Value} {an od : Option Addr}
    {osl : Array (Option Value)} {N ps : List Str} {sp : SpZ} (lk : K.lookup f = some ⟨oc, od, .func (PySem.W.fnOf name qual params body scope dV kV doc pm an cdv ct), osl⟩) (hcd : PySem.W.codeIn K cdv qual = true) (S : GScope N ps scope)
    (len : ∀ vs H out Q E, sp vs H out Q E → vs.length = ps.length)
    (hbody : ∀ (A : Around) (outer : List Env) (s : Shared) (H : Hp) (vs out : List V) (Q : Hp → Prop) (E : XK) (pn : List (Addr × Obj)), Room k (A.deeper (envOfC qual scope s.heap.objs.size f cdv)) → sp vs H out Q E →
      ∃ t, ZSs (gcxOf P w K mg base N qual scope f cdv A outer s H E pn) out body t ∧ t { nx := fun j _ H' => j = out.length ∧ Q H', rt := fun j v H' => v = .non ∧ j = out.length ∧ Q H' } 0 (start N vs) H) :
    ZFn P w K mg base (k + 1) f (PySem.W.fnOf name qual params body scope dV kV doc pm an cdv ct) ps sp := by
  refine ⟨len, fun A outer s H args us vs out Q E hr e0 hb r hsp => ?_⟩
  have hl := len _ _ _ _ _ hsp
  have KX : K.In s.heap := e0.mod.kin.keeps fun b o e => (e0.bs b o e).1
  have lim : s.heap.NoLimit := e0.mod.nolimit.keeps fun b o e => (e0.bs b o e).1
  have hkind : ∀ y ∈ ps.zip us, scope.names.lookup y.1 = some .local ∨ (scope.names.lookup y.1 = some .cell ∧ ((cellsFrom (s.heap.objs.size + 1) scope.names []).lookup y.1).isSome = true) := fun ⟨n, v⟩ hy => by
    rcases S.par n (List.of_mem_zip hy).1 with q | q
    · exact .inl q
    · exact .inr ⟨q, PySem.W.cellsFrom_some _ _ _ (.inl q)⟩
  refine codeAny_call_generator hr.depth (KX _ _ lk) rfl S.co S.gen rfl (PySem.W.codeRec_of KX hcd) (hb _ _ _ _ ?_)
  refine wpAny_newFunctionEnv_cells S.kind hkind fun env he s1 x => ?_
  subst he
  have lim1 : s1.heap.NoLimit := lim.keeps x.toInCall.keep
  refine ⟨lim1, ?_⟩
  obtain ⟨h1, tk, es1, hk1⟩ := x.done
  have os1 : s1.os = s.os := by rw [es1]
  have gen1 : s1.gens = s.gens := by rw [es1]
  have lt1 : s.heap.objs.size < s1.heap.objs.size := x.toInCall.ns.lt
  have sz1 : s.heap.objs.size ≤ s1.heap.objs.size := Nat.le_of_lt lt1
  have kp1 : ∀ b o, s.heap.get? b = some o → s1.heap.get? b = some o := x.toInCall.keep
  have main : ∀ (go : Obj) (nm qn : Value) (tk2 : Nat), go.cls = .type "generator" → go.data = .fields #[.int s1.gens.size 0, nm, qn] → go.slots = #[] → (∀ h : Heap, (h.push go).get? h.objs.size = some go) →
      ZMade P w (k + 1) outer H s out Q E (.ref s1.heap.objs.size) { s1 with gens := s1.gens.push (.fresh (.func body (envOfC qual scope s.heap.objs.size f cdv))), toks := tk2, heap := s1.heap.push go } := by
    intro go nm qn tk2 hgc hgd0 hgs hgp
    have hgen : ∀ h : Heap, h.get? s1.heap.objs.size = some go → h.IsGen s1.heap.objs.size s1.gens.size := fun h e => ⟨go, nm, qn, e, hgc, hgd0, hgs⟩
    have hpushed : (s1.heap.push go).get? s1.heap.objs.size = some go := hgp _
    refine ⟨s1.heap.objs.size, s1.gens.size, _, rfl, sz1, ?_, hgen _ hpushed, Array.getElem?_push_size .., os1, ?_, lim1.keeps fun b o e => Heap.get?_push_of_some _ e, fun b o e => Heap.get?_push_of_some _ (kp1 b o e), ?_⟩
    · show _ < (s1.heap.push _).objs.size
      rw [Heap.size_push]; exact Nat.lt_succ_self _
    · exact AllBare.push (by rw [gen1]; exact e0.bare) rfl
    intro Aw zs s2 hrw hfr hzs hk2 hat hos hba
    have e0w : Env0 P w K mg base Aw outer s H := ⟨hfr, e0.mod, e0.bs, e0.bsz, e0.funs, e0.frf, e0.hok, e0.bare⟩
    obtain ⟨t, ht, hq⟩ := hbody Aw outer s H vs out Q E [(s1.heap.objs.size, go)] (hrw.deeper _) hsp
    have I1 : Inv (gcxOf P w K mg base N qual scope f cdv Aw outer s H E []) [] (start N vs) H s1 := inv_startG S hrw.hd e0w hl r x
    have kp2 : ∀ b o, s1.heap.get? b = some o → s2.heap.get? b = some o := fun b o e => hk2 b o (Heap.get?_push_of_some _ e)
    have I2 : Inv (gcxOf P w K mg base N qual scope f cdv Aw outer s H E []) [] (start N vs) H s2 :=
      I1.call' (ch := []) (hos.trans os1.symm) (Un.kept kp2) (I1.hok.kept kp2) hba fun b z => by simp at z
    have zlt : ∀ p ∈ zs, s1.heap.objs.size < p.1 := fun p hp => by
      have h : (s1.heap.push go).objs.size ≤ p.1 := (hzs p hp).1
      rw [Heap.size_push] at h
      exact h
    have hea : s2.heap.get? s1.heap.objs.size = some go := hk2 s1.heap.objs.size go hpushed
    have hgd : ∀ v, go.data ≠ .cell v := fun v q => by rw [hgd0] at q; cases q
    have young : ∀ b, s1.heap.objs.size ≤ b → H b = none ∧ b ≠ s.heap.objs.size ∧ b ∉ frs outer ∧ s.heap.objs.size ≤ b ∧ ∀ y c, (cellsFrom (s.heap.objs.size + 1) scope.names []).lookup y = some c → c ≠ b := fun b hb => by
      refine ⟨I1.hok.fresh hb, Nat.ne_of_gt (Nat.lt_of_lt_of_le lt1 hb), I1.nofs hb, Nat.le_trans sz1 hb, fun y c e z => ?_⟩
      obtain ⟨v, ob, ho, _⟩ := I1.cell y c e
      have := Heap.lt_size ho
      rw [z] at this
      exact absurd (Nat.lt_of_lt_of_le this hb) (Nat.lt_irrefl _)
    have hG : ZI (gcxOf P w K mg base N qual scope f cdv Aw outer s H E [(s1.heap.objs.size, go)]) zs [] (start N vs) H s2 := by
      refine Inv.pinnedG I2 fun p hp => ?_
      rcases List.mem_append.mp hp with z | z
      · rw [List.mem_singleton.mp z]
        obtain ⟨y1, y2, y3, _, _⟩ := young s1.heap.objs.size (Nat.le_refl _)
        exact ⟨hea, y1, y2, y3, hgd⟩
      · rw [List.append_nil] at z
        obtain ⟨y1, y2, y3, _, _⟩ := young p.1 (Nat.le_of_lt (zlt p z))
        exact ⟨hat p z, y1, y2, y3, (hzs p z).2⟩
    have hAp : ZApart (gcxOf P w K mg base N qual scope f cdv Aw outer s H E [(s1.heap.objs.size, go)]) (zs.map (·.1)) := fun b hb => by
      obtain ⟨p, hp, rfl⟩ := List.mem_map.mp hb
      obtain ⟨_, y2, y3, y4, y5⟩ := young p.1 (Nat.le_of_lt (zlt p hp))
      exact ⟨y4, y2, y3, y5⟩
    have hpn : ∀ p ∈ [(s1.heap.objs.size, go)], p.1 ∉ zs.map (·.1) := fun p hp m => by
      rw [List.mem_singleton.mp hp] at m
      obtain ⟨q, hq, e⟩ := List.mem_map.mp m
      have := zlt q hq
      rw [e] at this
      exact absurd this (Nat.lt_irrefl _)
    have pinned : ∀ {zs' : Zs} {ip : List (Addr × Obj)} {s' : Shared} {σ' : L2.St} {H' : Hp}, ZI (gcxOf P w K mg base N qual scope f cdv Aw outer s H E [(s1.heap.objs.size, go)]) zs' ip σ' H' s' → s'.heap.IsGen s1.heap.objs.size s1.gens.size := fun {zs' ip s' σ' H'} J =>
      hgen _ (J.pin (s1.heap.objs.size, go) (List.mem_append_left _ (List.mem_singleton.mpr rfl))).1
    have stood : ∀ {zs' : Zs} {ip : List (Addr × Obj)} {s₀ s' : Shared} {σ' : L2.St} {H' : Hp}, ZI (gcxOf P w K mg base N qual scope f cdv Aw outer s H E [(s1.heap.objs.size, go)]) zs' ip σ' H' s' → zs'.map (·.1) = zs.map (·.1) → ZAt zs' s₀ → ∀ b ∈ zs.map (·.1), H' b = none ∧ s'.heap.get? b = s₀.heap.get? b := fun {zs' ip s₀ s' σ' H'} J hz ha b hb => by
      rw [← hz] at hb
      obtain ⟨p, hp, rfl⟩ := List.mem_map.mp hb
      have h := J.pin p (List.mem_append_right _ (List.mem_append_left _ hp))
      exact ⟨h.2.1, h.1.trans (ha p hp).symm⟩
    refine seg_func ?_
    refine seg_imp (R := ZR (gcxOf P w K mg base N qual scope f cdv Aw outer s H E [(s1.heap.objs.size, go)]) (zs.map (·.1)) (fun v H' => v = .non ∧ Q H') fun e s' => CX P w outer H s E e s' ∧ ∀ p ∈ [(s1.heap.objs.size, go)], s'.heap.get? p.1 = some p.2)
      (Y := ZY (gcxOf P w K mg base N qual scope f cdv Aw outer s H E [(s1.heap.objs.size, go)]) (zs.map (·.1)) out) (fun n s₀ r s1' hR => ?_) (fun n s₀ v s1' kap kap' hkk hY => ?_) out.length ?_
    · cases r with
      | error e =>
        obtain ⟨q1, q2⟩ := hR
        exact .inr ⟨e, rfl, q1, hgen _ (q2 (s1.heap.objs.size, go) (List.mem_singleton.mpr rfl))⟩
      | ok fl =>
        cases fl with
        | next => exact False.elim hR
        | brk => exact False.elim hR
        | cont => exact False.elim hR
        | ret u =>
          obtain ⟨zs', v, ip, σ', H', hz, ha, hn, J, rv, ev, hQ⟩ := hR
          subst ev
          have eu : u = Value.none := rv
          subst eu
          exact .inl ⟨.inl rfl, hn, H', J.os, J.bare, J.base, J.hok, stood J hz ha, hQ⟩
    · obtain ⟨zs', j, xx, ip, σ', H', hz, ha, hn, ho, h2, J, h3⟩ := hY
      exact ⟨J.os, J.bare, J.nolimit, pinned J, fun b hb => (stood J hz ha b hb).2, ⟨j, xx, hn, ho, h2⟩, fun zs'' s' z => hkk _ _ (h3 zs'' s' z)⟩
    · refine ht.run Aw (List.map (fun p : Addr × Obj => p.1) zs) zs [] _ out.length 0 s2 _ [] _ _ id id s2 (start N vs) H _ ⟨hpn, fun p hp => (by simp at hp), hAp, over_func, rfl, rfl, rfl⟩ rfl hat (Nat.add_zero _) ⟨fun zs' n j s₀ s' fl hz ha hn hs => ?_, fun n s₀ e s' hx => ?_⟩ hG hq
      · cases fl with
        | next =>
          obtain ⟨σ', H', J, hj, hQ⟩ := hs
          exact seg_end (.ok (.ret .none)) ⟨zs', .non, [], σ', H', hz, ha, by omega, J, rfl, rfl, hQ⟩
        | brk => obtain ⟨_, _, _, q⟩ := hs; exact False.elim q
        | cont => obtain ⟨_, _, _, q⟩ := hs; exact False.elim q
        | ret u =>
          obtain ⟨v, σ', H', J, rv, ev, hj, hQ⟩ := hs
          exact seg_end (.ok (.ret u)) ⟨zs', v, [], σ', H', hz, ha, by omega, J, rv, ev, hQ⟩
      · refine seg_wrap ?_
        rw [over_func]
        refine wpAny_mono (show wpAny (model P w) (Aw.deeper (envOfC qual scope s.heap.objs.size f cdv)) (leaving (envOfC qual scope s.heap.objs.size f cdv) e) (fun _ s'' => CX P w outer H s E e s'' ∧ ∀ p ∈ [(s1.heap.objs.size, go)], s''.heap.get? p.1 = some p.2) (fun _ _ => False) s' from hx) (fun _ s'' q => ?_) fun _ s'' q => q.elim
        exact seg_end (.error e) q
  exact main _ _ _ _ rfl rfl rfl fun h => Heap.get?_push_size _ rfl
end Ss
/-! [x for x in g], g such a generator -/
namespace Ss
open PySem PySem.Spec PyProof.Rows L2 GenW
/-- an expression whose value is such a generator: what it will hand out, what is wanted of the heap at its end -/
abbrev TZg := L2.St → Hp → List V → (Hp → Prop) → Prop
structure PZ (X : Cx) (k : Nat) (e : Expr) (tg : TZg) : Prop where
  run : ∀ (pins : List (Addr × Obj)) (s : Shared) (σ : L2.St) (H : Hp) (out : List V) (cont : Hp → Prop), Inv X pins σ H s → tg σ H out cont → wpAny (model X.prog X.w) X.A (eval e X.env)
    (fun u s' => ∃ H1 sc, Inv X pins σ H1 sc ∧ ZMade X.prog X.w k X.stack H1 sc out cont (fun _ _ _ => False) u s') X.xe s
def tLcZ (tg : TZg) : TE := fun σ H Q => ∃ out, out.length ≤ 30000 ∧ tg σ H out fun H2 => ∀ p, H2 p = none → Q (.ref p) (upd H2 p (.lst out))
theorem ns_obj {h h' : Heap} {C : Addr} {m : Str → Option Value} {o : Obj} (n : h.Ns C m) (e : h.get? C = some o) (e' : h'.get? C = some o) : h'.Ns C m := by
  obtain ⟨o1, es, ep, e1, r⟩ := n
  rw [e] at e1
  cases e1
  exact ⟨_, es, ep, e', r⟩
theorem lookup_rel {scope : Scope} {env : Env} {x : Str} (h : scope.names.lookup x = some .local) {cl : List (Str × Addr)} {C : Addr} : (compEnvC scope cl C env).kindOf x = some .local := lookup_relabel_local h
section
variable {X : Cx}
theorem pe_lcZ {k : Nat} {x : Str} {iter : Expr} {p1 p2 : Pos} {scope : Scope} {own : List (Str × Nat)} {pos : Pos} {tg : TZg} (hN : X.N.Nodup) (hi : PZ X k iter tg) (hr : Room (k + 3) X.A) (ok : BlkOk X.N X.env.scope scope own) (hx : scope.names.lookup x = some .local)
    (hdb : (x == ("__debug__" : Str)) = false := by decide) (hs : ∀ x, foldedSetIterable iter X.env x = pure x := by intro _; rfl) :
    PE X (.ListComp (.Name x p1) [⟨.Name x p2, iter, [], 0⟩] scope pos) (tLcZ tg) := by
  refine ⟨fun pins s σ H Q I ⟨out, hout, h⟩ => ?_⟩
  rw [eval_ListComp]
  have hfree : ∀ y ∈ scope.names, y.2 = .free → ∃ c, X.env.cells.lookup y.1 = some c := fun y hy e => by
    rcases ok.free y hy e with k | k
    · exact I.ok.has _ (.inl k)
    · exact I.ok.has _ (.inr k)
  refine wpAny_comprehension_free (use := none) rfl hs (closure_ok hfree) ok.kind (fun y hy e => by rw [ok.uniq y hy, e])
    (thn (hi.run pins s σ H out _ I h) fun xv s1 ⟨H1, sc, I1, hG⟩ => ?_)
  obtain ⟨a, g, c, rfl, ha1, ha2, hg, hgs, hos, hb, hl, hkp, wake⟩ := hG
  refine wpAny_pyIter_gen hg ?_
  refine wpAny_newObj_type (newEnv_comp ?_) (by show 0 ≤ sizeLine; decide)
  generalize hD : s1.heap.objs.size = D
  generalize hs3 : ({ s1 with heap := s1.heap.push { cls := .type "list", data := .seq ([] : List Value).toArray } } : Shared) = s3
  have h3 : s3.heap = s1.heap.push { cls := .type "list", data := .seq ([] : List Value).toArray } := by rw [← hs3]
  generalize hC : s3.heap.objs.size = C
  have sz3 : s3.heap.objs.size = s1.heap.objs.size + 1 := by rw [h3, Heap.size_push]
  have eD3 : s3.heap.get? D = some (lstObj #[] 0) := by rw [h3, ← hD]; exact Heap.get?_push_size _ rfl
  generalize hs4 : ({ s3 with heap := pushCells (s3.heap.push { cls := .type "dict", data := .dict #[] }) scope.names } : Shared) = s4
  have h4 : s4.heap = pushCells (s3.heap.push { cls := .type "dict", data := .dict #[] }) scope.names := by rw [← hs4]
  have k34 : ∀ b o, s3.heap.get? b = some o → s4.heap.get? b = some o := fun b o e => by rw [h4]; exact pushCells_keeps _ _ _ _ (Heap.get?_push_of_some _ e)
  have k14 : ∀ b o, s1.heap.get? b = some o → s4.heap.get? b = some o := fun b o e => k34 b o (by rw [h3]; exact Heap.get?_push_of_some _ e)
  have eC4 : s4.heap.get? C = some { cls := .type "dict", data := .dict #[] } := by rw [h4, ← hC]; exact pushCells_keeps _ _ _ _ (Heap.get?_push_size _ rfl)
  have nC4 : s4.heap.Ns C (fun _ => none) := ⟨_, _, _, eC4, rfl, (by intro e he; simp at he), fun name => by first | rfl | simp [nsFind]⟩
  have hDC : D ≠ C := by rw [← hC, sz3, ← hD]; exact Nat.ne_of_lt (Nat.lt_succ_self _)
  have haD : a ≠ D := by rw [← hD]; exact Nat.ne_of_lt ha2
  have haC : a ≠ C := by rw [← hC, sz3]; exact Nat.ne_of_lt (Nat.lt_succ_of_lt ha2)
  have big : ∀ {y : Addr}, (∃ o, s1.heap.get? y = some o) → y ≠ D ∧ y ≠ C := fun {y} ⟨o, e⟩ => by
    have := Heap.lt_size e
    exact ⟨by rw [← hD]; exact Nat.ne_of_lt this, by rw [← hC, sz3]; exact Nat.ne_of_lt (Nat.lt_succ_of_lt this)⟩
  have hSt := big (y := cStatics) (let ⟨_, ⟨o, _, _, e, _⟩, _⟩ := hl; ⟨o, e⟩)
  have hos4 : s4.os = sc.os := by rw [← hs4, ← hs3]; exact hos
  have hb4 : AllBare s4.gens := by rw [← hs4, ← hs3]; exact hb
  have hg4 : s4.gens = s1.gens := by rw [← hs4, ← hs3]
  show codeAny _ _ (.compStart (.ListComp (.Name x p1) [⟨.Name x p2, iter, [], 0⟩] scope pos) 0 (.ref a) (.ref D) (compEnvC scope (cellsFrom (C + 1) scope.names (cloFrom X.env.cells scope.names [])) C X.env)) (compPost (model X.prog X.w) X.A X.xe none (EP X pins σ Q) (.ref D) C) s4
  generalize hce : compEnvC scope (cellsFrom (C + 1) scope.names (cloFrom X.env.cells scope.names [])) C X.env = ce
  have cL : ce.locals = C := by subst hce; rfl
  have ck : ce.kindOf x = some .local := by subst hce; exact lookup_rel hx
  have cfk : ce.scope.kind = .function := by subst hce; exact ok.kind
  have zadr : ([(D, lstObj #[] 0), (C, ({ cls := .type "dict", data := .dict #[] } : Obj))] : Zs).map (·.1) = [D, C] := rfl
  have frm : X.A.in1.frames = some X.stack := I1.ok.frames
  have first : ∀ s2 : Shared, s2.heap = s4.heap → s2.os = s4.os → AllBare s2.gens → (GenState.fresh c).Goes (model X.prog X.w) X.A.in1 (ZREnd X.prog X.w X.stack H1 sc [D, C] a g _ (fun _ _ _ => False)) (ZYItem sc [D, C] a g out) out.length (.send .none) s2 := fun s2 hh ho hbb => by
    refine ⟨rfl, ?_⟩
    have z := wake X.A.in1 [(D, lstObj #[] 0), (C, { cls := .type "dict", data := .dict #[] })] s2 ⟨hr.hd, ?_, ?_⟩ frm (fun p hp => ?_) (fun b o e => by rw [hh]; exact k14 b o e) (fun p hp => ?_) (ho.trans hos4) hbb
    · exact z
    · have := hr.dp
      show X.A.depth + 3 * k + 5 < _
      omega
    · have := hr.un
      show X.A.units + 1 + 16 * k + 200 < _
      omega
    · simp only [List.mem_cons, List.not_mem_nil, or_false] at hp
      rcases hp with rfl | rfl
      · exact ⟨Nat.le_of_eq hD, fun v q => by cases q⟩
      · exact ⟨by show _ ≤ C; rw [← hC, sz3]; exact Nat.le_succ _, fun v q => by cases q⟩
    · rw [hh]
      simp only [List.mem_cons, List.not_mem_nil, or_false] at hp
      rcases hp with rfl | rfl
      · exact k34 _ _ eD3
      · exact eC4
  have loop : codeAny (model X.prog X.w) X.A (.compLoop (.ListComp (.Name x p1) [⟨.Name x p2, iter, [], 0⟩] scope pos) 0 (.ref a) (.ref D) ce) (compPost (model X.prog X.w) X.A X.xe none (EP X pins σ Q) (.ref D) C) s4 := by
    refine compLoop_any (fun n s' => ∃ (j : Nat) (acc : Array Value) (cc : Nat) (oC : Obj) (m : Str → Option Value) (gs : GenState), n + j = out.length ∧ s'.heap.get? D = some (lstObj acc cc) ∧ Vals (out.take j) acc.toList ∧ s'.heap.get? C = some oC ∧ s'.heap.Ns C m ∧ s'.heap.IsGen a g ∧ s'.heap.NoLimit ∧ s'.gens[g]? = some gs ∧
      gs.Goes (model X.prog X.w) X.A.in1 (ZREnd X.prog X.w X.stack H1 sc [D, C] a g _ (fun _ _ _ => False)) (ZYItem sc [D, C] a g out) n (.send .none) (s'.setGen g .running)) ?_ out.length
      ⟨0, #[], 0, _, _, .fresh c, Nat.add_zero _, k34 _ _ eD3, by rw [List.take_zero]; exact .nil, eC4, nC4, hg.keeps k14, hl.keeps k14, by rw [hg4]; exact hgs, first _ rfl rfl (allBare_setGen hb4 rfl)⟩
    rintro n s5 ⟨j, acc, cc, oC, m, gs, hn, eD, hv, eC, nC, hgA, hlA, hgs5, hgo⟩
    have hgl : g < s5.gens.size := (Array.getElem?_eq_some_iff.mp hgs5).1
    refine wpAny_gsz (n := g + 1) hgl (next_genG (A := X.A) hr.hd hlA (by have := hr.dp; omega) hgA hgs5
      (F := fun n s₀ s1 => n = 0 ∧ ∃ H', s1.os = sc.os ∧ AllBare s1.gens ∧ Un (frs X.stack) [] H1 H' sc.heap s1.heap ∧ HOk X.prog X.w H' s1.heap ∧ (∀ b ∈ [D, C], H' b = none ∧ s1.heap.get? b = s₀.heap.get? b) ∧ _)
      (Er := fun e s1 => CX X.prog X.w X.stack H1 sc (fun _ _ _ => False) e s1 ∧ s1.heap.IsGen a g) hgo (fun v s₁ gs' hbare hY => ?_) (fun s₁ hp h' hk => ?_) fun e s₁ he => ?_)
    · intro hsz
      obtain ⟨os1, hb1, hl1, hg1, hZ, ⟨j', xv, hj', ho', rv⟩, hk⟩ := hY
      have eD1 : s₁.heap.get? D = some (lstObj acc cc) := (hZ D List.mem_cons_self).trans eD
      have eC1 : s₁.heap.get? C = some oC := (hZ C (List.mem_cons_of_mem _ List.mem_cons_self)).trans eC
      have hcd : ∀ v, oC.data ≠ .cell v := fun v q => by
        obtain ⟨o1, es, ep, e1, d1, _⟩ := nC
        rw [eC] at e1
        cases e1
        rw [d1] at q
        cases q
      cases n with
      | zero =>
        refine False.elim (hk [(D, lstObj acc cc), (C, oC)] s₁ ⟨rfl, hb1, rfl, fun _ _ _ e => e, fun p hp => ?_⟩)
        simp only [List.mem_cons, List.not_mem_nil, or_false] at hp
        rcases hp with rfl | rfl
        · exact ⟨eD1, fun v q => by cases q⟩
        · exact ⟨eC1, hcd⟩
      | succ n =>
        have ej : j' = j := by omega
        subst ej
        refine wpAny_pure ?_
        have nC1 : (s₁.setGen g gs').heap.Ns ce.locals m := by rw [cL]; exact ns_obj nC eC eC1
        refine wpAny_assign_Name (wpAny_storeName_local ck nC1 (fun h2 n2 sb2 => ?_) (by rw [cfk]; rfl))
        rw [cL] at n2 sb2
        refine wpAny_tests_nil ?_
        rw [if_pos rfl]
        refine wpAny_Name (wpAny_loadName_local (v := v) cfk ck (m := fun y => if y = x then some v else m y) (by rw [cL]; exact n2) (by rw [if_pos rfl]) ?_) hdb
        have eD2 : h2.get? D = some (lstObj acc cc) := (sb2.2 D hDC).trans eD1
        have hl0 : (out.take j').length = acc.size := by rw [hv.length, Array.length_toList]
        have hacc : acc.size ≤ sizeLine := by
          rw [← hl0, List.length_take]
          exact Nat.le_trans (Nat.min_le_right _ _) (Nat.le_trans hout (by decide))
        refine wpAny_list_append_plain (items := acc) ⟨cc, eD2⟩ (fun h3' pl3 sb3 => ?_) hacc
        obtain ⟨c3, eD3'⟩ := pl3
        obtain ⟨oC2, es2, ep2, eC2, dC2, _⟩ := id n2
        have eC3 : h3'.get? C = some oC2 := (sb3.2 C hDC.symm).trans eC2
        have keep : ∀ b o, b ∉ [D, C] → s₁.heap.get? b = some o → h3'.get? b = some o := fun b o hb e => by
          have n1 : b ≠ D := fun z => hb (by rw [z]; exact List.mem_cons_self)
          have n2 : b ≠ C := fun z => hb (by rw [z]; exact List.mem_cons_of_mem _ List.mem_cons_self)
          exact (sb3.2 b n1).trans ((sb2.2 b n2).trans e)
        have hsz1 : g < s₁.gens.size := by
          have q : (s₁.setGen g gs').gens.size = s₁.gens.size := setGen_size _ _ _
          omega
        have nab : ∀ {y : Addr}, y ≠ D → y ≠ C → y ∉ [D, C] := fun {y} n1 n2 hm => by
          simp only [List.mem_cons, List.not_mem_nil, or_false] at hm
          exact hm.elim n1 n2
        refine ⟨n, Nat.lt_succ_self n, j' + 1, acc.push v, c3, oC2, _, gs', by omega, eD3', ?_, eC3, n2.sameBut sb3 hDC.symm, ?_, ?_, setGen_at hsz1, ?_⟩
        · have et : out.take (j' + 1) = out.take j' ++ [xv] := by rw [List.take_add_one, ho']; rfl
          rw [et, Array.toList_push]
          exact hv.append (.cons rv .nil)
        · obtain ⟨o, nm, qn, ho, r⟩ := hg1
          exact ⟨o, nm, qn, keep a o (nab haD haC) ho, r⟩
        · obtain ⟨mc, hns, hnn⟩ := hl1
          exact ⟨mc, hns.at' fun o e => keep _ o (nab hSt.1 hSt.2) e, hnn⟩
        · refine hk [(D, lstObj (acc.push v) c3), (C, oC2)] _ ⟨rfl, allBare_setGen (allBare_setGen hb1 hbare) rfl, rfl, keep, fun p hp => ?_⟩
          simp only [List.mem_cons, List.not_mem_nil, or_false] at hp
          rcases hp with rfl | rfl
          · exact ⟨eD3', fun v q => by cases q⟩
          · exact ⟨eC3, fun v q => by rw [dC2] at q; cases q⟩
    · intro hsz
      obtain ⟨hn0, H', os1, hb1, un, hok, hZ, hQ⟩ := hp
      have hj : j = out.length := by omega
      subst hj
      rw [List.take_length] at hv
      have zD := hZ D List.mem_cons_self
      have zC := hZ C (List.mem_cons_of_mem _ List.mem_cons_self)
      have eD1 : h'.get? D = some (lstObj acc cc) := hk _ _ (zD.2.trans eD)
      have nC1 : h'.Ns C m := ns_obj nC eC (hk _ _ (zC.2.trans eC))
      refine ⟨m, nC1, fun h'' sb => ?_⟩
      have hszc : sc.heap.objs.size ≤ D := by rw [← hD]; exact Nat.le_trans ha1 (Nat.le_of_lt ha2)
      have I5 := I1.drained (s' := { s₁.setGen g .finished with heap := h' }) hszc (Nat.le_trans hout (by decide)) eD1 hv ExOk.nil os1 (allBare_setGen hb1 rfl) (un.trans (Un.kept hk)) (hok.kept hk) zD.1
      have fC : FpOk X pins (upd H' D (.lst out)) C := by
        have q : (upd H' D (.lst out)) C = none := by rw [upd_ne hDC.symm]; exact zC.1
        exact I1.fpOk (by rw [← hC, sz3, hD]; exact Nat.le_succ_of_le hszc) q
      obtain ⟨f0, f1, f2, f3, f4, f5⟩ := fC
      exact ⟨.ref D, _, I5.turned (t' := s₁.toks) (fun b o hb e => (sb.2 b hb).trans e) f0 f1 f3 f4 f5, rfl, hQ D zD.1⟩
    · obtain ⟨hc, hg1⟩ := he
      obtain ⟨_, _, _, _, _, _, _, _, _, _, _, _, hW⟩ := hc
      exact hW.elim
  refine codeAny_compStart_list loop ?_
  refine wpAny_pyIter_gen (hg.keeps k14) loop
end
end Ss
/-! loops over a range in such a generator; a method that gives one -/
namespace Ss
open PySem PySem.Spec PyProof.Rows L2 GenW
theorem zfor_range {lo : Int} {n : Nat} {g : TG} {tb : TZ} {D : ZEnds} {j0 : Nat} {σ : L2.St} {H : Hp} (Pv : Nat → Nat → L2.St → Hp → Prop) (h0 : Pv 0 j0 σ H)
    (hs : ∀ i j σ H, i < n → Pv i j σ H → g (.int (lo + i)) σ H fun σ2 H2 => tb { D with nx := Pv (i + 1), ct := Pv (i + 1), bk := D.nx } j σ2 H2) (hd : ∀ j σ H, Pv n j σ H → D.nx j σ H) :
    ∃ W : Nat → Nat → Nat → L2.St → Hp → Prop, (∃ m, W 0 m j0 σ H) ∧ ∀ i m j σ H, W i m j σ H →
      ((Itr lo n).stop i H ∧ D.nx j σ H) ∨ ((Itr lo n).go i H ∧ ∃ N : Nat → L2.St → Hp → Prop, (∀ j' σ' H', N j' σ' H' → ∃ m', m' < m ∧ W (i + 1) m' j' σ' H') ∧ ∀ x H', (Itr lo n).yld i H x H' → g x σ H' fun σ2 H2 => tb { D with nx := N, ct := N, bk := D.nx } j σ2 H2) := by
  refine ⟨fun i m j σ H => m = n - i ∧ i ≤ n ∧ Pv i j σ H, ⟨n, by simp, Nat.zero_le _, h0⟩, ?_⟩
  rintro i m j σ H ⟨rfl, hi, p⟩
  by_cases hlt : i < n
  · refine .inr ⟨hlt, Pv (i + 1), fun j' σ' H' p' => ⟨n - (i + 1), by omega, rfl, hlt, p'⟩, fun x H' y => ?_⟩
    obtain ⟨e, y⟩ := y
    subst e y
    exact hs i j σ _ hlt p
  · have e : i = n := by omega
    subst e
    exact .inl ⟨Nat.le_refl _, hd j σ H p⟩
section
variable {X : Cx} {k : Nat} {f : Addr} {fd : FuncData} {ps : List Str} {sp : SpZ} {m : Str} {pos' apos : Pos} {o : Expr} {ta : TE} {t : TA}
theorem run_zfn {pins : List (Addr × Obj)} {σ : L2.St} {H : Hp} {s : Shared} {us : List Value} {vs out : List V} {cont : Hp → Prop} {E1 : Value → Shared → Prop} (F : ZFn X.prog X.w X.K X.mg X.base k f fd ps sp) (hr : Room k X.A) (hb : Binds X.K fd ps [])
    (I : Inv X pins σ H s) (r : Vals vs us) (h : sp vs H out cont (fun _ _ _ => False)) :
    wpAny (model X.prog X.w) X.A (call (.ref f) us) (fun u s' => ∃ H1 sc, Inv X pins σ H1 sc ∧ ZMade X.prog X.w k X.stack H1 sc out cont (fun _ _ _ => False) u s') E1 s := by
  have hl2 : us.length = ps.length := by rw [← r.length]; exact F.len _ _ _ _ _ h
  refine wpAny_call (codeAny_mono (F.run X.A X.stack s H ⟨us, []⟩ us vs out cont _ hr I.env0 (by
    have z := hb s us I.kIn (by rw [List.append_nil]; exact hl2)
    rwa [List.append_nil] at z) r h) fun r s' hq => ?_)
  cases r with
  | error e => exact False.elim hq
  | ok fl =>
    cases fl with
    | ret u => exact ⟨H, s, I, hq⟩
    | next => exact False.elim hq
    | brk => exact False.elim hq
    | cont => exact False.elim hq
/-- o.m(e, ..), o of one of several classes -/
def tMethZ (Cf : RK → Addr) (m : Str) (sp : SpZ) (ta : TE) (t : TA) : TZg := fun σ H out cont => ta σ H fun x H1 => ∃ c a dx fs, x = .ref a ∧ H1 a = some (.ins (Cf c) dx fs) ∧ fs.lookup m = none ∧ t σ H1 fun vs H2 => sp (x :: vs) H2 out cont (fun _ _ _ => False)
theorem pz_meth {Cf : RK → Addr} {j : Nat} {pl : Sem Bool} {e : Expr} {es : List Expr} (he : PE X o ta) (c : ∀ k, Cls X.K (Cf k)) (hm : ∀ k, Meth X.K (Cf k) m f) (F : ZFn X.prog X.w X.K X.mg X.base k f fd ps sp) (hr : Room j X.A) (hb : Binds X.K fd ps []) (ha : PA X (e :: es) t) (hk : k ≤ j := by decide)
    (hst : starEach (e :: es) X.env = (false, eval e X.env) :: starEach es X.env := by rfl) (hpl : (backTo pos' (starEach es X.env)).any (·.1) = false := by rfl)
    (ht : eval (.Call (.Attribute o m apos) (e :: es) [] pos') X.env = (do
      let ov ← eval o X.env
      standAt apos.atName
      let (f, first) ← holding [ov] (getMethod ov m pl)
      callWith pos' f first (backTo pos' (starEach (e :: es) X.env)) (backToKw pos' (keywordEach [] X.env))) := by rfl) :
    PZ X k (.Call (.Attribute o m apos) (e :: es) [] pos') (tMethZ Cf m sp ta t) := by
  refine ⟨fun pins s σ H out cont I h => ?_⟩
  refine PySem.W.methodCall_KW (pl := pl) (thn (he.run pins s σ H _ I h) fun u s1 ⟨x, H1, I1, rx, k', a, dx, fs, ex, ea, l, q⟩ => ?_) ht
  subst ex
  obtain rfl : u = Value.ref a := rx
  refine getmeth_ok I1 ea (c k') (hm k') l ?_
  refine PySem.W.callWith_K (first := [.ref a]) (h₀ := X.base) I.ok.mod.kin (hm k').kp (thn (ha.run pos' pins s1 σ H1 _ I1 q) fun us s2 ⟨vs, H2, I2, r, q2⟩ => ⟨I2.kIn, ?_⟩) hst hpl
  exact run_zfn (us := .ref a :: us) (vs := .ref a :: vs) F (hr.mono hk) hb I2 (.cons rfl r) q2
end
end Ss
namespace Ss
open PySem L2
section
variable {P : Program} {w : World} {K : PySem.W.Frag} {mg : Str → Option Value} {base : Heap}
/-- the tokens of a text -/
def toksOf (z : Str) : List Str := (rn [] z.cps.toList).map mkS
abbrev sRplaces : Stmt := inClass (topS 14) 5
theorem scRplaces : GScope ["self", "text", "tokens", "place"] ["self", "text"] (defScope sRplaces) := ⟨rfl, rfl, rfl, by decide +kernel, rfl, by decide +kernel, by decide +kernel⟩
/-- where a rule stands -/
def plOf (z : Str) (rem : List Str) : List Nat := (List.range (toksOf z).length).filter fun i => standsP (toksOf z) rem (i : Nat)
def spPlaces (Cf : RK → Addr) : SpZ := fun vs H out Q _ => ∃ (p : Addr) (k : RK) (toks : List Str) (z : Str), vs = [.ref p, .str z] ∧ z.length ≤ 100000 ∧ RuleAt H (Cf k) p k toks ∧ (toksOf z).length ≤ 1000 ∧ (toksOf z).all okS = true ∧ toks.all okS = true ∧
  out = (plOf z (k.rem toks)).map (fun i : Nat => V.int (i : Nat)) ∧ ∀ H', Same H H' → Q H'
theorem ok_Rplaces {f : Addr} {fd : FuncData} {Cf : RK → Addr} {R : Addr} (F : Fun K "places" "Rule.places" sRplaces f fd) (T : G0 mg) (Z : RTab K mg Cf R) (Dtoks : Dk P w K mg base CX0 2 "tokens_of" ["text"] spRuns) (Dst : ∀ kd, Mm P w K mg base CX0 (Cf kd) 1 "stands" ["self", "tokens", "place"] (spStands K Cf)) :
    ZFn P w K mg base 3 f fd ["self", "text"] (spPlaces Cf) := by
  obtain ⟨oc, od, kV, doc, pm, an, cdv, ct, osl, rfl, lk, hcd⟩ := F.ex
  refine zfn_of lk hcd scRplaces (fun vs H out Q E h => ?_) (fun A outer s H vs out Q E pn hr h => ?_)
  · obtain ⟨p, k, toks, z, rfl, _⟩ := h; rfl
  · obtain ⟨p, k, toks, z, rfl, hz, hR, hn, ok1, ok2, eo, kk⟩ := h
    refine ⟨_, (zss_cons (zs_ps (ps_set (i := 2) scRplaces.nd rfl (Or.inl rfl) (pe_cd Dtoks hr pass0 (pa_cons (pv 1) pa_nil)))) (zss_cons (zs_for owns_gcx rfl (pi_range1 (by rfl) T.range (pa_cons (pe_callB call_len_seq (by rfl) T.len (by decide +kernel) (pa_cons (pv 2) pa_nil)) pa_nil)) (pg_name (i := 3) scRplaces.nd rfl (.inl rfl)) (zss_cons (zs_if (pt_val (pe_mdF (pv 0) (fun k => (Z.cl k).cl) Dst hr pass0 (pa_cons (pv 2) (pa_cons (pv 3) pa_nil)))) (zss_cons (zs_yield (pv 3)) zss_nil) zss_nil) zss_nil)) zss_nil)), ?_⟩
    refine ⟨_, rfl, z, rfl, Nat.le_trans hz (by decide), fun q H1 nq s1 hq => ?_⟩
    have hq : H1 q = some (.lst ((toksOf z).map V.str)) := by rw [hq]; unfold toksOf; rw [List.map_map]; rfl
    have hR := hR.mono s1
    have lt : ((toksOf z).map V.str).length = (toksOf z).length := List.length_map _
    refine ⟨_, rfl, q, _, rfl, .inl (SqL.of hq), ?_⟩
    rw [lt]
    refine ⟨((toksOf z).length : Nat), rfl, by omega, by omega, ?_⟩
    rw [Int.toNat_natCast]
    generalize hf : (fun i : Nat => standsP (toksOf z) (k.rem toks) (i : Nat)) = fs
    have eo : out = ((List.range (toksOf z).length).filter fs).map (fun i : Nat => V.int (i : Nat)) := by rw [eo]; unfold plOf; rw [hf]
    refine zfor_range (lo := 0) (n := (toksOf z).length) (fun i j σ H' => (∃ v : Option V, σ = [some (.ref p), some (.str z), some (.ref q), v]) ∧ Same H1 H' ∧ j = ((List.range i).filter fs).length) ⟨⟨none, rfl⟩, Same.refl H1, rfl⟩ ?_ ?_
    · rintro i j σ H2 hi ⟨⟨v, rfl⟩, s2, rfl⟩
      have e0 : (0 : Int) + (i : Int) = (i : Int) := Int.zero_add _
      have fi : fs i = standsP (toksOf z) (k.rem toks) (0 + (i : Int)) := by rw [← hf, e0]
      obtain ⟨dx, t, r1, r2, h1, _⟩ := id (hR.mono s2)
      have nst : (([("tokens", V.ref t), ("removed", V.ref r1), ("inserted", V.ref r2)] : List (Str × V))).lookup ("stands" : Str) = none := by
        rw [lookup_hd, if_neg (by decide +kernel), lookup_hd, if_neg (by decide +kernel), lookup_hd, if_neg (by decide +kernel)]
        rfl
      refine ⟨k, _, rfl, p, dx, _, rfl, h1, nst, _, rfl, _, rfl, p, q, 0 + (i : Int), k, toks, toksOf z, rfl, hR.mono s2, SqL.of (s2 _ _ hq), ok1, ok2, fun H3 s3 => ⟨_, rfl, ?_⟩⟩
      rw [← fi]
      have rs : (List.range (i + 1)).filter fs = if fs i = true then (List.range i).filter fs ++ [i] else (List.range i).filter fs := by
        rw [List.range_succ, List.filter_append]
        by_cases c : fs i = true
        · rw [if_pos c, List.filter_cons_of_pos c]; rfl
        · rw [if_neg c, List.filter_cons_of_neg c, List.filter_nil, List.append_nil]
      cases hfi : fs i with
      | false =>
        rw [hfi] at rs
        dsimp only
        rw [if_neg Bool.false_ne_true]
        exact ⟨⟨_, rfl⟩, s2.trans s3, by rw [rs, if_neg Bool.false_ne_true]⟩
      | true =>
        rw [hfi, if_pos rfl] at rs
        dsimp only
        rw [if_pos rfl]
        have er : List.range (toksOf z).length = List.range (i + 1) ++ (List.range ((toksOf z).length - (i + 1))).map (i + 1 + ·) := by
          rw [← List.range_add]; congr 1; omega
        have eo2 : out = (((List.range i).filter fs ++ [i]) ++ ((List.range ((toksOf z).length - (i + 1))).map (i + 1 + ·)).filter fs).map (fun i : Nat => V.int (i : Nat)) := by rw [eo, er, List.filter_append, rs]
        have at_ : out[((List.range i).filter fs).length]? = some (V.int (i : Nat)) := by
          rw [eo2, List.getElem?_map, List.append_assoc, List.getElem?_append_right (Nat.le_refl _), Nat.sub_self]
          rfl
        refine ⟨(List.getElem?_eq_some_iff.mp at_).1, _, rfl, by rw [e0]; exact at_, ⟨_, rfl⟩, s2.trans s3, by rw [rs, List.length_append]; rfl⟩
    · rintro j σ H2 ⟨⟨v, rfl⟩, s2, rfl⟩
      exact ⟨by rw [eo, List.length_map], kk H2 (s1.trans s2)⟩
end
end Ss
set_option maxHeartbeats 1000000
/-! an object called, of one of several classes, in a try -/
namespace Ss
open PySem PySem.Spec PyProof.Rows L2
def tCallOS (Cf : RK → Addr) (sp : Sp) (E : L2.St → XK) (tf : TE) (t : TA) : TE := fun σ H Q => tf σ H fun y H1 => ∃ a, y = .ref a ∧ t σ H1 fun vs H2 => ∃ kd dx fs, H2 a = some (.ins (Cf kd) dx fs) ∧ sp (.ref a :: vs) H2 Q (E σ)
section
variable {X : Cx} {CX : CXT} {k j : Nat} {g : Addr} {Cf : RK → Addr} {sp : Sp} {E : L2.St → XK} {e fe : Expr} {es : List Expr} {tf : TE} {t : TA} {pos : Pos}
theorem pe_callOS (hf : PE X fe tf) (c : ∀ kd, StX.CallO X.K (Cf kd) g) (F : FnR X.prog X.w X.K X.mg X.base CX k g sp) (hr : Room j X.A) (hx : ∀ σ, PassesAt CX X σ (E σ)) (ha : PA X (e :: es) t) (hk : k ≤ j := by decide)
    (ht : eval (.Call fe (e :: es) [] pos) X.env = (do callWith pos (← eval fe X.env) [] (backTo pos (starEach (e :: es) X.env)) (backToKw pos (keywordEach [] X.env))) := by rfl)
    (he : starEach (e :: es) X.env = (false, eval e X.env) :: starEach es X.env := by rfl) (hpl : (backTo pos (starEach es X.env)).any (·.1) = false := by rfl) : PE X (.Call fe (e :: es) [] pos) (tCallOS Cf sp E tf t) := by
  refine ⟨fun pins s σ H Q I h => ?_⟩
  refine Call_ (thn (hf.run pins s σ H _ I h) fun u s1 ⟨y, H1, I1, ry, a, ey, q⟩ => ?_) ht
  subst ey
  obtain rfl : u = Value.ref a := ry
  refine StX.callO_with (thn (ha.run pos pins s1 σ H1 _ I1 q) fun us s2 ⟨vs, H2, I2, r, kd, dx, fs, hi, q2⟩ => ?_) he hpl
  obtain ⟨ox, od, J, hd⟩ := StX.insC_at I2 (.inr ⟨dx, fs, hi⟩ : StX.InsC X H2 a (Cf kd))
  refine ⟨⟨Cf kd, ox, od, J, hd⟩, ?_⟩
  refine wpAny_call (PySem.W.kco_code I2.kIn J hd (c kd).at_ (c kd).fn (c kd).fi (codeAny_mono (F X.A X.stack s2 H2 (.ref a :: us) (.ref a :: vs) Q (E σ) (hr.mono hk) I2.env0 (.cons rfl r) q2) fun r s' hq => ?_))
  cases r with
  | error e => exact hx σ pins H2 s2 e s' I2 hq
  | ok fl =>
    cases fl with
    | ret u => exact I2.after hq
    | next => exact False.elim hq
    | brk => exact False.elim hq
    | cont => exact False.elim hq
end
end Ss
namespace Ss
open PySem L2 PySem.Spec PyProof.Rows
/-! ### enumerate(t), t a tuple -/
theorem enum_new {v : Value} {o : Obj} {J : Heap → Prop} (B : Begins v o J) :
    Meets (Builtin.«enumerate.__new__» ⟨[.type "enumerate", v], []⟩) (fun _ R s => J s.heap ∧
      R (.ok (.ret (.ref (s.heap.push o).objs.size))) { s with heap := (s.heap.push o).push { cls := .type "enumerate", data := .fields #[.none, .bool false, .ref s.heap.objs.size, rawInt 0, .none, .none] } }) :=
  .of_wp fun prog w A R s hh => by
    obtain ⟨hp, g, dr, n, os⟩ := s
    obtain ⟨hJ, hR⟩ := hh
    have sub1 := sub_enumerate
    have it1 : ∀ {A' : Around} {E : Value → Shared → Prop} {Q : Value → Shared → Prop}, Q (.ref hp.objs.size) ⟨hp.push o, g, dr, n, os⟩ → wpAny (model prog w) A' (pyIter v) Q E ⟨hp, g, dr, n, os⟩ :=
      fun z => B.iter prog w _ _ ⟨hp, g, dr, n, os⟩ _ hJ z
    wp_walk using it1
    refine wpAny_stack_any fun st0 => wpAny_pure ?_
    split
    · rename_i cc _ _ _ _ _
      cases (cc == Value.type "enumerate") <;>
      · wp_walk using it1
        exact ⟨_, rfl, hR⟩
    · wp_walk using it1
      exact ⟨_, rfl, hR⟩
theorem enum_call {prog : Program} {w : World} {A : Around} {E : Value → Shared → Prop} {s : Shared} {v : Value} {o : Obj} {J : Heap → Prop} {Q : Value → Shared → Prop} (B : Begins v o J) (hJ : J s.heap)
    (k : ∀ h', IsEnum h' (s.heap.objs.size + 1) s.heap.objs.size 0 .none → h'.get? s.heap.objs.size = some o → (∀ b u, s.heap.get? b = some u → h'.get? b = some u) → Q (.ref (s.heap.objs.size + 1)) { s with heap := h' }) :
    wpAny (model prog w) A (call (.type "enumerate") [v]) Q E s := by
  refine callType_new F.called_enumerate (by decide) (F.typeCall_enumerate_1 _) (F.newCall_enumerate_1 _) (fun z => F.args_object_init_2 z _) F.entry_enumerate_new (enum_new B) ⟨hJ, ?_⟩
  have z1 : (s.heap.push o).objs.size = s.heap.objs.size + 1 := Heap.size_push ..
  show _ ∧ _
  rw [z1]
  have en : IsEnum ((s.heap.push o).push { cls := .type "enumerate", data := .fields #[.none, .bool false, .ref s.heap.objs.size, rawInt 0, .none, .none] }) (s.heap.objs.size + 1) s.heap.objs.size 0 .none := by
    have t := Heap.get?_push_size (s.heap.push o) (o := { cls := .type "enumerate", data := .fields #[.none, .bool false, .ref s.heap.objs.size, rawInt 0, .none, .none] }) rfl
    rwa [z1] at t
  exact ⟨⟨_, en, rfl⟩, k _ en (Heap.get?_push_of_some _ (Heap.get?_push_size _ B.free)) fun b u z => Heap.get?_push_of_some _ (Heap.get?_push_of_some _ z)⟩
/-- the tuple at a: each item in a new pair -/
def Iet (K : PySem.W.Frag) (a : Addr) : It :=
  ⟨fun i H => ∃ (xs : List V) (x : V), SqT K H a xs ∧ xs[i]? = some x, fun i H v H' => ∃ T x, v = .ref T ∧ H T = none ∧ H' = upd H T (.tup [.int (i : Nat), x]) ∧ ∀ xs, SqT K H a xs → xs[i]? = some x, fun i H => ∃ xs : List V, SqT K H a xs ∧ i = xs.length⟩
theorem turn_enumT {P : Program} {w : World} {K : PySem.W.Frag} {elts : List Expr} {kk : Nat} {tpos : Pos} (a e it : Addr) :
    Turn P w K (.Tuple elts kk tpos) (Iet K a) [e, it] e (fun i h => (∃ old, IsEnum h e it ((i : Nat) : Int) old) ∧ h.IsTupleIter it a i ∧ e ≠ it) where
  mem := List.mem_cons_self
  obj := fun i h st b hb => by
    obtain ⟨⟨old, he⟩, ⟨u, hu, _, hd⟩, _⟩ := st
    rcases List.mem_cons.mp hb with rfl | hb
    · exact ⟨_, he, fun v q => nomatch q⟩
    · obtain rfl : b = it := by simpa using hb
      exact ⟨u, hu, fun v q => by rw [hd] at q; cases q⟩
  keep := fun i h h' st k => ⟨let ⟨old, he⟩ := st.1; ⟨old, k e (by simp) _ he⟩, st.2.1.at fun u q => k it (by simp) u q, st.2.2⟩
  item := by
    intro X h1 h2 h3 hc i pins s σ H E I hf st hg
    subst h1 h2 h3
    obtain ⟨⟨old, he⟩, hit, hne⟩ := st
    obtain ⟨xs, x, hq, hx⟩ := hg
    obtain ⟨its, rv, p, hz⟩ := I.tuple hq
    have pt : s.heap.IsTuple a its.toArray := p
    obtain ⟨u0, hu0, ru0⟩ := rv.get hx
    have hlt : i < its.length := by
      rcases Nat.lt_or_ge i its.length with z | z
      · exact z
      · rw [List.getElem?_eq_none z] at hu0; cases hu0
    have nea : e ≠ a := fun z => by
      obtain ⟨ob, g1, g2, _⟩ := pt
      rw [← z, he] at g1
      cases g1
      injection g2 with g2
      exact absurd g2 (by decide)
    have nia : a ≠ it := fun z => by
      obtain ⟨ob, g1, g2, _⟩ := pt
      obtain ⟨ob', g3, g4, _⟩ := hit
      rw [z, g3] at g1
      cases g1
      rw [g4] at g2
      injection g2 with g2
      exact absurd g2 (by decide)
    have hel : e < s.heap.objs.size := Heap.lt_size he
    have hil : it < s.heap.objs.size := by obtain ⟨_, q, _⟩ := hit; exact Heap.lt_size q
    have D := Draws.tuple (prog := X.prog) (w := X.w) (A := X.A.in1) (I.ok.hd hc) it a nia its.toArray
    refine wpAny_pyNext_enum_itemD D he ⟨hit, pt⟩ (by simpa using hlt) hne (by simp [hne, nea]) fun u h' tk hu ho st' hT hsz hk => ?_
    have hu : its[i]? = some u := by simpa using hu
    rw [hu0] at hu
    cases hu
    refine ⟨_, rfl, wpAny_letOwnedTupleGo_enum (s := { s with heap := h', toks := tk + 1 }) ho fun h2 he2 sb => ?_⟩
    have hT2 : h2.get? s.heap.objs.size = some { cls := .type "tuple", data := .seq #[.int i tk, u0] } := (sb.2 _ (Nat.ne_of_gt hel)).trans hT
    have nw : ObjOk X.prog X.w (upd H s.heap.objs.size (.tup [.int (i : Nat), x])) h2 s.heap.objs.size (.tup [.int (i : Nat), x]) :=
      ⟨Nat.le_of_ble_eq_true rfl, [.int i tk, u0], .cons ⟨_, rfl⟩ (.cons ru0 .nil), ⟨_, hT2, rfl, _, rfl⟩⟩
    have I1 : Inv X pins σ (upd H s.heap.objs.size (.tup [.int (i : Nat), x])) { s with heap := h2, toks := tk + 1 } :=
      I.turnedNew (ch := [e, it]) (fun b ob hb q => (sb.2 b (fun z => hb (by simp [z]))).trans (hk b ob (fun z => hb (by simp [z])) (fun z => hb (by simp [z])) q)) hf (Nat.le_refl _) nw
    refine ⟨.ref s.heap.objs.size, _, I1, rfl, ⟨_, x, rfl, I.hok.fresh (Nat.le_refl _), rfl, fun ys hy => ?_⟩, ⟨⟨u0, ?_⟩, st'.1.at fun ob q => (sb.2 it (Ne.symm hne)).trans q, hne⟩, fun b hb => ?_⟩
    · rw [I.tuple_inj hy hq]; exact hx
    · have e1 : ((i + 1 : Nat) : Int) = (i : Int) + 1 := by omega
      rw [e1]; exact he2
    · have hb' : b < s.heap.objs.size := by
        rcases List.mem_cons.mp hb with rfl | hb
        · exact hel
        · obtain rfl : b = it := by simpa using hb
          exact hil
      rw [upd_ne (Nat.ne_of_lt hb')]
      exact (hf b hb).1
  done := by
    intro X h1 h2 h3 hc i pins s σ H E I hf st hg
    subst h1 h2 h3
    obtain ⟨⟨old, he⟩, hit, hne⟩ := st
    obtain ⟨xs, hq, rfl⟩ := hg
    obtain ⟨its, rv, p, hz⟩ := I.tuple hq
    have pt : s.heap.IsTuple a its.toArray := p
    have nia : a ≠ it := fun z => by
      obtain ⟨ob, g1, g2, _⟩ := pt
      obtain ⟨ob', g3, g4, _⟩ := hit
      rw [z, g3] at g1
      cases g1
      rw [g4] at g2
      injection g2 with g2
      exact absurd g2 (by decide)
    obtain ⟨f0, f1, f2, f3, f4, f5⟩ := hf it (by simp)
    have hl := rv.length
    rw [hl] at he hit
    exact wpAny_pyNext_enum_endD (Draws.tuple (prog := X.prog) (w := X.w) (A := X.A.in1) (I.ok.hd hc) it a nia its.toArray) he (by simpa using ⟨hit, pt⟩) fun h' eb => ⟨rfl, I.turned (t' := s.toks) (fun b o hb q => eb b o hb q) f0 f1 f3 f4 f5⟩
  self := fun A i s Q E st h => let ⟨⟨_, he⟩, _⟩ := st; wpAny_pyIter_enum he h
def iEnumT (K : PySem.W.Frag) (ta : TA) : TI := fun σ H R => ta σ H fun vs H1 => ∃ a xs, vs = [.ref a] ∧ SqT K H1 a xs ∧ R (Iet K a) H1
theorem pi_enumT {X : Cx} {e : Expr} {ta : TA} {p pos tpos : Pos} {elts : List Expr} {kk : Nat} (hg : Gl X "enumerate") (hm : X.mg "enumerate" = none) (ha : PA X [e] ta) (hs : starEach [e] X.env = [(false, eval e X.env)] := by rfl) :
    PI X (.Tuple elts kk tpos) (.Call (.Name "enumerate" p) [e] [] pos) (iEnumT X.K ta) := by
  refine ⟨fun pins s σ H R I h => ?_⟩
  refine Call_ (ld_blt I hg hm boot_enumerate (PyProof.Rows.callWith_type1 (thn (ha.run pos pins s σ H _ I h) fun us s1 ⟨vs, H1, I1, r1, a, xs, ex, hq, q⟩ => ?_) hs rfl))
  subst ex
  obtain ⟨u, rfl, r⟩ := vals1 r1
  cases r
  obtain ⟨its, rv, p', hz⟩ := I1.tuple hq
  refine enum_call (begins_tuple a its.toArray) p' fun h' he hit hk => wpAny_pyIter_enum he ?_
  have I2 : Inv X pins σ H1 { s1 with heap := h' } := I1.kept (t' := s1.toks) hk
  refine ⟨s1.heap.objs.size + 1, [s1.heap.objs.size + 1, s1.heap.objs.size], _, _, H1, rfl, I2, turn_enumT a (s1.heap.objs.size + 1) s1.heap.objs.size, ⟨⟨.none, he⟩, ⟨_, hit, rfl, rfl⟩, Nat.succ_ne_self _⟩, fun b hb => ?_, q⟩
  have hle : s1.heap.objs.size ≤ b := by
    rcases List.mem_cons.mp hb with rfl | hb
    · exact Nat.le_add_right _ _
    · obtain rfl : b = s1.heap.objs.size := by simpa using hb
      exact Nat.le_refl _
  exact I1.fpOk hle (I1.hok.fresh hle)
end Ss
namespace Ss
open PySem L2
/-! ### patterns: what an object of the class holds -/
structure Pt where
  ms : List (Str × Str)
  fi : Nat
  la : Nat
  fo : List Nat
  em : Bool
structure Pt.Ok (P : Pt) : Prop where
  fo : P.fo.length = P.ms.length
  fi : P.fi < 2 ^ P.ms.length
  la : P.la < 2 ^ P.ms.length
  fb : ∀ a ∈ P.fo, a < 2 ^ P.ms.length
def led (fo : List Nat) (so ta : Nat) : List Nat := (List.range fo.length).map fun i => if so.testBit i then fo.getD i 0 ||| ta else fo.getD i 0
def por (P Q : Pt) : Pt := ⟨P.ms ++ Q.ms, P.fi ||| Q.fi <<< P.ms.length, P.la ||| Q.la <<< P.ms.length, P.fo ++ Q.fo.map (· <<< P.ms.length), P.em || Q.em⟩
def padd (P Q : Pt) : Pt := ⟨P.ms ++ Q.ms, if P.em then P.fi ||| Q.fi <<< P.ms.length else P.fi, if Q.em then P.la ||| Q.la <<< P.ms.length else Q.la <<< P.ms.length,
  led (P.fo ++ Q.fo.map (· <<< P.ms.length)) P.la (Q.fi <<< P.ms.length), P.em && Q.em⟩
def pneg (P : Pt) : Pt := ⟨P.ms, P.fi, P.la, P.fo, true⟩
def ppos (P : Pt) : Pt := ⟨P.ms, P.fi, P.la, led P.fo P.la P.fi, P.em⟩
def pinv (P : Pt) : Pt := pneg (ppos P)
def pone (a b : Str) : Pt := ⟨[(a, b)], 1, 1, [0], false⟩
def pnil : Pt := ⟨[], 0, 0, [], true⟩
def pmul (P : Pt) : Nat → Pt
  | 0 => pnil
  | n + 1 => padd (pmul P n) P
def pshr (P Q : Pt) : Pt := ppos (padd P Q)
def pfd (P Q : Pt) : Pt := ⟨P.ms ++ Q.ms, (pshr P Q).fi, if P.em then P.la ||| Q.la <<< P.ms.length else P.la, (pshr P Q).fo, P.em⟩
def pshl (P Q : Pt) : Pt := ⟨P.ms ++ Q.ms, (pshr P Q).fi, P.la ||| Q.la <<< P.ms.length, (pshr P Q).fo, P.em⟩
theorem shl_lt {b n m : Nat} (h : b < 2 ^ m) : b <<< n < 2 ^ (n + m) := by
  rw [Nat.shiftLeft_eq, Nat.pow_add, Nat.mul_comm]
  exact Nat.mul_lt_mul_of_pos_left h (Nat.two_pow_pos n)
theorem lt_more {a n m : Nat} (h : a < 2 ^ n) : a < 2 ^ (n + m) := Nat.lt_of_lt_of_le h (Nat.pow_le_pow_right (by decide) (Nat.le_add_right _ _))
theorem or_lt {a b n : Nat} (h : a < 2 ^ n) (k : b < 2 ^ n) : a ||| b < 2 ^ n := Nat.or_lt_two_pow h k
theorem led_len {fo : List Nat} {so ta : Nat} : (led fo so ta).length = fo.length := by unfold led; rw [List.length_map, List.length_range]
theorem led_lt {fo : List Nat} {so ta n : Nat} (h : ∀ a ∈ fo, a < 2 ^ n) (k : ta < 2 ^ n) : ∀ a ∈ led fo so ta, a < 2 ^ n := by
  intro a ha
  unfold led at ha
  obtain ⟨i, hi, rfl⟩ := List.mem_map.mp ha
  have hi := List.mem_range.mp hi
  have hg : fo.getD i 0 < 2 ^ n := by
    rw [List.getD_eq_getElem?_getD, List.getElem?_eq_getElem hi]
    exact h _ (List.getElem_mem hi)
  split
  · exact or_lt hg k
  · exact hg
theorem fo_or {P Q : Pt} (p : P.Ok) (q : Q.Ok) : ∀ a ∈ P.fo ++ Q.fo.map (· <<< P.ms.length), a < 2 ^ (P.ms.length + Q.ms.length) := by
  intro a ha
  rcases List.mem_append.mp ha with h | h
  · exact lt_more (p.fb a h)
  · obtain ⟨b, hb, rfl⟩ := List.mem_map.mp h
    exact shl_lt (q.fb b hb)
theorem por_ok {P Q : Pt} (p : P.Ok) (q : Q.Ok) : (por P Q).Ok := by
  refine ⟨?_, ?_, ?_, ?_⟩
  · simp [por, p.fo, q.fo]
  · simp only [por, List.length_append]; exact or_lt (lt_more p.fi) (shl_lt q.fi)
  · simp only [por, List.length_append]; exact or_lt (lt_more p.la) (shl_lt q.la)
  · simp only [por, List.length_append]; exact fo_or p q
theorem padd_ok {P Q : Pt} (p : P.Ok) (q : Q.Ok) : (padd P Q).Ok := by
  refine ⟨?_, ?_, ?_, ?_⟩
  · simp [padd, led_len, p.fo, q.fo]
  · simp only [padd, List.length_append]
    split
    · exact or_lt (lt_more p.fi) (shl_lt q.fi)
    · exact lt_more p.fi
  · simp only [padd, List.length_append]
    split
    · exact or_lt (lt_more p.la) (shl_lt q.la)
    · exact shl_lt q.la
  · simp only [padd, List.length_append]; exact led_lt (fo_or p q) (shl_lt q.fi)
theorem pneg_ok {P : Pt} (p : P.Ok) : (pneg P).Ok := ⟨p.fo, p.fi, p.la, p.fb⟩
theorem ppos_ok {P : Pt} (p : P.Ok) : (ppos P).Ok := ⟨led_len.trans p.fo, p.fi, p.la, led_lt p.fb p.fi⟩
theorem pone_ok (a b : Str) : (pone a b).Ok := ⟨rfl, (by decide : 1 < 2 ^ 1), (by decide : 1 < 2 ^ 1), (by decide : ∀ a ∈ [0], a < 2 ^ 1)⟩
theorem pnil_ok : pnil.Ok := ⟨rfl, (by decide : 0 < 2 ^ 0), (by decide : 0 < 2 ^ 0), (by decide : ∀ a ∈ ([] : List Nat), a < 2 ^ 0)⟩
theorem pmul_ok {P : Pt} (p : P.Ok) : ∀ n, (pmul P n).Ok
  | 0 => pnil_ok
  | n + 1 => padd_ok (pmul_ok p n) p
theorem pshr_ok {P Q : Pt} (p : P.Ok) (q : Q.Ok) : (pshr P Q).Ok := ppos_ok (padd_ok p q)
theorem pfd_ok {P Q : Pt} (p : P.Ok) (q : Q.Ok) : (pfd P Q).Ok := by
  have k := pshr_ok p q
  refine ⟨k.fo, k.fi, ?_, k.fb⟩
  simp only [pfd, List.length_append]
  split
  · exact or_lt (lt_more p.la) (shl_lt q.la)
  · exact lt_more p.la
theorem pshl_ok {P Q : Pt} (p : P.Ok) (q : Q.Ok) : (pshl P Q).Ok := by
  have k := pshr_ok p q
  refine ⟨k.fo, k.fi, ?_, k.fb⟩
  simp only [pshl, List.length_append]
  exact or_lt (lt_more p.la) (shl_lt q.la)
/-! ### on the heap -/
def pfl (tm tf : Addr) (P : Pt) : List (Str × V) := [("marks", .ref tm), ("first", .int P.fi), ("last", .int P.la), ("follow", .ref tf), ("empty", .bl P.em)]
theorem pf_m {tm tf : Addr} {P : Pt} : (pfl tm tf P).lookup ("marks" : Str) = some (.ref tm) := rfl
theorem pf_f {tm tf : Addr} {P : Pt} : (pfl tm tf P).lookup ("first" : Str) = some (.int P.fi) := rfl
theorem pf_l {tm tf : Addr} {P : Pt} : (pfl tm tf P).lookup ("last" : Str) = some (.int P.la) := rfl
theorem pf_fo {tm tf : Addr} {P : Pt} : (pfl tm tf P).lookup ("follow" : Str) = some (.ref tf) := rfl
theorem pf_e {tm tf : Addr} {P : Pt} : (pfl tm tf P).lookup ("empty" : Str) = some (.bl P.em) := rfl
theorem pf_put {tm tf : Addr} {P : Pt} : putF "empty" (.bl P.em) (putF "follow" (.ref tf) (putF "last" (.int P.la) (putF "first" (.int P.fi) (putF "marks" (.ref tm) [])))) = pfl tm tf P := rfl
/-- the values ss are the steps ms -/
def StepsAt (K : PySem.W.Frag) (H : Hp) (ss : List V) (ms : List (Str × Str)) : Prop := ss.length = ms.length ∧ ∀ (i : Nat) (a b : Str), ms[i]? = some (a, b) → ∃ q : Addr, ss[i]? = some (V.ref q) ∧ SqT K H q [V.str a, V.str b]
theorem StepsAt.mono {K : PySem.W.Frag} {H H' : Hp} {ss : List V} {ms : List (Str × Str)} (h : StepsAt K H ss ms) (s : Same H H') : StepsAt K H' ss ms :=
  ⟨h.1, fun i a b e => let ⟨q, h1, h2⟩ := h.2 i a b e; ⟨q, h1, Evl.ex_t s h2⟩⟩
theorem StepsAt.cat {K : PySem.W.Frag} {H : Hp} {ss tt : List V} {ms ns : List (Str × Str)} (h : StepsAt K H ss ms) (k : StepsAt K H tt ns) : StepsAt K H (ss ++ tt) (ms ++ ns) := by
  refine ⟨by rw [List.length_append, List.length_append, h.1, k.1], fun i a b e => ?_⟩
  by_cases hi : i < ms.length
  · rw [List.getElem?_append_left hi] at e
    rw [List.getElem?_append_left (by rw [h.1]; exact hi)]
    exact h.2 i a b e
  · rw [List.getElem?_append_right (by omega)] at e
    rw [List.getElem?_append_right (by rw [h.1]; omega), h.1]
    exact k.2 _ a b e
/-- the pattern P stands at p -/
structure PatAt (K : PySem.W.Frag) (H : Hp) (C p : Addr) (P : Pt) : Prop where
  ok : P.Ok
  ex : ∃ dx tm tf ss, H p = some (.ins C dx (pfl tm tf P)) ∧ SqT K H tm ss ∧ StepsAt K H ss P.ms ∧ SqT K H tf (P.fo.map fun (a : Nat) => V.int a)
theorem PatAt.mono {K : PySem.W.Frag} {H H' : Hp} {C p : Addr} {P : Pt} (h : PatAt K H C p P) (s : Same H H') : PatAt K H' C p P := by
  obtain ⟨o, dx, tm, tf, ss, h1, h2, h3, h4⟩ := h
  exact ⟨o, dx, tm, tf, ss, s _ _ h1, Evl.ex_t s h2, h3.mono s, Evl.ex_t s h4⟩
theorem PatAt.own {K : PySem.W.Frag} {H : Hp} {C p : Addr} {P : Pt} (h : PatAt K H C p P) : Own H p C := by
  obtain ⟨o, dx, tm, tf, ss, h1, _⟩ := h
  exact ⟨dx, _, h1⟩
/-- what the text's class of patterns is asked for -/
structure PCl (K : PySem.W.Frag) (C : Addr) : Prop where
  cl : Cls K C
  m : NoAttr K C "marks"
  f : NoAttr K C "first"
  l : NoAttr K C "last"
  fo : NoAttr K C "follow"
  e : NoAttr K C "empty"
  sf : PySem.W.selfFirst K C = true
/-! ### what signs do to numbers -/
section
variable {σ : L2.St} {H : Hp} {ta tb : TE} {a b : Nat}
theorem ev_or (ha : Evl.Ev ta σ H (.int a)) (hb : Evl.Ev tb σ H (.int b)) : Evl.Ev (tOp (rI0 fun i j => .int (Builtin.bitOr i j)) ta tb) σ H (.int ((a ||| b : Nat) : Int)) :=
  Evl.ev_op ha hb fun H1 _ Q q => ⟨_, _, rfl, rfl, by
    show Q (.int (Builtin.bitOr (a : Int) (b : Int))) H1
    rw [bitOr_nn (Int.natCast_nonneg a) (Int.natCast_nonneg b), Int.toNat_natCast, Int.toNat_natCast]
    exact q H1 (Evl.Ex.refl H1)⟩
theorem ev_and (ha : Evl.Ev ta σ H (.int a)) (hb : Evl.Ev tb σ H (.int b)) : Evl.Ev (tOp (rI0 fun i j => .int (Builtin.bitAnd i j)) ta tb) σ H (.int ((a &&& b : Nat) : Int)) :=
  Evl.ev_op ha hb fun H1 _ Q q => ⟨_, _, rfl, rfl, by
    show Q (.int (Builtin.bitAnd (a : Int) (b : Int))) H1
    rw [PySem.W.os_band]
    exact q H1 (Evl.Ex.refl H1)⟩
theorem ev_shr (ha : Evl.Ev ta σ H (.int a)) (hb : Evl.Ev tb σ H (.int b)) : Evl.Ev (tOp (rI (fun _ j => 0 ≤ j) fun i j => .int (i / 2 ^ j.toNat)) ta tb) σ H (.int ((a >>> b : Nat) : Int)) :=
  Evl.ev_op ha hb fun H1 _ Q q => ⟨_, _, rfl, rfl, Int.natCast_nonneg b, by
    show Q (.int ((a : Int) / 2 ^ (b : Int).toNat)) H1
    rw [Int.toNat_natCast]
    have e : ((a : Int) / 2 ^ b) = ((a >>> b : Nat) : Int) := by rw [Nat.shiftRight_eq_div_pow, Int.natCast_ediv, Int.natCast_pow]; rfl
    rw [e]
    exact q H1 (Evl.Ex.refl H1)⟩
theorem ev_shl {n : Nat} (ha : Evl.Ev ta σ H (.int a)) (hb : Evl.Ev tb σ H (.int b)) (hn : a < 2 ^ n) (h1 : n ≤ 100000) (h2 : b ≤ 100000) : Evl.Ev (tOp (rI CShl fun i j => .int (i * 2 ^ j.toNat)) ta tb) σ H (.int ((a <<< b : Nat) : Int)) :=
  Evl.ev_op ha hb fun H1 _ Q q => ⟨_, _, rfl, rfl, ⟨Int.natCast_nonneg b, by
    have := PySem.intBits_le_iff (m := n) (x := (a : Int)) |>.mpr (by rw [Int.natAbs_natCast]; exact hn)
    omega⟩, by
    show Q (.int ((a : Int) * 2 ^ (b : Int).toNat)) H1
    rw [Int.toNat_natCast]
    have e : ((a : Int) * 2 ^ b) = ((a <<< b : Nat) : Int) := by rw [Nat.shiftLeft_eq, Int.natCast_mul, Int.natCast_pow]; rfl
    rw [e]
    exact q H1 (Evl.Ex.refl H1)⟩
end
end Ss
namespace Ss
open PySem L2 Evl
section
variable {K : PySem.W.Frag} {σ : L2.St} {H : Hp} {te tl ta tb : TE} {tt : TT} {xs : List V} {a : Addr}
theorem walk_enumT : Walk (Iet K a) xs.length (fun H => SqT K H a xs) (YPair (fun i => some (.int (i : Nat))) (fun i => xs[i]?)) := by
  refine ⟨fun n _ hn q => ⟨xs, xs[n], q, List.getElem?_eq_getElem hn⟩, fun _ q => ⟨xs, q, rfl⟩, fun n H v H' _ q y => ?_⟩
  obtain ⟨T, x, h1, h2, h3, h4⟩ := y
  exact ⟨T, .int (n : Nat), x, h1, h2, h3, rfl, h4 xs q⟩
/-- [.. for n, x in enumerate(t)], t a tuple -/
theorem el_lcE {i j : Nat} {vs : List Nat} (v : Nat → V) (h : Ev tl σ H (.ref a)) (hx : SqT K H a xs) (hz : xs.length ≤ 40000) (hw : ∀ x y, wipe (((wipe σ vs).set i (some x)).set j (some y)) vs = wipe σ vs)
    (he : ∀ (n : Nat) (x : V) H1, Ex H H1 → xs[n]? = some x → Ev te (((wipe σ vs).set i (some (.int (n : Nat)))).set j (some x)) H1 (v n)) :
    EvL (tLc (iEnumT K (tCons tl tNil)) (gTup K 2 (gCons (gName i) (gCons (gName j) gNil))) tYes te vs) σ H ((List.range xs.length).map v) := fun H0 e Q q => h H0 e _ fun H1 e1 => by
  refine ⟨a, xs, rfl, ex_t (e.trans e1) hx, fun Dl hD => ?_⟩
  refine lc_it (walk_enumT (xs := xs)) (Cw H1 (fun _ => true) v Dl) ⟨hD, Ex.new hD, upd_same⟩ (fun n H' _ p => ex_t ((e.trans e1).trans p.2.1) hx) (fun n x H' H2 hn p y => ?_) (fun H' p => ?_)
  · obtain ⟨T, x1, x2, rfl, hT, rfl, z1, z2⟩ := y
    cases z1
    have nD : Dl ≠ T := fun z => by rw [← z, p.2.2] at hT; cases hT
    have p' : Cw H1 (fun _ => true) v Dl n (upd H' T (.tup [.int (n : Nat), x2])) := ⟨p.1, Ex.trans p.2.1 (Ex.new hT), by rw [upd_ne nD]; exact p.2.2⟩
    exact ⟨T, _, rfl, st_of upd_same, rfl, _, _, rfl, _, _, rfl, rfl, hw _ _, cw_turn p' (by omega) (fun H3 _ Q3 q3 => q3 H3 (Ex.refl H3)) (fun _ => he n x2 H1 (e.trans e1) z2)⟩
  · have r := p.2.2
    rw [show given xs.length (fun _ => true) v = (List.range xs.length).map v by unfold given; rw [List.filter_eq_self.mpr (fun _ _ => rfl)]] at r
    exact q Dl H' (fresh_back e1 p.1) (e1.trans p.2.1) r
/-- tuple(..) of a new list, of a tuple -/
theorem eu_tuple (h : EvL tl σ H xs) : EvU (tCB (fun xs H Q => ∃ p ys, xs = [.ref p] ∧ ((SqL K H p ys ∧ ∀ l, H l = none → Q (.ref l) (upd H l (.tup ys))) ∨ (SqT K H p ys ∧ Q (.ref p) H))) (tCons tl tNil)) σ H xs := fun H0 e Q q =>
  h H0 e _ fun p H1 hp e1 h1 => ⟨p, xs, rfl, .inl ⟨sq_of h1, fun l hl => q l _ (fresh_back e1 hl) (Ex.trans e1 (Ex.new hl)) upd_same⟩⟩
/-- a tuple of the items xs, new or not -/
def EvS (K : PySem.W.Frag) (te : TE) (σ : L2.St) (H : Hp) (xs : List V) : Prop := ∀ H1, Ex H H1 → ∀ Q : VK, (∀ p H2, Ex H1 H2 → SqT K H2 p xs → Q (.ref p) H2) → te σ H1 Q
theorem EvS.mono {H' : Hp} (e : Ex H H') (h : EvS K te σ H xs) : EvS K te σ H' xs := fun H1 a Q q => h H1 (e.trans a) Q q
theorem EvU.mono {H' : Hp} (e : Ex H H') (h : EvU te σ H xs) : EvU te σ H' xs := fun H1 a Q q => h H1 (e.trans a) Q q
theorem es_new (h : EvU te σ H xs) : EvS K te σ H xs := fun H1 e Q q => h H1 e Q fun p H2 _ e2 h2 => q p H2 e2 (st_of h2)
theorem es_at (h : Ev te σ H (.ref a)) (hx : SqT K H a xs) : EvS K te σ H xs := fun H1 e Q q => h H1 e _ fun H2 e2 => q a H2 e2 (ex_t (e.trans e2) hx)
theorem es_cat {ys : List V} (h1 : EvS K ta σ H xs) (h2 : EvS K tb σ H ys) (hz : xs.length + ys.length ≤ 100000) : EvS K (tOp (rCatA K) ta tb) σ H (xs ++ ys) := fun H1 e Q q =>
  h1 H1 e _ fun p H2 e2 s2 => h2 H2 (e.trans e2) _ fun r H3 e3 s3 => ⟨p, r, xs, ys, rfl, rfl, ex_t e3 s2, s3, sz_of hz, fun z => by subst z; exact q r H3 (e2.trans e3) s3, fun _ z => by subst z; exact q p H3 (e2.trans e3) (by rw [List.append_nil]; exact ex_t e3 s2), fun _ _ l hl => q l _ ((e2.trans e3).trans (Ex.new hl)) (st_of upd_same)⟩
/-- [.. for x in t], t a tuple -/
theorem el_lcTu {j : Nat} {vs : List Nat} (v : Nat → V) (h : Ev tl σ H (.ref a)) (hx : SqT K H a xs) (hz : xs.length ≤ 40000) (hw : ∀ x, wipe ((wipe σ vs).set j (some x)) vs = wipe σ vs)
    (he : ∀ (n : Nat) (x : V) H1, Ex H H1 → xs[n]? = some x → Ev te ((wipe σ vs).set j (some x)) H1 (v n)) :
    EvL (tLc (iTup K tl) (gName j) tYes te vs) σ H ((List.range xs.length).map v) := fun H0 e Q q => h H0 e _ fun H1 e1 => by
  refine ⟨a, rfl, ⟨xs, ex_t (e.trans e1) hx⟩, fun Dl hD => ?_⟩
  refine lc_it (walk_tup (xs := xs)) (Cw H1 (fun _ => true) v Dl) ⟨hD, Ex.new hD, upd_same⟩ (fun n H' _ p => ex_t ((e.trans e1).trans p.2.1) hx) (fun n x H' H2 hn p y => ?_) (fun H' p => ?_)
  · obtain ⟨rfl, z⟩ := y
    exact ⟨hw _, cw_turn p (by omega) (fun H3 _ Q3 q3 => q3 H3 (Ex.refl H3)) (fun _ => he n x H1 (e.trans e1) z)⟩
  · have r := p.2.2
    rw [show given xs.length (fun _ => true) v = (List.range xs.length).map v by unfold given; rw [List.filter_eq_self.mpr (fun _ _ => rfl)]] at r
    exact q Dl H' (fresh_back e1 p.1) (e1.trans p.2.1) r
/-- a field of an object -/
theorem ev_fld {p C dx : Addr} {fs : List (Str × V)} {f : Str} {v : V} (h : Ev te σ H (.ref p)) (e : H p = some (.ins C dx fs)) (c : Cls K C) (n : NoAttr K C f) (l : fs.lookup f = some v) : Ev (tFld K te f) σ H v := fun H1 s Q q =>
  h H1 s _ fun H2 s2 => ⟨p, C, dx, fs, v, rfl, s2 _ _ (s _ _ e), c, n, l, q H2 s2⟩
theorem ev_lenT {p : Addr} (h : Ev te σ H (.ref p)) (hx : SqT K H p xs) : Ev (tCB (rLenS K) (tCons te tNil)) σ H (.int (xs.length : Int)) := fun H1 s Q q =>
  h H1 s _ fun H2 s2 => ⟨p, xs, rfl, .inr (ex_t (s.trans s2) hx), q H2 s2⟩
end
end Ss
namespace Ss
open PySem L2
section
variable {P : Program} {w : World} {K : PySem.W.Frag} {mg : Str → Option Value} {base : Heap}
/-- the error of a wrong place, behind H -/
def BadP (Cn : Addr) (H : Hp) (z : Int) (E : XK) : Prop := ∀ (dd : Addr) (fs : List (Str × V)) (H' : Hp), Same H H' → H' dd = some (.xd fs) → fs.lookup ("place" : Str) = some (V.int z) → E (.ref Cn) (some dd) H'
theorem wth_int {K : PySem.W.Frag} {H : Hp} {i : Int} (h : i.natAbs < 10 ^ 30) : Wth K H (.int i) (.int i) := by
  refine ⟨.int i, rfl, rfl, .inl ?_⟩
  show i.natAbs.log2 < 1920
  by_cases z : i.natAbs = 0
  · rw [z]; decide
  · exact (Nat.log2_lt z).mpr (Nat.lt_trans h (by decide))
/-- the tokens behind a slip -/
def slipAt (ts rem ins : List Str) (n : Nat) : List Str := ts.take n ++ ins ++ ts.drop (n + rem.length)
theorem rem_len {k : RK} {toks : List Str} (h : toks.length = k.many) : (k.rem toks).length ≤ 2 ∧ (k.ins toks).length ≤ 2 := by
  match k, toks, h with
  | .out, [a], _ => exact ⟨Nat.le_of_ble_eq_true rfl, Nat.le_of_ble_eq_true rfl⟩
  | .twice, [a], _ => exact ⟨Nat.le_of_ble_eq_true rfl, Nat.le_of_ble_eq_true rfl⟩
  | .swapped, [a, b], _ => exact ⟨Nat.le_of_ble_eq_true rfl, Nat.le_of_ble_eq_true rfl⟩
  | .taken, [a, b], _ => exact ⟨Nat.le_of_ble_eq_true rfl, Nat.le_of_ble_eq_true rfl⟩
theorem ins_mem {k : RK} {toks : List Str} (h : toks.length = k.many) : ∀ x ∈ k.ins toks, x ∈ toks := by
  match k, toks, h with
  | .out, [a], _ => intro x hx; cases hx
  | .twice, [a], _ => intro x hx; simp only [RK.ins, List.mem_cons, List.not_mem_nil, or_false, or_self] at hx ⊢; exact hx
  | .swapped, [a, b], _ => intro x hx; simp only [RK.ins, List.mem_cons, List.not_mem_nil, or_false] at hx ⊢; exact hx.symm
  | .taken, [a, b], _ => intro x hx; simp only [RK.ins, List.mem_cons, List.not_mem_nil, or_false] at hx ⊢; exact .inr hx
theorem slip_mem {k : RK} {toks ts : List Str} {n : Nat} (h : toks.length = k.many) : ∀ x ∈ slipAt ts (k.rem toks) (k.ins toks) n, x ∈ ts ∨ x ∈ toks := fun x hx => by
  unfold slipAt at hx
  rcases List.mem_append.mp hx with hx | hx
  · rcases List.mem_append.mp hx with hx | hx
    · exact .inl (List.mem_of_mem_take hx)
    · exact .inr (ins_mem h x hx)
  · exact .inl (List.mem_of_mem_drop hx)
theorem slip_len {k : RK} {toks ts : List Str} {n : Nat} (h : toks.length = k.many) : (slipAt ts (k.rem toks) (k.ins toks) n).length ≤ ts.length + ts.length + 2 := by
  unfold slipAt
  have := (rem_len h).2
  rw [List.length_append, List.length_append, List.length_take, List.length_drop]
  omega
theorem cut_toV {xs : List V} {n : Nat} : cutV xs none (some ((n : Nat) : Int)) = xs.take n := by
  unfold cutV
  have e0 : HT.sIx xs.length 0 none = 0 := HT.sIx_none _ _
  rw [e0, HT.sIx_nat, List.drop_zero, Nat.sub_zero]
  by_cases h : n ≤ xs.length
  · rw [Nat.min_eq_left h]
  · rw [Nat.min_eq_right (by omega), List.take_length, List.take_of_length_le (by omega)]
theorem cut_from {xs : List V} {n : Nat} : cutV xs (some ((n : Nat) : Int)) none = xs.drop n := by
  unfold cutV
  have e0 : HT.sIx xs.length xs.length none = xs.length := HT.sIx_none _ _
  rw [e0, HT.sIx_nat]
  by_cases h : n ≤ xs.length
  · rw [Nat.min_eq_left h, List.take_of_length_le (by rw [List.length_drop]; omega)]
  · rw [Nat.min_eq_right (by omega), List.drop_length, List.drop_eq_nil_of_le (by omega), List.take_nil]
abbrev sRcall : Stmt := inClass (topS 14) 6
theorem scRcall : FnScope ["self", "text", "place", "tokens"] ["self", "text", "place"] (defScope sRcall) := ⟨rfl, rfl, rfl, by decide +kernel, rfl, by decide +kernel, by decide +kernel⟩
def spRCall (Cn : Addr) (Cf : RK → Addr) : Sp := fun vs H Q E => ∃ (p : Addr) (z : Str) (pl : Int) (k : RK) (toks : List Str), vs = [.ref p, .str z, .int pl] ∧ z.length ≤ 100000 ∧ RuleAt H (Cf k) p k toks ∧ toks.length = k.many ∧ (toksOf z).length ≤ 1000 ∧ (∀ x ∈ toksOf z, wordOk x) ∧ (∀ x ∈ toks, wordOk x) ∧ pl.natAbs < 10 ^ 30 ∧
  (standsP (toksOf z) (k.rem toks) pl = true → ∀ H', Same H H' → Q (.str (Txt.join " " (slipAt (toksOf z) (k.rem toks) (k.ins toks) pl.toNat))) H') ∧ (standsP (toksOf z) (k.rem toks) pl = false → BadP Cn H pl E)
theorem ok_Rcall {f : Addr} {fd : FuncData} {Cf : RK → Addr} {R Cn : Addr} (F : Fun K "__call__" "Rule.__call__" sRcall f fd) (T : G0 mg) (Z : RTab K mg Cf R) (Dtoks : Dk P w K mg base CX0 2 "tokens_of" ["text"] spRuns) (Dst : ∀ kd, Mm P w K mg base CX0 (Cf kd) 1 "stands" ["self", "tokens", "place"] (spStands K Cf)) (DNoPlace : EDef P w K mg base 3 "NoPlace" Cn "ValueError.__init__" ["self", "place"] (spErr K Cn ["place"] 1)) :
    FnOk P w K mg base (L2.CX P w) 5 f fd ["self", "text", "place"] (spRCall Cn Cf) := by
  refine F.okX scRcall (fun vs H Q E h => ?_) (fun cdv A outer s H vs Q E hr h => ?_)
  · obtain ⟨p, z, pl, k, toks, rfl, _⟩ := h; rfl
  · obtain ⟨p, z, pl, k, toks, rfl, hz, hR, hl, hn, hw, hw2, hpl, k1, k2⟩ := h
    refine ⟨_, (pss_cons (ps_set (i := 3) scRcall.nd rfl (Or.inl rfl) (pe_cd Dtoks hr pass0 (pa_cons (pv 1) pa_nil))) (pss_cons (ps_if (pt_not (pt_val (pe_mdF (pv 0) (fun k => (Z.cl k).cl) Dst hr pass0 (pa_cons (pv 3) (pa_cons (pv 2) pa_nil))))) (pss_one (ps_raise rfl (takes_of rfl rfl rfl rfl) (pmk_ec (n := 1) DNoPlace hr (pa_cons (pv 2) pa_nil) rfl (by decide)))) pss_nil) (pss_one (ps_ret (pe_bm PySem.F.plainAttrs_str PySem.F.slot_str_join PySem.F.type_str_join mt_join pe_str (pa_cons (pe_op op_cat (pe_op op_cat (pe_slice sl_list (pv 3) po_none (po_some (pv 2))) (pe_callTy call_list_of (by rfl) T.list (by decide +kernel) (pa_cons (pe_fld (pv 0) rfl) pa_nil))) (pe_slice sl_list (pv 3) (po_some (pe_op op_add (pv 2) (pe_callB call_len_seq (by rfl) T.len (by decide +kernel) (pa_cons (pe_fld (pv 0) rfl) pa_nil)))) po_none)) pa_nil)))))), ?_⟩
    refine ⟨_, rfl, z, rfl, Nat.le_trans hz (by decide), fun q H1 nq s1 hq => ?_⟩
    have hq : H1 q = some (.lst ((toksOf z).map V.str)) := by rw [hq]; unfold toksOf; rw [List.map_map]; rfl
    have hR := hR.mono s1
    obtain ⟨dx, t, r1, r2, h1, h2, h3, h4⟩ := id hR
    have nst : (([("tokens", V.ref t), ("removed", V.ref r1), ("inserted", V.ref r2)] : List (Str × V))).lookup ("stands" : Str) = none := by
      rw [lookup_hd, if_neg (by decide +kernel), lookup_hd, if_neg (by decide +kernel), lookup_hd, if_neg (by decide +kernel)]
      rfl
    refine ⟨k, _, rfl, p, dx, _, rfl, h1, nst, _, rfl, _, rfl, p, q, pl, k, toks, toksOf z, rfl, hR, SqL.of hq, okS_words hw, okS_words hw2, fun H2 s2 => ⟨_, rfl, ?_⟩⟩
    refine ite2 (fun c => ?_) (fun c => ?_)
    · have c : standsP (toksOf z) (k.rem toks) pl = false := by simpa using c
      exact emkr_one (i := 2) rfl (wth_int hpl) fun dd fs v' H' s h1 h2 h3 => by
        cases h3
        exact k2 c dd fs H' ((s1.trans s2).trans s) h1 h2
    · have c : standsP (toksOf z) (k.rem toks) pl = true := by simpa using c
      have H02 := s1.trans s2
      obtain ⟨n, rfl⟩ : ∃ n : Nat, pl = (n : Int) := by
        unfold standsP at c
        rw [Bool.and_eq_true] at c
        exact ⟨pl.toNat, (Int.toNat_of_nonneg (of_decide_eq_true c.1)).symm⟩
      have hq2 := s2 _ _ hq
      have b1 : (toksOf z).length ≤ 1000 := hn
      have rl := rem_len hl
      have fl : ∀ {G : Hp} {σ : L2.St} {nm : Str} {r : Addr}, Same H2 G → σ[0]? = some (some (.ref p)) → NoAttr K (Cf k) nm → ([("tokens", V.ref t), ("removed", V.ref r1), ("inserted", V.ref r2)] : List (Str × V)).lookup nm = some (V.ref r) → Evl.Ev (tFld K (tVar 0) nm) σ G (.ref r) := fun s h na lk => ev_fld (Evl.ev_var h) (s _ _ (s2 _ _ h1)) (Z.cl k).cl na lk
      have e1 : Evl.EvL (tSl (rSlL K) (tVar 3) tNoPart (tPart (tVar 2))) [some (.ref p), some (.str z), some (.int (n : Nat)), some (.ref q)] H2 (((toksOf z).take n).map V.str) := by
        have := Evl.el_sl (K := K) (te := tVar 3) (σ := [some (.ref p), some (.str z), some (.int (n : Nat)), some (.ref q)]) (lo := none) (hi := some ((n : Nat) : Int)) (Evl.ev_var rfl) Evl.eo_none (Evl.eo_some (Evl.ev_var (i := 2) rfl)) (SqL.of hq2)
        rw [cut_toV, ← List.map_take] at this
        exact this
      have e3 : Evl.EvL (tSl (rSlL K) (tVar 3) (tPart (tOp (rI0 fun i j => .int (i + j)) (tVar 2) (tCB (Evl.rLenS K) (tCons (tFld K (tVar 0) "removed") tNil)))) tNoPart) [some (.ref p), some (.str z), some (.int (n : Nat)), some (.ref q)] H2 (((toksOf z).drop (n + (k.rem toks).length)).map V.str) := by
        have := Evl.el_sl (K := K) (te := tVar 3) (σ := [some (.ref p), some (.str z), some (.int (n : Nat)), some (.ref q)]) (lo := some (((n + (k.rem toks).length : Nat)) : Int)) (hi := none) (Evl.ev_var rfl) (Evl.eo_some (Evl.ev_is (Evl.ev_op (r := rI0 fun i j => V.int (i + j)) (Evl.ev_var (i := 2) rfl) (ev_lenT (K := K) (fl (Same.refl H2) rfl (Z.cl k).r rfl) (SqT.of (s2 _ _ h3))) Evl.rv_I0) (by rw [List.length_map]; rfl))) Evl.eo_none (SqL.of hq2)
        rw [cut_from, ← List.map_drop] at this
        exact this
      have e2 : Evl.EvL (tCB (fun xs H Q => ∃ p ys, xs = [V.ref p] ∧ (SqL K H p ys ∨ SqT K H p ys) ∧ ∀ l, H l = none → Q (.ref l) (upd H l (.lst ys))) (tCons (tFld K (tVar 0) "inserted") tNil)) [some (.ref p), some (.str z), some (.int (n : Nat)), some (.ref q)] H2 ((k.ins toks).map V.str) := fun G s Q1 q1 =>
        (fl (Same.refl H2) rfl (Z.cl k).i rfl) G s _ fun G2 s3 => ⟨r2, _, rfl, .inr (SqT.of ((s.trans s3) _ _ (s2 _ _ h4))), fun l nl => q1 l _ (Evl.fresh_back s3 nl) (s3.trans (Evl.Ex.new nl)) upd_same⟩
      have ec := el_catN (el_catN e1 e2 (by rw [List.length_map, List.length_map, List.length_take]; omega)) e3 (by rw [List.length_append, List.length_map, List.length_map, List.length_map, List.length_take, List.length_drop]; omega)
      have wo : ∀ y ∈ slipAt (toksOf z) (k.rem toks) (k.ins toks) n, wordOk y := fun y hy => (slip_mem hl y hy).elim (hw y) (hw2 y)
      have lo : (slipAt (toksOf z) (k.rem toks) (k.ins toks) n).length ≤ 100000 := by
        have := slip_len (ts := toksOf z) (n := n) hl
        omega
      have k1' := k1 c
      rw [Int.toNat_natCast] at k1'
      dsimp only [tNext]
      refine Evl.s_ret (v := .str (Txt.join " " (slipAt (toksOf z) (k.rem toks) (k.ins toks) n))) (fun G s Q1 q1 => ?_) fun H3 s3 => k1' H3 (H02.trans s3)
      refine ⟨rfl, ec G s _ fun l H3 nl s3 hl3 => ?_⟩
      have hl3 : H3 l = some (.lst ((slipAt (toksOf z) (k.rem toks) (k.ins toks) n).map V.str)) := by rw [hl3]; unfold slipAt; rw [List.map_append, List.map_append]
      exact ⟨" ", l, _, rfl, rfl, .inl (SqL.of hl3), joinB wo lo, q1 H3 s3⟩
end
end Ss
namespace L2
open PySem PySem.Spec PyProof.Rows
/-! ### range(a, b) of any ints -/
theorem turn_long {P : Program} {w : World} {K : PySem.W.Frag} {tg : Expr} (it : Addr) (lo : Int) (n : Nat) : Turn P w K tg (Itr lo n) [it] it (fun i h => IsLongIter h it (lo + (i : Nat) * 1) ((n : Int) - (i : Nat)) 1) where
  mem := by simp
  obj := fun i h st b hb => by
    have e : b = it := by simpa using hb
    subst e
    exact ⟨_, st, fun v z => by
      have z' : Data.fields _ = Data.cell v := z
      cases z'⟩
  keep := fun i h h' st k => k it (by simp) _ st
  item := by
    intro X hP hw hK hc i pins s σ H E I hf st hg
    subst hP hw hK
    obtain ⟨f0, f1, f2, f3, f4, f5⟩ := hf it (by simp)
    have W := Walks.longrange (prog := X.prog) (w := X.w) (I.ok.hd hc) it lo 1 n
    refine W.item i s _ _ hg st fun v h' tk hv st' kk => ?_
    obtain ⟨t, rfl⟩ := hv
    have I1 : Inv X pins σ H { s with heap := h', toks := tk } := I.turned (fun b o hb e => kk b o (by simpa using hb) e) f0 f1 f3 f4 f5
    refine ⟨_, rfl, go_of (s := { s with heap := h', toks := tk }) (n := "longrange_iterator") st' rfl rfl (by decide) ⟨.int (lo + i), H, I1, ⟨t, ?_⟩, ⟨rfl, rfl⟩, st', fun b hb => (hf b hb).1⟩⟩
    rw [Int.mul_one]
  done := by
    intro X hP hw hK hc i pins s σ H E I hf st hg
    subst hP hw hK
    obtain ⟨f0, f1, f2, f3, f4, f5⟩ := hf it (by simp)
    exact wpAny_pyNext_long_end (I.ok.hd hc) st (by have : n ≤ i := hg; omega) fun h' eb => ⟨rfl, I.turned (t' := s.toks) (fun b o hb e => eb b o hb e) f0 f1 f3 f4 f5⟩
  self := fun _ _ _ _ _ st h => wpAny_pyIter_longiter st h
section
variable {X : Cx} {tg : Expr}
theorem range_itA {pins : List (Addr × Obj)} {σ : St} {H : Hp} {s : Shared} {R : It → Hp → Prop} {E : Value → Shared → Prop} {lo hi : Int} {t u v : Tok} {tk : Nat} (I : Inv X pins σ H s)
    (q : R (Itr lo (hi - lo).toNat) H) : wpAny (model X.prog X.w) X.A (pyIter (.ref s.heap.objs.size)) (PIE X pins σ tg R) E { s with heap := s.heap.push { cls := .type "range", data := .fields #[.int lo t, .int hi u, .int 1 v] }, toks := tk } := by
  have I1 : Inv X pins σ H { s with heap := s.heap.push { cls := .type "range", data := .fields #[.int lo t, .int hi u, .int 1 v] }, toks := tk } := I.kept fun b o e => Heap.get?_push_of_some _ e
  have e1 : lo + ((0 : Nat) : Int) * 1 = lo := by simp
  have e2 : (((hi - lo).toNat : Nat) : Int) - ((0 : Nat) : Int) = Builtin.Range.rangeSize lo hi 1 := by rw [rangeSize_one]; split <;> omega
  have fr : ∀ {ob : Obj}, ∀ b ∈ [(s.heap.push ob).objs.size], True := fun _ _ => trivial
  cases hs : Builtin.Range.small lo hi 1 with
  | true =>
    refine wpAny_pyIter_range (IsRange.new ..) hs ?_
    refine ⟨(s.heap.push { cls := .type "range", data := .fields #[.int lo t, .int hi u, .int 1 v] }).objs.size, [(s.heap.push { cls := .type "range", data := .fields #[.int lo t, .int hi u, .int 1 v] }).objs.size], _, _, H, rfl,
      I1.kept (t' := tk) fun b o e => Heap.get?_push_of_some _ e, turn_range _ lo (hi - lo).toNat, ?_, fun b hb => ?_, q⟩
    · show IsRangeIter _ _ (lo + ((0 : Nat) : Int) * 1) ((((hi - lo).toNat : Nat) : Int) - ((0 : Nat) : Int)) 1
      rw [e1, e2]
      exact Heap.get?_push_size _ rfl
    · have e : b = (s.heap.push { cls := .type "range", data := .fields #[.int lo t, .int hi u, .int 1 v] }).objs.size := by simpa using hb
      subst e
      exact I1.fpOk (Nat.le_refl _) (I1.hok.fresh (Nat.le_refl _))
  | false =>
    refine wpAny_pyIter_longrange (IsRange.new ..) hs ?_
    refine ⟨(s.heap.push { cls := .type "range", data := .fields #[.int lo t, .int hi u, .int 1 v] }).objs.size, [(s.heap.push { cls := .type "range", data := .fields #[.int lo t, .int hi u, .int 1 v] }).objs.size], _, _, H, rfl,
      I1.kept (t' := tk) fun b o e => Heap.get?_push_of_some _ e, turn_long _ lo (hi - lo).toNat, ?_, fun b hb => ?_, q⟩
    · show IsLongIter _ _ (lo + ((0 : Nat) : Int) * 1) ((((hi - lo).toNat : Nat) : Int) - ((0 : Nat) : Int)) 1
      rw [e1, e2]
      exact Heap.get?_push_size _ rfl
    · have e : b = (s.heap.push { cls := .type "range", data := .fields #[.int lo t, .int hi u, .int 1 v] }).objs.size := by simpa using hb
      subst e
      exact I1.fpOk (Nat.le_refl _) (I1.hok.fresh (Nat.le_refl _))
def iRngA (ta : TA) : TI := fun σ H R => ta σ H fun vs H1 => ∃ i j : Int, vs = [.int i, .int j] ∧ R (Itr i (j - i).toNat) H1
theorem pi_range2A {a b : Expr} {ta : TA} {p pos : Pos} (hg : Gl X "range") (hm : X.mg "range" = none) (ha : PA X [a, b] ta) (hs : starEach [a, b] X.env = [(false, eval a X.env), (false, eval b X.env)] := by rfl) (hs2 : starEach [b] X.env = [(false, eval b X.env)] := by rfl) :
    PI X tg (.Call (.Name "range" p) [a, b] [] pos) (iRngA ta) := by
  refine ⟨fun pins s σ H R I h => ?_⟩
  refine Call_ (ld_blt I hg hm boot_range (PyProof.Rows.callWith_type1 (thn (ha.run pos pins s σ H _ I h) fun us s1 ⟨vs, H1, I1, r1, q1⟩ => ?_) (by rw [hs, hs2]) (by rw [hs2]; rfl)))
  obtain ⟨i, j, e, q⟩ := q1
  subst e
  cases r1 with
  | cons r rr =>
    cases rr with
    | cons r' rr =>
      cases rr
      obtain ⟨t, rfl⟩ := r
      obtain ⟨t', rfl⟩ := r'
      exact call_range_2 (range_itA I1 q)
end
end L2
namespace Ss
open PySem L2 PySem.Spec PyProof.Rows Evl
theorem Room.u65 {j : Nat} {A : Around} (hr : Room j A) : A.units + 65 < cLine := by have := hr.un; omega
theorem call_lenK {X : Cx} {K : PySem.W.Frag} (h : X.K = K) : CallR X (.builtin "len") (rLenS K) := by subst h; exact call_len_seq
theorem sl_lK {X : Cx} {K : PySem.W.Frag} (h : X.K = K) : SlR X (rSlL K) := by subst h; exact sl_list
theorem op_eqDK {X : Cx} {K : PySem.W.Frag} (h : X.K = K) (hu : X.A.units + 64 < cLine) : OpR X (compareOp .Eq) (rEqD K) := by subst h; exact op_eqD hu
section
variable {K : PySem.W.Frag} {σ : L2.St} {H : Hp} {ta tb tv te : TE} {t : TT} {xs : List V}
theorem el_lcRA {tt : TA} {j : Nat} {vs : List Nat} {lo : Int} {n : Nat} (f : Nat → Bool) (v : Nat → V) (h : EvA tt σ H [.int lo, .int (lo + (n : Nat))]) (hn : n ≤ 40000) (hw : ∀ x, wipe ((wipe σ vs).set j (some x)) vs = wipe σ vs)
    (ht : ∀ (i : Nat) H1, Ex H H1 → i < n → EvT t ((wipe σ vs).set j (some (.int (lo + (i : Int))))) H1 (f i)) (he : ∀ (i : Nat) H1, Ex H H1 → i < n → f i = true → Ev te ((wipe σ vs).set j (some (.int (lo + (i : Int))))) H1 (v i)) :
    EvL (tLc (iRngA tt) (gName j) t te vs) σ H (given n f v) := fun H0 e Q q => h H0 e _ fun H1 e1 => ⟨lo, _, rfl, fun Dl hD => by
  rw [show (lo + (n : Nat) - lo).toNat = n by omega]
  exact lc_range (lo := lo) (n := n) (Cw H1 f v Dl) ⟨hD, Ex.new hD, upd_same⟩ (fun i H' hi p => ⟨hw _, cw_turn p (by omega) (ht i H1 (e.trans e1) hi) (fun hf => he i H1 (e.trans e1) hi hf)⟩) (fun H' p => q Dl H' (fresh_back e1 p.1) (e1.trans p.2.1) p.2.2)⟩
theorem el_ifT {b : Bool} (h : EvT t σ H b) (h1 : b = true → EvL ta σ H xs) (h2 : b = false → EvL tb σ H xs) : EvL (tIf t ta tb) σ H xs := fun H1 s Q q => h H1 s _ fun H2 s2 => by
  cases b with
  | true => exact h1 rfl H2 (s.trans s2) Q fun p H3 n3 s3 e3 => q p H3 (fresh_back s2 n3) (s2.trans s3) e3
  | false => exact h2 rfl H2 (s.trans s2) Q fun p H3 n3 s3 e3 => q p H3 (fresh_back s2 n3) (s2.trans s3) e3
theorem rv_eqLs {p q : Addr} {a b : List Str} (ha : a.all okS = true) (hb : b.all okS = true) (h1 : SqL K H p (a.map V.str)) (h2 : SqL K H q (b.map V.str)) : RV (rEqD K) (.ref p) (.ref q) H (.bl (decide (a = b))) := fun H1 e Q k =>
  ⟨_, _, .lst (ex_l e h1) (dp_strs a), .lst (ex_l e h2) (dp_strs b), shaped_strs ha, shaped_strs hb, by
    show Q (.bl (PyData.eqvAll _ _)) H1
    rw [eqvAll_strs]; exact k H1 (Ex.refl H1)⟩
/-- l not in [[], [x]] -/
theorem ev_notIn2 {l : List Str} {y : Str} (ha : EvL ta σ H (l.map V.str)) (hv : Ev tv σ H (.str y)) (ox : l.all okS = true) (oy : okS y = true) :
    Ev (tOp (rNotInD K) ta (tLst (tCons (tLst tNil) (tCons (tLst (tCons tv tNil)) tNil)))) σ H (.bl (!(decide (l = []) || decide (l = [y])))) := fun H0 s Q q =>
  ha H0 s _ fun p H1 np s1 e1 => by
  refine ⟨Nat.zero_le _, fun q1 n1 => ?_⟩
  have s2 : Ex H1 (upd H1 q1 (.lst [])) := Ex.new n1
  have e2 : upd H1 q1 (.lst []) q1 = some (.lst []) := upd_same
  generalize upd H1 q1 (.lst []) = H2 at s2 e2 ⊢
  refine hv H2 ((s.trans s1).trans s2) _ fun H3 s3 => ?_
  refine ⟨by show 1 ≤ sizeLine; decide, fun q2 n2 => ?_⟩
  have s3b : Ex H3 (upd H3 q2 (.lst [.str y])) := Ex.new n2
  have e3 : upd H3 q2 (.lst [.str y]) q2 = some (.lst [.str y]) := upd_same
  generalize upd H3 q2 (.lst [.str y]) = H4 at s3b e3 ⊢
  refine ⟨by show 2 ≤ sizeLine; decide, fun q3 hq3 => ?_⟩
  have s4 : Ex H4 (upd H4 q3 (.lst [.ref q1, .ref q2])) := Ex.new hq3
  have s34 := s3.trans s3b
  have oyl : ([y] : List Str).all okS = true := by rw [List.all_cons, oy]; rfl
  refine ⟨_, [.list [], .list [.str y]], .lst (SqL.of (s4 _ _ (s34 _ _ (s2 _ _ e1)))) (dp_strs l), .lst (SqL.of upd_same) (.cons (.lst (SqL.of (s4 _ _ (s34 _ _ e2))) .nil) (.cons (.lst (SqL.of (s4 _ _ e3)) (.cons (.str y) .nil)) .nil)), shaped_strs ox, ?_, ?_⟩
  · have o : PyData.canLay0 (.str y) = true := oy
    show ((true && ((PyData.canLay0 (.str y) && true) && true)) && decide (_ ≤ 64)) = true
    rw [o]
    rfl
  · have e : (([.list [], .list [.str y]] : List PyData).any fun z => PyData.eqv z (.list (l.map PyData.str))) = (decide (l = []) || decide (l = [y])) := by
      show (PyData.eqvAll (([] : List Str).map PyData.str) (l.map PyData.str) || (PyData.eqvAll (([y] : List Str).map PyData.str) (l.map PyData.str) || false)) = _
      rw [eqvAll_strs, eqvAll_strs, Bool.or_false]
      congr 1 <;> exact decide_eq_decide.mpr eq_comm
    rw [e]
    exact q _ (((s1.trans s2).trans s34).trans s4)
theorem dp_ints {K : PySem.W.Frag} {H : Hp} : ∀ (bs : List Int), DpAll K H (bs.map V.int) (bs.map PyData.int)
  | [] => .nil
  | b :: bs => .cons (.int b) (dp_ints bs)
theorem shaped_ints : ∀ bs : List Int, SeqAt.shaped (.list (bs.map PyData.int)) = true := fun bs => by
  have a : ∀ bs : List Int, PyData.canLayAll0 (bs.map PyData.int) = true := fun bs => by induction bs with
    | nil => rfl
    | cons b bs ih => show (true && PyData.canLayAll0 (bs.map PyData.int)) = true; rw [ih]; rfl
  have d : ∀ bs : List Int, PyData.depthAll (bs.map PyData.int) = 0 := fun bs => by induction bs with
    | nil => rfl
    | cons b bs ih => show max 0 (PyData.depthAll (bs.map PyData.int)) = 0; rw [ih]; rfl
  show (PyData.canLayAll0 (bs.map PyData.int) && decide (PyData.depthAll (bs.map PyData.int) + 1 ≤ 64)) = true
  rw [a, d]; rfl
/-- l != [], l of ints -/
theorem ev_neNil {p : Addr} {is : List Int} (h : Ev te σ H (.ref p)) (hp : SqL K H p (is.map V.int)) : Ev (tOp (rNeD K) te (tLst tNil)) σ H (.bl (!decide (is = []))) :=
  ev_opL h (el_lst ea_nil (by decide)) fun q H1 h2 s1 H2 e Q k => ⟨_, _, .lst (ex_l (s1.trans e) hp) (dp_ints is), .lst (SqL.of (e _ _ h2)) .nil, shaped_ints is, rfl, by
    have q : PyData.eqv (.list (is.map PyData.int)) (.list []) = decide (is = []) := by cases is <;> rfl
    rw [q]; exact k H2 (Ex.refl H2)⟩
end
end Ss
namespace Ss
open PySem L2
theorem op_inKw {X : Cx} {K : PySem.W.Frag} (h : X.K = K) : OpR X (compareOp .In) (rIn K false) := h ▸ op_in_seq
end Ss
namespace Ss
open PySem L2
section
variable {P : Program} {w : World} {K : PySem.W.Frag} {mg : Str → Option Value} {base : Heap}
/-- a drawn rule that may meet the tokens -/
def spMeet (K : PySem.W.Frag) : Sp := fun vs H Q _ => ∃ (b t p : Addr) (n : Nat) (ts ws : List Str), vs = [.ref b, .ref t, .ref p] ∧ Bag H b n ∧ n ≤ 700000000 ∧ t ≠ b ∧ p ≠ b ∧ SqL K H t (ts.map V.str) ∧ SqL K H p (ws.map V.str) ∧ ts.length ≤ 1000 ∧ (∀ x ∈ ts, x ∈ ws) ∧ ws.all okS = true ∧ 2 ≤ ws.length ∧ ws.length ≤ 1000 ∧ ws.Nodup ∧
  ∀ (q : Addr) (k : RK) (toks : List Str) (H' : Hp), Off b H H' → Bag H' b (n + 8) → H q = none → H' q = some (.tup ((k.word :: toks).map V.str)) → toks.length = k.many → (∀ z ∈ toks, z ∈ ws) → toks.Nodup → Q (.ref q) H'
theorem back_off {b t : Addr} {H H' : Hp} {n : Nat} (O : Off b H H') (B : Bag H' b n) (ht : H' t = none) : H t = none := by
  cases e : H t with
  | none => rfl
  | some o =>
    by_cases c : t = b
    · obtain ⟨d, m, cc, hb, _⟩ := B
      rw [c, hb] at ht; cases ht
    · rw [O t o c e] at ht; cases ht
theorem Off.same {b : Addr} {H H1 H2 : Hp} (O : Off b H H1) (s : Same H1 H2) : Off b H H2 := fun a o n h => s _ _ (O a o n h)
theorem kd5 {x : V} (hx : x ∈ ([.str "out", .str "twice", .str "swapped", .str "taken", .str "swapped"] : List V)) : ∃ k : RK, x = V.str k.word := by
  simp only [List.mem_cons, List.not_mem_nil, or_false] at hx
  rcases hx with rfl | rfl | rfl | rfl | rfl
  · exact ⟨.out, rfl⟩
  · exact ⟨.twice, rfl⟩
  · exact ⟨.swapped, rfl⟩
  · exact ⟨.taken, rfl⟩
  · exact ⟨.swapped, rfl⟩
theorem given_filterW {l : List Str} {p : Str → Bool} : Evl.given l.length (fun i => p (l.getD i Str.empty)) (fun i => V.str (l.getD i Str.empty)) = (l.filter p).map V.str := by
  unfold Evl.given
  rw [show (fun i => V.str (l.getD i Str.empty)) = V.str ∘ (fun i => l.getD i Str.empty) from rfl, ← List.map_map]
  congr 1
  have e : l = (List.range l.length).map fun i => l.getD i Str.empty := by
    refine List.ext_getElem (by simp) fun i h1 h2 => ?_
    simp only [List.getElem_map, List.getElem_range]
    rw [List.getD_eq_getElem?_getD, List.getElem?_eq_getElem h1]; rfl
  conv => rhs; rw [e, List.filter_map]
  rfl
theorem two_ne {ws : List Str} (nd : ws.Nodup) (h : 2 ≤ ws.length) (a : Str) : 1 ≤ (ws.filter fun x => !decide (x = a)).length := by
  refine List.length_pos_iff.mpr fun z => ?_
  have al : ∀ x ∈ ws, x = a := fun x hx => by
    refine Classical.byContradiction fun ne => ?_
    have : x ∈ ws.filter fun x => !decide (x = a) := List.mem_filter.mpr ⟨hx, by rw [decide_eq_false ne]; rfl⟩
    rw [z] at this; cases this
  cases ws with
  | nil => exact absurd h (by decide)
  | cons x r => cases r with
    | nil => exact absurd (show 2 ≤ 1 from h) (by decide)
    | cons y r =>
      have e1 := al x List.mem_cons_self
      have e2 := al y (List.mem_cons_of_mem _ List.mem_cons_self)
      exact (List.nodup_cons.mp nd).1 (by rw [e1, ← e2]; exact List.mem_cons_self)
abbrev sMeet : Stmt := topS 27
theorem scMeet : FnScope ["bag", "tokens", "every", "word", "at", "first", "token"] ["bag", "tokens", "every"] (defScope sMeet) := ⟨rfl, rfl, rfl, by decide +kernel, rfl, by decide +kernel, by decide +kernel⟩
theorem ok_meet (F : DefAt K mg "_law_meeting" sMeet) (T : G0 mg) (Dtake : Dk P w K mg base CX0 1 "_law_take" ["dice", "many"] spTake) (Dof : Dk P w K mg base CX0 2 "_law_of" ["dice", "some"] (spOf K)) (Drule : Dk P w K mg base CX0 3 "_law_rule" ["bag", "every"] (spRule K)) : Dk P w K mg base CX0 4 "_law_meeting" ["bag", "tokens", "every"] (spMeet K) := by
  obtain ⟨f, fd, F, mf⟩ := F.ex
  refine ⟨f, fd, F.ok scMeet (fun vs H Q E h => ?_) (fun cdv A outer s H vs Q E hr h => ?_), mf, F.kp, F.binds fun _ _ _ _ _ _ us hl => match us, hl with | [_, _, _], _ => rfl⟩
  · obtain ⟨b, t, p, n, ts, ws, rfl, _⟩ := h; rfl
  · obtain ⟨b, t, p, n, ts, ws, rfl, hB, hn, htb, hpb, hT, hS, h1, hin, hok, h2, h3, nd, k⟩ := h
    refine ⟨_, (pss_cons (ps_set (i := 3) scMeet.nd rfl (Or.inl rfl) (pe_cd Dof hr pass0 (pa_cons (pv 0) (pa_cons (pe_lst (pa_cons pe_str (pa_cons pe_str (pa_cons pe_str (pa_cons pe_str (pa_cons pe_str pa_nil)))))) pa_nil)))) (pss_cons (ps_if (PW.pt (pw_or (pt_cmpR (op_eqD hr.units) (pv 1) (pe_lst pa_nil) (nomark _)) (pw_or1 (pt_cmpR op_eq (pe_cd Dtake hr pass0 (pa_cons (pv 0) (pa_cons pe_int pa_nil))) pe_int (nomark _))))) (pss_one (ps_ret (pe_cd Drule hr pass0 (pa_cons (pv 0) (pa_cons (pv 2) pa_nil))))) pss_nil) (pss_cons (ps_set (i := 4) scMeet.nd rfl (Or.inl rfl) (pe_cd Dtake hr pass0 (pa_cons (pv 0) (pa_cons (pe_callB call_len_seq (by rfl) T.len (by decide +kernel) (pa_cons (pv 1) pa_nil)) pa_nil)))) (pss_cons (ps_set (i := 5) scMeet.nd rfl (Or.inr rfl) (pe_ix ix_list (pv 1) (pv 4) (fun _ _ => rfl))) (pss_cons (ps_if (PW.pt (pw_and (pt_cmpR op_eq (pv 3) pe_str (nomark _)) (pw_and1 (pt_cmpR (op_notInD (Room.u65 hr)) (pe_slice sl_list (pv 1) (po_some (pe_op op_add (pv 4) pe_int)) (po_some (pe_op op_add (pv 4) pe_int))) (pe_lst (pa_cons (pe_lst pa_nil) (pa_cons (pe_lst (pa_cons (pv 5) pa_nil)) pa_nil))) (by rfl))))) (pss_one (ps_ret (pe_tup (pa_cons (pv 3) (pa_cons (pv 5) (pa_cons (pe_ix ix_list (pv 1) (pe_op op_add (pv 4) pe_int) (fun _ _ => rfl)) pa_nil)))))) pss_nil) (pss_cons (ps_if (pt_cmpR op_in_seq (pv 3) (pe_lst (pa_cons pe_str (pa_cons pe_str pa_nil))) (by rfl)) (pss_one (ps_ret (pe_tup (pa_cons pe_str (pa_cons (pv 5) (pa_cons (pe_cd Dof hr pass0 (pa_cons (pv 0) (pa_cons (pe_lc (own := [("token", 6)]) (g := gName 6) rfl scMeet.nd (pi_list (pv 2)) (blkOk_by (N := ["bag", "tokens", "every", "word", "at", "first", "token"]) (sc := defScope sMeet) (by decide +kernel)) (fun _ _ _ _ _ => (pg_name (i := 6) scMeet.nd rfl (.inl rfl))) (fun _ _ _ _ _ => (pts_one (pt_cmpR op_ne (pv 6) (pv 5) (nomark _)))) (fun _ _ _ _ _ => (pv 6))) pa_nil))) pa_nil)))))) pss_nil) (pss_one (ps_ret (pe_tup (pa_cons (pv 3) (pa_cons (pv 5) pa_nil))))))))))), ?_⟩
    have okT : ts.all okS = true := List.all_eq_true.mpr fun x hx => List.all_eq_true.mp hok x (hin x hx)
    have h200 : (1000 : Int) < 2 ^ 200 := by decide
    refine ⟨_, rfl, by show 5 ≤ sizeLine; decide, fun q0 hq0 => ?_⟩
    refine ⟨b, n, hB.new hq0, by omega, .inl ⟨q0, _, rfl, (hB.ne hq0).symm, SqL.of upd_same, by show 1 ≤ 5; decide, by show 5 ≤ 1000000; decide, fun x H1 hx O1 B1 => ?_⟩⟩
    obtain ⟨kd, rfl⟩ := kd5 hx
    have O1 : Off b H H1 := (Off.new (Off.refl b H) hq0).trans O1
    have T1 := O1.seq htb hT
    have fall : ∀ {H2 : Hp} {D : Ends} {σ : L2.St}, Off b H H2 → Bag H2 b (n + 2) → σ[0]? = some (some (.ref b)) → σ[2]? = some (some (.ref p)) → (∀ v H', Q v H' → D.rt v H') → tRet (tCall (spRule K) [] E0 (tCons (tVar 0) (tCons (tVar 2) tNil))) D σ H2 := fun O2 B2 e0 e2 hd => by
      refine ⟨_, e0, _, e2, b, p, _, ws, rfl, B2, by omega, hpb, O2.seq hpb hS, h2, h3, nd, fun q k' toks H' O' B' nq hq l1 m1 n1 => hd _ _ (k q k' toks H' (O2.trans O') (B'.mono (by omega)) (back_off O2 B2 nq) hq l1 m1 n1)⟩
    have evE : Evl.Ev (tOp (rEqD K) (tVar 1) (tLst tNil)) [some (.ref b), some (.ref t), some (.ref p), some (.str kd.word), none, none, none] H1 (.bl (decide (ts = []))) := Evl.ev_opL (Evl.ev_var rfl) (Evl.el_lst (vs := (([] : List Str).map V.str)) Evl.ea_nil (Nat.zero_le _)) fun _ _ h s => rv_eqLs okT rfl (Evl.ex_l s T1) (SqL.of h)
    refine evE H1 (Evl.Ex.refl H1) _ fun H2 s2 => ?_
    refine ⟨_, rfl, ?_⟩
    have O2 := O1.same s2
    have B2 := B1.same s2
    refine ite2 (fun e0 => ?_) (fun e0 => ?_)
    · refine ite2 (fun _ => ?_) (fun z => absurd rfl z)
      exact fall O2 (B2.mono (by omega)) rfl rfl fun _ _ h => h
    have e0 : ts ≠ [] := fun z => e0 (decide_eq_true z)
    have lts : 0 < ts.length := List.length_pos_iff.mpr e0
    refine ⟨_, rfl, b, _, _, rfl, B2, by omega, by omega, by omega, fun u H3 u0 u1 O3 B3 => ⟨rfl, _, rfl, ?_⟩⟩
    have O3 := O2.trans O3
    refine ite2 (fun c0 => ?_) (fun c0 => ?_)
    · exact fall O3 (B3.mono (by omega)) rfl rfl fun _ _ h => h
    -- at = take(len(tokens)) ; first
    refine ⟨_, rfl, _, rfl, t, _, rfl, .inl (O3.seq htb hT), ?_⟩
    rw [List.length_map]
    refine ⟨b, _, _, rfl, B3, by omega, by omega, by omega, fun i H4 i0 i1 O4 B4 => ?_⟩
    have O4 := O3.trans O4
    have T4 := O4.seq htb hT
    obtain ⟨ni, rfl⟩ : ∃ a : Nat, i = (a : Int) := ⟨i.toNat, (Int.toNat_of_nonneg i0).symm⟩
    have hni : ni < ts.length := by omega
    have gi : (ts.map V.str)[ni]? = some (V.str ts[ni]) := by rw [List.getElem?_map, List.getElem?_eq_getElem hni]; rfl
    have okF : okS ts[ni] = true := List.all_eq_true.mp okT _ (List.getElem_mem hni)
    refine Evl.q_asg (v := .str ts[ni]) (Evl.ev_op (Evl.ev_var rfl) (Evl.ev_var rfl) (Evl.rv_ixL T4 (atI_nat gi))) fun H5 s5 => ?_
    have O5 := O4.same s5
    have B5 := B4.same s5
    have T5 := O5.seq htb hT
    have memF : ts[ni] ∈ ws := hin _ (List.getElem_mem hni)
    -- the two next
    let l2 : List Str := (ts.drop (ni + 1)).take 1
    have ec : cutV (ts.map V.str) (some ((ni : Int) + 1)) (some ((ni : Int) + 2)) = l2.map V.str := by
      have q := cut_nat (xs := ts.map V.str) (n := ni + 1) (m := 1)
      rw [show (((ni + 1 : Nat) : Int) + ((1 : Nat) : Int)) = (ni : Int) + 2 by omega, show ((ni + 1 : Nat) : Int) = (ni : Int) + 1 by omega] at q
      rw [q, ← List.map_drop, ← List.map_take]
    have evL : Evl.EvL (tSl (rSlL K) (tVar 1) (tPart (tOp (rI0 fun i j => .int (i + j)) (tVar 4) (tC (.int 1)))) (tPart (tOp (rI0 fun i j => .int (i + j)) (tVar 4) (tC (.int 2))))) [some (.ref b), some (.ref t), some (.ref p), some (.str kd.word), some (.int (ni : Nat)), some (.str ts[ni]), none] H5 (l2.map V.str) := by
      rw [← ec]
      exact Evl.el_sl (Evl.ev_var rfl) (Evl.eo_some (Evl.ev_op (Evl.ev_var rfl) Evl.ev_c Evl.rv_I0)) (Evl.eo_some (Evl.ev_op (Evl.ev_var rfl) Evl.ev_c Evl.rv_I0)) T5
    have okL : l2.all okS = true := List.all_eq_true.mpr fun x hx => List.all_eq_true.mp okT x (List.mem_of_mem_drop (List.mem_of_mem_take hx))
    have evN := ev_notIn2 (K := K) evL (Evl.ev_var (i := 5) rfl) okL okF
    refine Evl.q_when (b := decide (V.str kd.word = V.str "swapped") && !(decide (l2 = []) || decide (l2 = [ts[ni]]))) (Evl.et_and (Evl.et_test (Evl.ev_op (Evl.ev_var rfl) Evl.ev_c (Evl.rv_eq rfl))) fun _ => Evl.et_test evN) (fun c H6 s6 => ?_) (fun c H6 s6 => ?_)
    · rw [Bool.and_eq_true, Bool.not_eq_true', Bool.or_eq_false_iff] at c
      obtain ⟨c1, c2, c3⟩ := c
      have hk : kd = .swapped := by
        revert c1
        cases kd <;> first | exact fun _ => rfl | (intro c; exact absurd c (by decide +kernel))
      subst hk
      have hlt : ni + 1 < ts.length := by
        refine Classical.byContradiction fun z => of_decide_eq_false c2 ?_
        show (ts.drop (ni + 1)).take 1 = []
        rw [List.drop_eq_nil_of_le (by omega)]; rfl
      have e2 : l2 = [ts[ni + 1]] := by
        show (ts.drop (ni + 1)).take 1 = _
        rw [List.drop_eq_getElem_cons hlt]; rfl
      have gn : (ts.map V.str)[ni + 1]? = some (V.str ts[ni + 1]) := by rw [List.getElem?_map, List.getElem?_eq_getElem hlt]; rfl
      have O6 := O5.same s6
      refine Evl.s_retU (xs := ((RK.swapped).word :: [ts[ni], ts[ni + 1]]).map V.str) (Evl.eu_tup (Evl.ea_cons (Evl.ev_var rfl) (Evl.ea_cons (Evl.ev_var rfl) (Evl.ea_cons (Evl.ev_op (Evl.ev_var rfl) (Evl.ev_op (Evl.ev_var rfl) Evl.ev_c Evl.rv_I0) (Evl.rv_ixL (O6.seq htb hT) (i := (ni : Int) + 1) (by rw [show (ni : Int) + 1 = ((ni + 1 : Nat) : Int) by omega]; exact atI_nat gn))) Evl.ea_nil))) (by show 3 ≤ 100000; decide)) fun q H7 nq s7 hq => ?_
      refine k q .swapped [ts[ni], ts[ni + 1]] H7 (O6.same s7) (((B5.same s6).same s7).mono (by omega)) (back_off O6 (B5.same s6) nq) hq rfl (fun z hz => ?_) ?_
      · simp only [List.mem_cons, List.not_mem_nil, or_false] at hz
        rcases hz with rfl | rfl
        · exact memF
        · exact hin _ (List.getElem_mem hlt)
      · have : ts[ni] ≠ ts[ni + 1] := fun z => of_decide_eq_false c3 (by rw [e2, ← z])
        simpa using this
    have O6 := O5.same s6
    have B6 := B5.same s6
    have hf2 : (([.str "swapped", .str "taken"] : List V)).all flatV = true := rfl
    refine Evl.q_when (b := inV (.str kd.word) [.str "swapped", .str "taken"]) (Evl.et_test (Evl.ev_opL (Evl.ev_var rfl) (Evl.el_lst (Evl.ea_cons Evl.ev_c (Evl.ea_cons Evl.ev_c Evl.ea_nil)) (by decide)) fun _ _ h s => Evl.rv_isL (Evl.sq_of h) rfl hf2)) (fun c H7 s7 => ?_) (fun c H7 s7 => ?_)
    · have O7 := O6.same s7
      have B7 := B6.same s7
      have S7 := O7.seq hpb hS
      let l3 : List Str := ws.filter fun x => !decide (x = ts[ni])
      have l3n : 1 ≤ l3.length := two_ne nd h2 _
      have l3l : l3.length ≤ 1000 := Nat.le_trans (List.length_filter_le _ _) h3
      refine ⟨_, rfl, _, rfl, ?_⟩
      refine (show Evl.EvL _ _ H7 (l3.map V.str) from ?_) H7 (Evl.Ex.refl H7) _ fun q8 H8 n8 s8 e8 => ?_
      · rw [show l3.map V.str = Evl.given (ws.map V.str).length (fun i => !decide (ws.getD i Str.empty = ts[ni])) (fun i => V.str (ws.getD i Str.empty)) by rw [List.length_map]; exact given_filterW.symm]
        refine Evl.el_lcL _ _ (Evl.ev_var rfl) S7 (by rw [List.length_map]; omega) (fun _ => rfl) ?_ ?_
        · intro i x G s hx
          rw [List.getElem?_map] at hx
          obtain ⟨y, hy, rfl⟩ : ∃ y, ws[i]? = some y ∧ x = V.str y := by
            cases e : ws[i]? with
            | none => rw [e] at hx; cases hx
            | some y => rw [e] at hx; cases hx; exact ⟨y, rfl, rfl⟩
          have ey : ws.getD i Str.empty = y := by rw [List.getD_eq_getElem?_getD, hy]; rfl
          rw [ey]
          refine et_neS (Evl.ev_var rfl) (Evl.ev_var rfl) rfl
        · intro i x G s hx _
          rw [List.getElem?_map] at hx
          obtain ⟨y, hy, rfl⟩ : ∃ y, ws[i]? = some y ∧ x = V.str y := by
            cases e : ws[i]? with
            | none => rw [e] at hx; cases hx
            | some y => rw [e] at hx; cases hx; exact ⟨y, rfl, rfl⟩
          have ey : ws.getD i Str.empty = y := by rw [List.getD_eq_getElem?_getD, hy]; rfl
          rw [ey]
          exact Evl.ev_var rfl
      have O8 := O7.same s8
      have B8 := B7.same s8
      have nq8 : q8 ≠ b := fun e => by
        obtain ⟨d, m, c, h1, _⟩ := B7
        rw [e, h1] at n8; cases n8
      refine ⟨b, _, B8, by omega, .inl ⟨q8, _, rfl, nq8, SqL.of e8, by rw [List.length_map]; exact l3n, by rw [List.length_map]; omega, fun x H9 hx O9 B9 => ?_⟩⟩
      obtain ⟨y, hy, rfl⟩ := List.mem_map.mp hx
      obtain ⟨hy1, hy2⟩ := List.mem_filter.mp hy
      have O9 := O8.trans O9
      refine ⟨by show 3 ≤ sizeLine; decide, fun q hq => ?_⟩
      refine k q .taken [ts[ni], y] _ (O9.new hq) ((B9.new hq).mono (by omega)) (back_off O9 B9 hq) upd_same rfl (fun z hz => ?_) ?_
      · simp only [List.mem_cons, List.not_mem_nil, or_false] at hz
        rcases hz with rfl | rfl
        · exact memF
        · exact hy1
      · have : ts[ni] ≠ y := fun z => by rw [z, decide_eq_true rfl] at hy2; cases hy2
        simpa using this
    · have O7 := O6.same s7
      have B7 := B6.same s7
      have hm : kd.many = 1 := by
        revert c
        cases kd <;> first | exact fun _ => rfl | (intro c; exact absurd c (by decide +kernel))
      refine Evl.s_retU (xs := (kd.word :: [ts[ni]]).map V.str) (Evl.eu_tup (Evl.ea_cons (Evl.ev_var rfl) (Evl.ea_cons (Evl.ev_var rfl) Evl.ea_nil)) (by show 2 ≤ 100000; decide)) fun q H8 nq s8 hq => ?_
      refine k q kd [ts[ni]] H8 (O7.same s8) ((B7.same s8).mono (by omega)) (back_off O7 B7 nq) hq hm.symm (fun z hz => ?_) (by simp)
      rw [List.mem_singleton.mp hz]; exact memF
theorem RK.cases4 {k : RK} {toks : List Str} (h : toks.length = k.many) : (k = .out ∧ ∃ a, toks = [a]) ∨ (k = .twice ∧ ∃ a, toks = [a]) ∨ (k = .swapped ∧ ∃ a b, toks = [a, b]) ∨ (k = .taken ∧ ∃ a b, toks = [a, b]) := by
  match k, toks, h with
  | .out, [a], _ => exact .inl ⟨rfl, a, rfl⟩
  | .twice, [a], _ => exact .inr (.inl ⟨rfl, a, rfl⟩)
  | .swapped, [a, b], _ => exact .inr (.inr (.inl ⟨rfl, a, b, rfl⟩))
  | .taken, [a, b], _ => exact .inr (.inr (.inr ⟨rfl, a, b, rfl⟩))
theorem ixr {σ : L2.St} {H : Hp} {q : Addr} {xs : List V} {i : Int} {v : V} (h : SqT K H q xs) (e0 : σ[0]? = some (some (.ref q))) (ha : atI xs i = some v) : Evl.Ev (tOp (rIxT K) (tVar 0) (tC (.int i))) σ H v := Evl.ev_op (Evl.ev_var e0) Evl.ev_c (Evl.rv_ixT h ha)
def spParts (K : PySem.W.Frag) (g : RK → List Str → List Str) : Sp := fun vs H Q _ => ∃ (q : Addr) (k : RK) (toks : List Str), vs = [.ref q] ∧ SqT K H q ((k.word :: toks).map V.str) ∧ toks.length = k.many ∧ ∀ (p : Addr) (H' : Hp), H p = none → Same H H' → H' p = some (.lst ((g k toks).map V.str)) → Q (.ref p) H'
abbrev sBefore : Stmt := topS 28
theorem scBefore : FnScope ["rule"] ["rule"] (defScope sBefore) := ⟨rfl, rfl, rfl, by decide +kernel, rfl, by decide +kernel, by decide +kernel⟩
theorem ok_before (F : DefAt K mg "_law_before" sBefore) (T : G0 mg) : Dk P w K mg base CX0 1 "_law_before" ["rule"] (spParts K RK.rem) := by
  obtain ⟨f, fd, F, mf⟩ := F.ex
  refine ⟨f, fd, F.ok scBefore (fun vs H Q E h => ?_) (fun cdv A outer s H vs Q E hr h => ?_), mf, F.kp, F.binds fun _ _ _ _ _ _ us hl => match us, hl with | [_], _ => rfl⟩
  · obtain ⟨q, k, toks, rfl, _⟩ := h; rfl
  · obtain ⟨q, k, toks, rfl, hq, hl, kq⟩ := h
    refine ⟨_, (pss_one (ps_ret (pe_ifExp (pt_cmpR op_eq (pe_ix ix_tup (pv 0) pe_int (fun _ _ => rfl)) pe_str (nomark _)) (pe_lst (pa_cons (pe_ix ix_tup (pv 0) pe_int (fun _ _ => rfl)) (pa_cons (pe_ix ix_tup (pv 0) pe_int (fun _ _ => rfl)) pa_nil))) (pe_lst (pa_cons (pe_ix ix_tup (pv 0) pe_int (fun _ _ => rfl)) pa_nil))))), ?_⟩
    refine Evl.s_retL (xs := (k.rem toks).map V.str) ?_ fun p H' np s hp => kq p H' np s hp
    match k, toks, hl with
    | .out, [a], _ => exact el_ifT (b := false) (Evl.et_is (Evl.et_test (Evl.ev_op (ixr hq rfl rfl) Evl.ev_c (Evl.rv_eq rfl))) (by decide +kernel)) (fun z => Bool.noConfusion z) fun _ => Evl.el_lst (Evl.ea_cons (ixr hq rfl rfl) Evl.ea_nil) (Nat.le_of_ble_eq_true rfl)
    | .twice, [a], _ => exact el_ifT (b := false) (Evl.et_is (Evl.et_test (Evl.ev_op (ixr hq rfl rfl) Evl.ev_c (Evl.rv_eq rfl))) (by decide +kernel)) (fun z => Bool.noConfusion z) fun _ => Evl.el_lst (Evl.ea_cons (ixr hq rfl rfl) Evl.ea_nil) (Nat.le_of_ble_eq_true rfl)
    | .swapped, [a, b], _ => exact el_ifT (b := true) (Evl.et_is (Evl.et_test (Evl.ev_op (ixr hq rfl rfl) Evl.ev_c (Evl.rv_eq rfl))) (by decide +kernel)) (fun _ => Evl.el_lst (Evl.ea_cons (ixr hq rfl rfl) (Evl.ea_cons (ixr hq rfl rfl) Evl.ea_nil)) (Nat.le_of_ble_eq_true rfl)) fun z => Bool.noConfusion z
    | .taken, [a, b], _ => exact el_ifT (b := false) (Evl.et_is (Evl.et_test (Evl.ev_op (ixr hq rfl rfl) Evl.ev_c (Evl.rv_eq rfl))) (by decide +kernel)) (fun z => Bool.noConfusion z) fun _ => Evl.el_lst (Evl.ea_cons (ixr hq rfl rfl) Evl.ea_nil) (Nat.le_of_ble_eq_true rfl)
abbrev sBehind : Stmt := topS 29
theorem scBehind : FnScope ["rule"] ["rule"] (defScope sBehind) := ⟨rfl, rfl, rfl, by decide +kernel, rfl, by decide +kernel, by decide +kernel⟩
theorem ok_behind (F : DefAt K mg "_law_behind" sBehind) (T : G0 mg) : Dk P w K mg base CX0 1 "_law_behind" ["rule"] (spParts K RK.ins) := by
  obtain ⟨f, fd, F, mf⟩ := F.ex
  refine ⟨f, fd, F.ok scBehind (fun vs H Q E h => ?_) (fun cdv A outer s H vs Q E hr h => ?_), mf, F.kp, F.binds fun _ _ _ _ _ _ us hl => match us, hl with | [_], _ => rfl⟩
  · obtain ⟨q, k, toks, rfl, _⟩ := h; rfl
  · obtain ⟨q, k, toks, rfl, hq, hl, kq⟩ := h
    refine ⟨_, (pss_cons (ps_if (pt_cmpR op_eq (pe_ix ix_tup (pv 0) pe_int (fun _ _ => rfl)) pe_str (nomark _)) (pss_one (ps_ret (pe_lst pa_nil))) pss_nil) (pss_cons (ps_if (pt_cmpR op_eq (pe_ix ix_tup (pv 0) pe_int (fun _ _ => rfl)) pe_str (nomark _)) (pss_one (ps_ret (pe_lst (pa_cons (pe_ix ix_tup (pv 0) pe_int (fun _ _ => rfl)) (pa_cons (pe_ix ix_tup (pv 0) pe_int (fun _ _ => rfl)) pa_nil))))) pss_nil) (pss_one (ps_ret (pe_ifExp (pt_cmpR op_eq (pe_ix ix_tup (pv 0) pe_int (fun _ _ => rfl)) pe_str (nomark _)) (pe_lst (pa_cons (pe_ix ix_tup (pv 0) pe_int (fun _ _ => rfl)) (pa_cons (pe_ix ix_tup (pv 0) pe_int (fun _ _ => rfl)) pa_nil))) (pe_lst (pa_cons (pe_ix ix_tup (pv 0) pe_int (fun _ _ => rfl)) pa_nil))))))), ?_⟩
    have t0 : ∀ {σ : L2.St} {G : Hp} {z : Str} {b : Bool}, Same H G → σ[0]? = some (some (.ref q)) → decide (V.str k.word = V.str z) = b → Evl.EvT (tTest (tOp rEq (tOp (rIxT K) (tVar 0) (tC (.int 0))) (tC (.str z)))) σ G b := fun s e h => Evl.et_is (Evl.et_test (Evl.ev_op (ixr (Evl.ex_t s hq) e (atI_nat (j := 0) rfl)) Evl.ev_c (Evl.rv_eq rfl))) h
    have fin : ∀ {p : Addr} {G H' : Hp}, Same H G → G p = none → Same G H' → H' p = some (.lst ((k.ins toks).map V.str)) → Q (.ref p) H' := fun s n s' h => kq _ _ (Evl.fresh_back s n) (s.trans s') h
    rcases RK.cases4 hl with ⟨rfl, a, rfl⟩ | ⟨rfl, a, rfl⟩ | ⟨rfl, a, b, rfl⟩ | ⟨rfl, a, b, rfl⟩
    · exact Evl.q_when (b := true) (t0 (Same.refl H) rfl (by decide +kernel)) (fun _ G s => Evl.s_retL (Evl.el_lst Evl.ea_nil (Nat.zero_le _)) fun p H' n s' h => fin s n s' h) fun z => Bool.noConfusion z
    · refine Evl.q_when (b := false) (t0 (Same.refl H) rfl (by decide +kernel)) (fun z => Bool.noConfusion z) fun _ G s => ?_
      exact Evl.q_when (b := true) (t0 s rfl (by decide +kernel)) (fun _ G2 s2 => Evl.s_retL (Evl.el_lst (Evl.ea_cons (ixr (Evl.ex_t (s.trans s2) hq) rfl rfl) (Evl.ea_cons (ixr (Evl.ex_t (s.trans s2) hq) rfl rfl) Evl.ea_nil)) (Nat.le_of_ble_eq_true rfl)) fun p H' n s' h => fin (s.trans s2) n s' h) fun z => Bool.noConfusion z
    · refine Evl.q_when (b := false) (t0 (Same.refl H) rfl (by decide +kernel)) (fun z => Bool.noConfusion z) fun _ G s => ?_
      refine Evl.q_when (b := false) (t0 s rfl (by decide +kernel)) (fun z => Bool.noConfusion z) fun _ G2 s2 => ?_
      exact Evl.s_retL (el_ifT (b := true) (t0 (s.trans s2) rfl (by decide +kernel)) (fun _ => Evl.el_lst (Evl.ea_cons (ixr (Evl.ex_t (s.trans s2) hq) rfl rfl) (Evl.ea_cons (ixr (Evl.ex_t (s.trans s2) hq) rfl rfl) Evl.ea_nil)) (Nat.le_of_ble_eq_true rfl)) fun z => Bool.noConfusion z) fun p H' n s' h => fin (s.trans s2) n s' h
    · refine Evl.q_when (b := false) (t0 (Same.refl H) rfl (by decide +kernel)) (fun z => Bool.noConfusion z) fun _ G s => ?_
      refine Evl.q_when (b := false) (t0 s rfl (by decide +kernel)) (fun z => Bool.noConfusion z) fun _ G2 s2 => ?_
      exact Evl.s_retL (el_ifT (b := false) (t0 (s.trans s2) rfl (by decide +kernel)) (fun z => Bool.noConfusion z) fun _ => Evl.el_lst (Evl.ea_cons (ixr (Evl.ex_t (s.trans s2) hq) rfl rfl) Evl.ea_nil) (Nat.le_of_ble_eq_true rfl)) fun p H' n s' h => fin (s.trans s2) n s' h
/-- the places of a rule, by the law -/
def whereP (ts rem : List Str) : List Nat := (List.range ts.length).filter fun i => decide ((ts.drop i).take rem.length = rem)
def spWhere (K : PySem.W.Frag) : Sp := fun vs H Q _ => ∃ (q t : Addr) (k : RK) (toks ts : List Str), vs = [.ref q, .ref t] ∧ SqT K H q ((k.word :: toks).map V.str) ∧ toks.length = k.many ∧ SqL K H t (ts.map V.str) ∧ ts.length ≤ 1000 ∧ ts.all okS = true ∧ (k.rem toks).all okS = true ∧
  ∀ (p : Addr) (H' : Hp), H p = none → Same H H' → H' p = some (.lst (((whereP ts (k.rem toks)).map fun (i : Nat) => (i : Int)).map V.int)) → Q (.ref p) H'
abbrev sWhere : Stmt := topS 30
theorem scWhere : FnScope ["rule", "tokens", "earlier", "place"] ["rule", "tokens"] (defScope sWhere) := ⟨rfl, rfl, rfl, by decide +kernel, rfl, by decide +kernel, by decide +kernel⟩
theorem ok_where (F : DefAt K mg "_law_where" sWhere) (T : G0 mg) (Dbefore : Dk P w K mg base CX0 1 "_law_before" ["rule"] (spParts K RK.rem)) : Dk P w K mg base CX0 2 "_law_where" ["rule", "tokens"] (spWhere K) := by
  obtain ⟨f, fd, F, mf⟩ := F.ex
  refine ⟨f, fd, F.ok scWhere (fun vs H Q E h => ?_) (fun cdv A outer s H vs Q E hr h => ?_), mf, F.kp, F.binds fun _ _ _ _ _ _ us hl => match us, hl with | [_, _], _ => rfl⟩
  · obtain ⟨q, t, k, toks, ts, rfl, _⟩ := h; rfl
  · obtain ⟨q, t, k, toks, ts, rfl, hq, hl, ht, h1, okT, okR, kq⟩ := h
    refine ⟨_, (pss_cons (ps_set (i := 2) scWhere.nd rfl (Or.inr rfl) (pe_cd Dbefore hr pass0 (pa_cons (pv 0) pa_nil))) (pss_one (ps_ret (pe_lc (own := [("place", 3)]) (g := gName 3) rfl scWhere.nd (pi_range1 (by rfl) T.range (pa_cons (pe_callB call_len_seq (by rfl) T.len (by decide +kernel) (pa_cons (pv 1) pa_nil)) pa_nil)) (blkOk_by (N := ["rule", "tokens", "earlier", "place"]) (sc := defScope sWhere) (by decide +kernel)) (fun _ _ _ _ _ => (pg_name (i := 3) scWhere.nd rfl (.inl rfl))) (fun _ _ _ _ _ => (pts_one (pt_cmpR (op_eqDK (K := K) rfl hr.units) (pe_slice (sl_lK (K := K) rfl) (pv 1) (po_some (pv 3)) (po_some (pe_op op_add (pv 3) (pe_callB (call_lenK (K := K) rfl) (by rfl) T.len (by decide +kernel) (pa_cons (pv 2) pa_nil))))) (pv 2) (nomark _)))) (fun _ _ _ _ _ => (pv 3)))))), ?_⟩
    generalize hrem : k.rem toks = rem at okR kq
    refine Evl.q_asgL (xs := rem.map V.str) (Evl.el_call (Evl.ea_cons (Evl.ev_var rfl) Evl.ea_nil) fun G s Q k' _ => ⟨q, k, toks, rfl, Evl.ex_t s hq, hl, fun p H2 np s2 h2 => k' p H2 np s2 (by rw [← hrem]; exact h2)⟩) fun e H1 ne s1 e1 => ?_
    have t1 := Evl.ex_l s1 ht
    refine Evl.s_retL (xs := ((whereP ts rem).map fun (i : Nat) => (i : Int)).map V.int) ?_ fun p H' np s hp => kq p H' (Evl.fresh_back s1 np) (s1.trans s) hp
    have eg : ((whereP ts rem).map fun (i : Nat) => (i : Int)).map V.int = Evl.given (((ts.map V.str).length : Nat) : Int).toNat (fun i => decide ((ts.drop i).take rem.length = rem)) (fun i => V.int (i : Int)) := by
      unfold Evl.given whereP
      rw [List.map_map, Int.toNat_natCast, List.length_map]; rfl
    rw [eg]
    refine Evl.el_lcR1 _ _ (Evl.ea_cons (Evl.ev_len (Evl.ev_var rfl) t1) Evl.ea_nil) ⟨by omega, by rw [List.length_map]; omega⟩ (fun _ => rfl) ?_ ?_
    · intro i G s hi
      have ec : cutV (ts.map V.str) (some ((i : Nat) : Int)) (some (((i : Nat) : Int) + ((rem.length : Nat) : Int))) = ((ts.drop i).take rem.length).map V.str := by rw [cut_nat, ← List.map_drop, ← List.map_take]
      have okD : ((ts.drop i).take rem.length).all okS = true := List.all_eq_true.mpr fun x hx => List.all_eq_true.mp okT x (List.mem_of_mem_drop (List.mem_of_mem_take hx))
      refine Evl.et_test (Evl.ev_opL1 (xs := ((ts.drop i).take rem.length).map V.str) ?_ (fun H2 s2 => Evl.ev_var (v := .ref e) rfl) fun p H2 h s2 => rv_eqLs okD okR (SqL.of h) (SqL.of ((s.trans s2) _ _ e1)))
      rw [← ec]
      exact Evl.el_sl (Evl.ev_var rfl) (Evl.eo_some (Evl.ev_var rfl)) (Evl.eo_some (Evl.ev_op (Evl.ev_var rfl) (Evl.ev_is (Evl.ev_len (Evl.ev_var rfl) (SqL.of (s _ _ e1))) (by rw [List.length_map])) Evl.rv_I0)) (Evl.ex_l s t1)
    · intro i G s hi _
      exact Evl.ev_var rfl
end
end Ss
namespace Ss
open PySem L2
section
variable {P : Program} {w : World} {K : PySem.W.Frag} {mg : Str → Option Value} {base : Heap}
theorem fnR_ofS {CT : CXT} {k : Nat} {f : Addr} {fd : FuncData} {ps : List Str} {sp : Sp} (F : FnOk P w K mg base CT k f fd ps sp) (B : Binds K fd ps []) : FnR P w K mg base CT k f sp := by
  intro A outer s H us vs Q E hr e0 r hsp
  have hl := F.len vs H Q E hsp
  have b := B s us
  exact F.run A outer s H ⟨us, []⟩ us vs Q E hr e0 (by
    have KX : K.In s.heap := e0.mod.kin.keeps fun b o e => (e0.bs b o e).1
    have z := b KX (by rw [List.append_nil, ← r.length, hl])
    rwa [List.append_nil] at z) r hsp
abbrev sSlipped : Stmt := topS 31
theorem scSlipped : FnScope ["rule", "tokens", "place", "rest"] ["rule", "tokens", "place"] (defScope sSlipped) := ⟨rfl, rfl, rfl, by decide +kernel, rfl, by decide +kernel, by decide +kernel⟩
def spSlipped (K : PySem.W.Frag) : Sp := fun vs H Q _ => ∃ (q t : Addr) (n : Nat) (k : RK) (toks ts : List Str), vs = [.ref q, .ref t, .int (n : Nat)] ∧ SqT K H q ((k.word :: toks).map V.str) ∧ toks.length = k.many ∧ SqL K H t (ts.map V.str) ∧ ts.length ≤ 1000 ∧
  ∀ (p : Addr) (H' : Hp), H p = none → Same H H' → H' p = some (.lst ((slipAt ts (k.rem toks) (k.ins toks) n).map V.str)) → Q (.ref p) H'
theorem ok_slipped (F : DefAt K mg "_law_slipped" sSlipped) (T : G0 mg) (Dbefore : Dk P w K mg base CX0 1 "_law_before" ["rule"] (spParts K RK.rem)) (Dbehind : Dk P w K mg base CX0 1 "_law_behind" ["rule"] (spParts K RK.ins)) : Dk P w K mg base CX0 2 "_law_slipped" ["rule", "tokens", "place"] (spSlipped K) := by
  obtain ⟨f, fd, F, mf⟩ := F.ex
  refine ⟨f, fd, F.ok scSlipped (fun vs H Q E h => ?_) (fun cdv A outer s H vs Q E hr h => ?_), mf, F.kp, F.binds fun _ _ _ _ _ _ us hl => match us, hl with | [_, _, _], _ => rfl⟩
  · obtain ⟨q, t, n, k, toks, ts, rfl, _⟩ := h; rfl
  · obtain ⟨q, t, n, k, toks, ts, rfl, hq, hl, ht, hn, kk⟩ := h
    refine ⟨_, (pss_cons (ps_set (i := 3) scSlipped.nd rfl (Or.inl rfl) (pe_slice sl_list (pv 1) (po_some (pe_op op_add (pv 2) (pe_callB call_len_seq (by rfl) T.len (by decide +kernel) (pa_cons (pe_cd Dbefore hr pass0 (pa_cons (pv 0) pa_nil)) pa_nil)))) po_none)) (pss_one (ps_ret (pe_op op_cat (pe_op op_cat (pe_slice sl_list (pv 1) po_none (po_some (pv 2))) (pe_cd Dbehind hr pass0 (pa_cons (pv 0) pa_nil))) (pv 3))))), ?_⟩
    have rl := rem_len hl
    have eb : Evl.Ev (tCB (Evl.rLenS K) (tCons (tCall (spParts K RK.rem) [] E0 (tCons (tVar 0) tNil)) tNil)) [some (.ref q), some (.ref t), some (.int (n : Nat)), none] H (.int ((k.rem toks).length : Nat)) := fun (G : Hp) s Q1 q1 =>
      ⟨_, rfl, q, k, toks, rfl, Evl.ex_t s hq, hl, fun p H' np s' hp => ⟨p, _, rfl, .inl (SqL.of hp), by rw [List.length_map]; exact q1 H' s'⟩⟩
    have rest : Evl.EvL (tSl (rSlL K) (tVar 1) (tPart (tOp (rI0 fun i j => .int (i + j)) (tVar 2) (tCB (Evl.rLenS K) (tCons (tCall (spParts K RK.rem) [] E0 (tCons (tVar 0) tNil)) tNil)))) tNoPart) [some (.ref q), some (.ref t), some (.int (n : Nat)), none] H ((ts.drop (n + (k.rem toks).length)).map V.str) := by
      have := Evl.el_sl (K := K) (te := tVar 1) (σ := [some (.ref q), some (.ref t), some (.int (n : Nat)), none]) (lo := some (((n + (k.rem toks).length : Nat)) : Int)) (hi := none) (Evl.ev_var rfl) (Evl.eo_some (Evl.ev_is (Evl.ev_op (r := rI0 fun i j => V.int (i + j)) (Evl.ev_var (i := 2) rfl) eb Evl.rv_I0) rfl)) Evl.eo_none ht
      rw [cut_from, ← List.map_drop] at this
      exact this
    refine Evl.q_asgL rest fun r H1 nr s1 hr1 => ?_
    have e1 : Evl.EvL (tSl (rSlL K) (tVar 1) tNoPart (tPart (tVar 2))) [some (.ref q), some (.ref t), some (.int (n : Nat)), some (.ref r)] H1 ((ts.take n).map V.str) := by
      have := Evl.el_sl (K := K) (te := tVar 1) (σ := [some (.ref q), some (.ref t), some (.int (n : Nat)), some (.ref r)]) (lo := none) (hi := some ((n : Nat) : Int)) (Evl.ev_var rfl) Evl.eo_none (Evl.eo_some (Evl.ev_var (i := 2) rfl)) (Evl.ex_l s1 ht)
      rw [cut_toV, ← List.map_take] at this
      exact this
    have e2 : Evl.EvL (tCall (spParts K RK.ins) [] E0 (tCons (tVar 0) tNil)) [some (.ref q), some (.ref t), some (.int (n : Nat)), some (.ref r)] H1 ((k.ins toks).map V.str) := fun G s Q1 q1 => ⟨_, rfl, q, k, toks, rfl, Evl.ex_t (s1.trans s) hq, hl, fun p H' np s' hp => q1 p H' np s' hp⟩
    have e12 := el_catN e1 e2 (by rw [List.length_map, List.length_map, List.length_take]; omega)
    refine e12 H1 (Same.refl H1) _ fun l H2 nl s2 hl2 => ?_
    refine ⟨_, rfl, l, r, _, _, rfl, rfl, hl2, s2 _ _ hr1, ?_, fun l3 nl3 => ?_⟩
    · refine Nat.le_trans (m := 100000) ?_ (by decide)
      rw [List.length_append, List.length_map, List.length_map, List.length_map, List.length_take, List.length_drop]; omega
    · refine kk l3 _ (Evl.fresh_back (s1.trans s2) nl3) ((s1.trans s2).trans (Evl.Ex.new nl3)) ?_
      rw [upd_same]; unfold slipAt; rw [List.map_append, List.map_append]
abbrev sDone : Stmt := topS 33
theorem scDone : FnScope ["rule", "text", "place", "wrong"] ["rule", "text", "place"] (defScope sDone) := ⟨rfl, rfl, rfl, by decide +kernel, rfl, by decide +kernel, by decide +kernel⟩
def tbD (Cn : Addr) (Cf : RK → Addr) (W : WX) : TS := tRet (tCallOS Cf (spRCall Cn Cf) (WE W) (tVar 0) (tCons (tVar 1) (tCons (tVar 2) tNil)))
def tsD (Cn : Addr) (a : Addr) (cls : Value) (d : Option Addr) : TS := tRet (tTup (tCons (tC (.str "no")) (tCons (tXf a cls d Cn "place" (tVar 3)) tNil)))
/-- the text, or the place that was refused -/
def spDone (Cf : RK → Addr) : Sp := fun vs H Q _ => ∃ (p : Addr) (z : Str) (pl : Int) (k : RK) (toks : List Str), vs = [.ref p, .str z, .int pl] ∧ z.length ≤ 100000 ∧ RuleAt H (Cf k) p k toks ∧ toks.length = k.many ∧ (toksOf z).length ≤ 1000 ∧ (∀ x ∈ toksOf z, wordOk x) ∧ (∀ x ∈ toks, wordOk x) ∧ pl.natAbs < 10 ^ 30 ∧
  (standsP (toksOf z) (k.rem toks) pl = true → ∀ H', Same H H' → Q (.str (Txt.join " " (slipAt (toksOf z) (k.rem toks) (k.ins toks) pl.toNat))) H') ∧ (standsP (toksOf z) (k.rem toks) pl = false → ∀ (q : Addr) (H' : Hp), Same H H' → H' q = some (.tup [.str "no", .int pl]) → Q (.ref q) H')
theorem ok_done {Cn g : Addr} {Cf : RK → Addr} (F : DefAt K mg "_law_done" sDone) (cO : ∀ kd, StX.CallO K (Cf kd) g) (FR : FnR P w K mg base (L2.CX P w) 5 g (spRCall Cn Cf)) (gB : mg "NoPlace" = some (.ref Cn))
    (ec : EC K Cn "ValueError.__init__") (no : PySem.W.findIn K (.ref Cn) "place" = some none) (ex : PySem.W.exmOne K (.ref Cn) (.ref Cn) = some true) :
    Dk P w K mg base CX0 6 "_law_done" ["rule", "text", "place"] (spDone Cf) := by
  obtain ⟨f, fd, F, mf⟩ := F.ex
  refine ⟨f, fd, F.ok scDone (fun vs H Q E h => ?_) (fun cdv A outer s H vs Q E hr h => ?_), mf, F.kp, F.binds fun _ _ _ _ _ _ us hl => match us, hl with | [_, _, _], _ => rfl⟩
  · obtain ⟨p, z, pl, k, toks, rfl, _⟩ := h; rfl
  · obtain ⟨p, z, pl, k, toks, rfl, hz, hR, hl, hn, hw, hw2, hpl, k1, k2⟩ := h
    refine ⟨_, pss_one (ps_try_as (i := 3) (tb := tbD Cn Cf) (ts := tsD Cn) (Wout := fun _ _ _ _ => False) rfl rfl scDone.nd rfl rfl ⟨rfl, by decide, .inl gB⟩ takes0
        (fun W pn xe tk _ => pss_one (ps_ret (pe_callOS (pv 0) cO FR hr (fun σ => passAt tk σ) (pa_cons (pv 1) (pa_cons (pv 2) pa_nil)))))
        (fun a oe cls d pn hz hf => pss_one (ps_ret (pe_tup (pa_cons pe_str (pa_cons (pe_xf ec.xf no hz hf (pv 3)) pa_nil)))))), ?_⟩
    obtain ⟨dx, t, r1, r2, h1, _⟩ := id hR
    refine ⟨_, rfl, p, rfl, _, rfl, _, rfl, k, dx, _, h1, p, z, pl, k, toks, rfl, hz, hR, hl, hn, hw, hw2, hpl, fun c H' s => k1 c H' s, fun c => ?_⟩
    intro dd fs H' s1 h1 h2
    refine ⟨true, ex, fun _ a ha => ?_, fun z => Bool.noConfusion z⟩
    refine ⟨_, rfl, rfl, rfl, dd, fs, _, rfl, ?_, h2, ?_⟩
    · exact h1
    · exact ⟨by show 2 ≤ sizeLine; decide, fun q hq => k2 c q _ (Same.new s1 hq) upd_same⟩
end
end Ss
set_option maxHeartbeats 1000000
namespace Ss
open PySem L2 PySem.Spec PyProof.Rows Evl
theorem inV_ints (x : Int) (l : List Int) : inV (.int x) (l.map V.int) = decide (x ∈ l) := by
  unfold inV
  rw [List.any_map]
  by_cases h : x ∈ l
  · rw [decide_eq_true h]
    exact List.any_eq_true.mpr ⟨x, h, by show (x == x) = true; simp⟩
  · rw [decide_eq_false h]
    refine List.any_eq_false.mpr fun y hy => ?_
    show ¬ (y == x) = true
    intro z
    exact h ((beq_iff_eq.mp z) ▸ hy)
theorem flat_intsW : ∀ l : List Int, (l.map V.int).all flatV = true
  | [] => rfl
  | _ :: l => by rw [List.map_cons, List.all_cons, flat_intsW l]; rfl
theorem el_lstRg {ta tb : TE} {σ : L2.St} {H : Hp} {i j : Int} (ha : Ev ta σ H (.int i)) (hb : Ev tb σ H (.int j)) (ok : RgOk i j) : EvL (tLstRg (tRg2 ta tb)) σ H (rgV i j) := fun H1 s Q q =>
  ha H1 s _ fun H2 s2 => hb H2 (s.trans s2) _ fun H3 s3 => ⟨i, j, rfl, rfl, ok, fun p hp => q p _ (fresh_back (s2.trans s3) hp) ((s2.trans s3).trans (Ex.new hp)) upd_same⟩
/-- == of two texts or numbers, or of data -/
theorem op_eqSD {X : Cx} (hu : X.A.units + 64 < cLine) : OpR X (compareOp .Eq) (fun x y H Q => rEq x y H Q ∨ rEqD X.K x y H Q) := by
  intro pins s σ H x y v u Q I rx ry h
  rcases h with h | h
  · exact op_eq pins s σ H x y v u Q I rx ry h
  · exact op_eqD hu pins s σ H x y v u Q I rx ry h
/-! ### what the law holds beside the program's dict -/
def shW (M : Wr) (ts : List Str) : List (List Str) := (List.range ts.length).map fun (i : Nat) => (M (i : Int)).getD [ts.getD i Str.empty]
theorem shW_length (M : Wr) (ts : List Str) : (shW M ts).length = ts.length := by unfold shW; simp
theorem shW_get {M : Wr} {ts : List Str} {j : Nat} (h : j < (shW M ts).length) : (shW M ts)[j] = (M (j : Int)).getD [ts.getD j Str.empty] := by unfold shW; simp
theorem shW_none (ts : List Str) : shW (fun _ => none) ts = ts.map fun x => [x] := by
  refine List.ext_getElem (by rw [shW_length, List.length_map]) fun i h1 h2 => ?_
  rw [shW_get, List.getElem_map]
  rw [List.length_map] at h2
  show [ts.getD i Str.empty] = _
  rw [List.getD_eq_getElem?_getD, List.getElem?_eq_getElem h2]; rfl
theorem sh_next1 {M : Wr} {ts rem ins : List Str} {n : Nat} (hr : rem.length = 1) : shW (wrNext M rem ins (n : Int)) ts = (shW M ts).set n ins := by
  refine List.ext_getElem (by rw [List.length_set, shW_length, shW_length]) fun i h1 h2 => ?_
  rw [shW_get, List.getElem_set]
  rw [List.length_set] at h2
  unfold wrNext
  by_cases e : n = i
  · subst e; rw [if_pos rfl, if_pos rfl]; rfl
  · rw [if_neg e, if_neg (by omega), if_neg (by omega), shW_get]
theorem sh_next2 {M : Wr} {ts rem ins : List Str} {n : Nat} (hr : rem.length = 2) : shW (wrNext M rem ins (n : Int)) ts = ((shW M ts).set n ins).set (n + 1) [] := by
  refine List.ext_getElem (by rw [List.length_set, List.length_set, shW_length, shW_length]) fun i h1 h2 => ?_
  rw [shW_get, List.getElem_set, List.getElem_set]
  rw [List.length_set, List.length_set] at h2
  unfold wrNext
  by_cases e : n = i
  · subst e; rw [if_pos rfl, if_neg (by omega), if_pos rfl]; rfl
  · rw [if_neg (by omega)]
    by_cases e2 : n + 1 = i
    · subst e2; rw [if_pos (by omega), if_pos rfl]; rfl
    · rw [if_neg (by omega), if_neg e2, if_neg e, shW_get]
theorem used_next {M : Wr} {rem ins : List Str} {pl : Int} {us : List Int} (h : ∀ x, x ∈ us ↔ (M x).isSome = true) (hr : 1 ≤ rem.length) : ∀ x, x ∈ us ++ ((List.range rem.length).map fun (k : Nat) => pl + (k : Int)) ↔ (wrNext M rem ins pl x).isSome = true := fun x => by
  have e : x ∈ (List.range rem.length).map (fun (k : Nat) => pl + (k : Int)) ↔ pl ≤ x ∧ x < pl + rem.length := by
    rw [List.mem_map]
    constructor
    · rintro ⟨k, hk, rfl⟩
      have := List.mem_range.mp hk
      omega
    · rintro ⟨h1, h2⟩
      exact ⟨(x - pl).toNat, List.mem_range.mpr (by omega), by omega⟩
  rw [List.mem_append, e, h x]
  unfold wrNext
  by_cases c : x = pl
  · rw [if_pos c]; simp; omega
  · rw [if_neg c]
    by_cases c2 : pl ≤ x ∧ x < pl + (rem.length : Nat)
    · rw [if_pos c2]; simp [c2]
    · rw [if_neg c2]; simp [c2]
/-- the places by the law -/
theorem in_where {ts rem : List Str} {pl : Int} (hr : 1 ≤ rem.length) : decide (pl ∈ ((List.range ts.length).filter fun i => decide ((ts.drop i).take rem.length = rem)).map fun (i : Nat) => (i : Int)) = standsP ts rem pl := by
  cases e : standsP ts rem pl with
  | true =>
    refine decide_eq_true (List.mem_map.mpr ?_)
    unfold standsP at e
    rw [Bool.and_eq_true] at e
    have h0 := of_decide_eq_true e.1
    have h1 := of_decide_eq_true e.2
    refine ⟨pl.toNat, List.mem_filter.mpr ⟨List.mem_range.mpr ?_, decide_eq_true h1⟩, by omega⟩
    have l := congrArg List.length h1
    rw [List.length_take, List.length_drop] at l
    omega
  | false =>
    refine decide_eq_false fun z => ?_
    obtain ⟨i, hi, rfl⟩ := List.mem_map.mp z
    have := (List.mem_filter.mp hi).2
    unfold standsP at e
    rw [Int.toNat_natCast, decide_eq_true (Int.natCast_nonneg i), Bool.true_and] at e
    rw [this] at e; cases e
/-- the places that are taken already -/
def ownL (us : List Int) (w : Nat) (pl : Int) : List Int := ((List.range w).filter fun (k : Nat) => decide (pl + (k : Int) ∈ us)).map fun (k : Nat) => pl + (k : Int)
theorem own_free {M : Wr} {rem : List Str} {pl : Int} {us : List Int} (h : ∀ x, x ∈ us ↔ (M x).isSome = true) : decide (ownL us rem.length pl = []) = freeP M rem pl := by
  have e : ownL us rem.length pl = [] ↔ freeP M rem pl = true := by
    unfold ownL freeP
    rw [List.map_eq_nil_iff, List.filter_eq_nil_iff, List.all_eq_true]
    constructor
    · intro q k hk
      have := q k hk
      have n : ¬ (pl + (k : Int) ∈ us) := fun z => this (decide_eq_true z)
      rw [h] at n
      show (M (pl + (k : Int))).isNone = true
      cases e : M (pl + (k : Int)) with
      | none => rfl
      | some l => rw [e] at n; exact absurd rfl n
    · intro q k hk z
      have := q k hk
      have n := (h _).mp (of_decide_eq_true z)
      cases e : M (pl + (k : Int)) with
      | none => rw [e] at n; cases n
      | some l => rw [e] at this; cases this
  cases c : freeP M rem pl with
  | true => exact decide_eq_true (e.mpr c)
  | false => exact decide_eq_false fun z => by rw [e.mp z] at c; cases c
/-! ### on the heap -/
/-- what is no list stays -/
def NL (H H' : Hp) : Prop := ∀ a o, H a = some o → (∀ xs, o ≠ .lst xs) → H' a = some o
theorem NL.refl (H : Hp) : NL H H := fun _ _ h _ => h
theorem NL.trans {H H1 H2 : Hp} (x : NL H H1) (y : NL H1 H2) : NL H H2 := fun a o h n => y a o (x a o h n) n
theorem NL.of {H H1 : Hp} (s : Same H H1) : NL H H1 := fun a o h _ => s a o h
theorem NL.bag {H H1 : Hp} {b : Addr} {n : Nat} (O : Off b H H1) (B : Bag H b n) : NL H H1 := fun a o h ne => O a o (fun e => by
  obtain ⟨d, m, c, hb, _⟩ := B
  rw [e, hb] at h; cases h; exact ne _ rfl) h
theorem NL.upd {H : Hp} {d : Addr} {xs ys : List V} (h : H d = some (.lst xs)) : NL H (upd H d (.lst ys)) := fun a o ha ne => by
  have nd : a ≠ d := fun e => by rw [e, h] at ha; cases ha; exact ne _ rfl
  rw [upd_ne nd]; exact ha
theorem RuleAt.nl {H H' : Hp} {C p : Addr} {k : RK} {toks : List Str} (h : RuleAt H C p k toks) (s : NL H H') : RuleAt H' C p k toks := by
  obtain ⟨dx, t, r, i, h1, h2, h3, h4⟩ := h
  exact ⟨dx, t, r, i, s _ _ h1 (fun _ z => nomatch z), s _ _ h2 (fun _ z => nomatch z), s _ _ h3 (fun _ z => nomatch z), s _ _ h4 (fun _ z => nomatch z)⟩
/-- the drawn rules at their places -/
def DrAt (H : Hp) (ds : List V) (rs : RS) : Prop := ds.length = rs.length ∧ ∀ (j : Nat) (r : (RK × List Str) × Int), rs[j]? = some r → ∃ t q, ds[j]? = some (.ref t) ∧ H t = some (.tup [.ref q, .int r.2]) ∧ H q = some (.tup ((r.1.1.word :: r.1.2).map V.str))
theorem DrAt.nl {H H' : Hp} {ds : List V} {rs : RS} (h : DrAt H ds rs) (s : NL H H') : DrAt H' ds rs := ⟨h.1, fun j r e => let ⟨t, q, e1, e2, e3⟩ := h.2 j r e; ⟨t, q, e1, s _ _ e2 (fun _ z => nomatch z), s _ _ e3 (fun _ z => nomatch z)⟩⟩
theorem DrAt.add {H : Hp} {ds : List V} {rs : RS} {t q : Addr} {r : (RK × List Str) × Int} (h : DrAt H ds rs) (h1 : H t = some (.tup [.ref q, .int r.2])) (h2 : H q = some (.tup ((r.1.1.word :: r.1.2).map V.str))) : DrAt H (ds ++ [.ref t]) (rs ++ [r]) := by
  refine ⟨by rw [List.length_append, List.length_append, h.1]; rfl, fun j r' e => ?_⟩
  by_cases c : j < rs.length
  · rw [List.getElem?_append_left c] at e
    obtain ⟨t', q', e1, e2, e3⟩ := h.2 j r' e
    exact ⟨t', q', by rw [List.getElem?_append_left (by rw [h.1]; exact c)]; exact e1, e2, e3⟩
  · rw [List.getElem?_append_right (by omega)] at e
    have : j - rs.length = 0 := by
      refine Classical.byContradiction fun z => ?_
      rw [List.getElem?_eq_none (by show 1 ≤ _; omega)] at e; cases e
    rw [this] at e
    cases e
    exact ⟨t, q, by rw [List.getElem?_append_right (by rw [h.1]; omega), h.1, this]; rfl, h1, h2⟩
/-- lists of texts, none of them at d -/
def ShAt (d : Addr) (H : Hp) (refs : List V) (ls : List (List Str)) : Prop := refs.length = ls.length ∧ ∀ (j : Nat) (l : List Str), ls[j]? = some l → ∃ q, refs[j]? = some (.ref q) ∧ q ≠ d ∧ H q = some (.lst (l.map V.str))
theorem ShAt.mono {d : Addr} {H H' : Hp} {refs : List V} {ls : List (List Str)} (h : ShAt d H refs ls) (O : Off d H H') : ShAt d H' refs ls := ⟨h.1, fun j l e => let ⟨q, e1, e2, e3⟩ := h.2 j l e; ⟨q, e1, e2, O _ _ e2 e3⟩⟩
theorem ShAt.set {d q : Addr} {H : Hp} {refs : List V} {ls : List (List Str)} {n : Nat} {l : List Str} (h : ShAt d H refs ls) (nq : q ≠ d) (hq : H q = some (.lst (l.map V.str))) : ShAt d H (refs.set n (.ref q)) (ls.set n l) := by
  refine ⟨by rw [List.length_set, List.length_set, h.1], fun j l' e => ?_⟩
  rw [List.getElem?_set] at e
  rw [List.getElem?_set]
  by_cases c : n = j
  · subst c
    rw [if_pos rfl] at e ⊢
    by_cases c2 : n < ls.length
    · rw [if_pos c2] at e
      cases e
      exact ⟨q, by rw [if_pos (by rw [h.1]; exact c2)], nq, hq⟩
    · rw [if_neg c2] at e; cases e
  · rw [if_neg c] at e ⊢
    exact h.2 j l' e
theorem ShAt.add {d q : Addr} {H : Hp} {refs : List V} {ls : List (List Str)} {l : List Str} (h : ShAt d H refs ls) (nq : q ≠ d) (hq : H q = some (.lst (l.map V.str))) : ShAt d H (refs ++ [.ref q]) (ls ++ [l]) := by
  refine ⟨by rw [List.length_append, List.length_append, h.1]; rfl, fun j r' e => ?_⟩
  by_cases c : j < ls.length
  · rw [List.getElem?_append_left c] at e
    obtain ⟨q', e1, e2, e3⟩ := h.2 j r' e
    exact ⟨q', by rw [List.getElem?_append_left (by rw [h.1]; exact c)]; exact e1, e2, e3⟩
  · rw [List.getElem?_append_right (by omega)] at e
    have : j - ls.length = 0 := by
      refine Classical.byContradiction fun z => ?_
      rw [List.getElem?_eq_none (by show 1 ≤ _; omega)] at e; cases e
    rw [this] at e
    cases e
    exact ⟨q, by rw [List.getElem?_append_right (by rw [h.1]; omega), h.1, this]; rfl, nq, hq⟩
end Ss
namespace Ss
open PySem L2 PySem.Spec PyProof.Rows Evl
theorem NL.offL {H H1 : Hp} {d : Addr} {xs : List V} (O : Off d H H1) (h : H d = some (.lst xs)) : NL H H1 := fun a o ha ne => O a o (fun e => by rw [e, h] at ha; cases ha; exact ne _ rfl) ha
theorem rgV_ints (pl : Int) (n : Nat) : rgV pl (pl + (n : Int)) = ((List.range n).map fun (k : Nat) => pl + (k : Int)).map V.int := by
  unfold rgV
  rw [show (pl + (n : Int) - pl).toNat = n by omega, List.map_map]; rfl
/-- where the law stands beside the program -/
def StOk (sh : Addr) (ts : List Str) (st : Int ⊕ Wr) (us : List Int) (ls : List (List Str)) (wv : V) (H : Hp) : Prop := match st with
  | .inr M => wv = .non ∧ (∀ x, x ∈ us ↔ (M x).isSome = true) ∧ ls = shW M ts
  | .inl pl => ∃ q, wv = .ref q ∧ q ≠ sh ∧ H q = some (.tup [.str "no", .int pl])
theorem ev_isNoneW {te : TE} {σ : L2.St} {H : Hp} {v : V} (h : Ev te σ H v) : Ev (tIsN te) σ H (.bl (decide (v = .non))) := fun H1 s Q q => h H1 s _ fun H2 s2 => q H2 s2
end Ss
namespace Ss
open PySem L2 PySem.Spec PyProof.Rows Evl
theorem paired_refs {K : PySem.W.Frag} {H : Hp} : ∀ {xs : List V}, (∀ x ∈ xs, ∃ a, x = .ref a) → Paired (EqV K H 1) xs xs
  | [], _ => .nil
  | x :: xs, h => .cons (by
      obtain ⟨a, rfl⟩ := h x List.mem_cons_self
      exact .inr (.inl ⟨a, rfl, rfl⟩)) (paired_refs fun y hy => h y (List.mem_cons_of_mem _ hy))
theorem rv_sameRefs {K : PySem.W.Frag} {H : Hp} {a b : Addr} {xs : List V} (ha : SqL K H a xs) (hb : SqL K H b xs) (h : ∀ x ∈ xs, ∃ a, x = .ref a) : RV (rEqV K) (.ref a) (.ref b) H (.bl true) := fun H1 s Q q =>
  ⟨1, by decide, .inl ⟨a, b, xs, xs, rfl, rfl, ex_l s ha, ex_l s hb, paired_refs h⟩, q H1 (Ex.refl H1)⟩
theorem rv_strSD {K : PySem.W.Frag} {H : Hp} {z : Str} : RV (fun x y H Q => rEq x y H Q ∨ rEqD K x y H Q) (.str z) (.str z) H (.bl true) := fun H1 s Q q => .inl ((rv_eq (x := .str z) (y := .str z) rfl) H1 s Q (by rw [decide_eq_true rfl]; exact q))
theorem rv_noSD {K : PySem.W.Frag} {H : Hp} {a b : Addr} {p : Int} (ha : H a = some (.tup [.str "no", .int p])) (hb : H b = some (.tup [.str "no", .int p])) : RV (fun x y H Q => rEq x y H Q ∨ rEqD K x y H Q) (.ref a) (.ref b) H (.bl true) := fun H1 s Q q => by
  have sh : SeqAt.shaped (.tuple [.str "no", .int p]) = true := by
    have o : PyData.canLay0 (.str "no") = true := by decide +kernel
    show ((PyData.canLay0 (.str "no") && (true && true)) && decide (_ ≤ 64)) = true
    rw [o]; rfl
  exact .inr ⟨_, _, .tup (SqT.of (s _ _ ha)) (.cons (.str "no") (.cons (.int p) .nil)), .tup (SqT.of (s _ _ hb)) (.cons (.str "no") (.cons (.int p) .nil)), sh, sh, by rw [data_same sh]; exact q H1 (Ex.refl H1)⟩
end Ss
namespace Ss
open PySem L2
section
variable {P : Program} {w : World} {K : PySem.W.Frag} {mg : Str → Option Value} {base : Heap}
theorem op_neSD {X : Cx} (hu : X.A.units + 64 < cLine) : OpR X (compareOp .NotEq) (fun x y H Q => rNe x y H Q ∨ rNeD X.K x y H Q) := by
  intro pins s σ H x y v u Q I rx ry h
  rcases h with h | h
  · exact op_ne pins s σ H x y v u Q I rx ry h
  · exact op_neD hu pins s σ H x y v u Q I rx ry h
theorem rv_strNE {K : PySem.W.Frag} {H : Hp} {z : Str} : Evl.RV (fun x y H Q => rNe x y H Q ∨ rNeD K x y H Q) (.str z) (.str z) H (.bl false) := fun H1 s Q q => .inl ⟨rfl, by
  have e : (!decide (V.str z = V.str z)) = false := by rw [decide_eq_true rfl]; rfl
  rw [e]; exact q H1 (Same.refl H1)⟩
theorem rv_noNE {K : PySem.W.Frag} {H : Hp} {a b : Addr} {p : Int} (ha : H a = some (.tup [.str "no", .int p])) (hb : H b = some (.tup [.str "no", .int p])) : Evl.RV (fun x y H Q => rNe x y H Q ∨ rNeD K x y H Q) (.ref a) (.ref b) H (.bl false) := fun H1 s Q q => by
  have sh : SeqAt.shaped (.tuple [.str "no", .int p]) = true := by
    have o : PyData.canLay0 (.str "no") = true := by decide +kernel
    show ((PyData.canLay0 (.str "no") && (true && true)) && decide (_ ≤ 64)) = true
    rw [o]; rfl
  refine .inr ⟨.tuple [.str "no", .int p], .tuple [.str "no", .int p], .tup (SqT.of (s _ _ ha)) (.cons (.str _) (.cons (.int _) .nil)), .tup (SqT.of (s _ _ hb)) (.cons (.str _) (.cons (.int _) .nil)), sh, sh, ?_⟩
  rw [data_same sh]
  exact q H1 (Same.refl H1)
theorem eqvAll_intsZ : ∀ l : List Int, PyData.eqvAll (l.map PyData.int) (l.map PyData.int) = true
  | [] => rfl
  | x :: l => by
    show ((x == x) && PyData.eqvAll (l.map PyData.int) (l.map PyData.int)) = true
    rw [eqvAll_intsZ l]; simp
theorem rv_neInts {K : PySem.W.Frag} {H : Hp} {p q : Addr} {l : List Int} (h1 : SqL K H p (l.map V.int)) (h2 : SqL K H q (l.map V.int)) : Evl.RV (rNeD K) (.ref p) (.ref q) H (.bl false) := fun H1 e Q k =>
  ⟨_, _, .lst (Evl.ex_l e h1) (dp_ints l), .lst (Evl.ex_l e h2) (dp_ints l), shaped_ints l, shaped_ints l, by
    show Q (.bl (!PyData.eqvAll _ _)) H1
    rw [eqvAll_intsZ]; exact k H1 (Same.refl H1)⟩
theorem pl_where (ts rem : List Str) : ((List.range ts.length).filter fun i => standsP ts rem (i : Nat)) = whereP ts rem := by
  unfold whereP
  congr 1
theorem mem_where {ts rem : List Str} {pl : Int} (hr : 1 ≤ rem.length) : decide (pl ∈ (whereP ts rem).map fun (i : Nat) => (i : Int)) = standsP ts rem pl := by
  rw [Bool.eq_iff_iff, decide_eq_true_eq, List.mem_map]
  constructor
  · rintro ⟨i, hi, rfl⟩
    rw [← pl_where] at hi
    exact (List.mem_filter.mp hi).2
  · intro h
    have h0 := h
    unfold standsP at h
    rw [Bool.and_eq_true] at h
    have h1 := of_decide_eq_true h.1
    have h2 := of_decide_eq_true h.2
    refine ⟨pl.toNat, ?_, Int.toNat_of_nonneg h1⟩
    rw [← pl_where]
    refine List.mem_filter.mpr ⟨List.mem_range.mpr ?_, by rw [Int.toNat_of_nonneg h1]; exact h0⟩
    have l := congrArg List.length h2
    rw [List.length_take, List.length_drop] at l
    omega
theorem rem_pos {k : RK} {toks : List Str} (h : toks.length = k.many) : 1 ≤ (k.rem toks).length := by
  match k, toks, h with
  | .out, [a], _ => exact Nat.le_of_ble_eq_true rfl
  | .twice, [a], _ => exact Nat.le_of_ble_eq_true rfl
  | .swapped, [a, b], _ => exact Nat.le_of_ble_eq_true rfl
  | .taken, [a, b], _ => exact Nat.le_of_ble_eq_true rfl
theorem s_forCat {K : PySem.W.Frag} {ta tb : TE} {g : TG} {body : TS} {D : Ends} {σ : L2.St} {H : Hp} (h : ta σ H fun x H1 => tb σ H1 fun y H2 => rCat x y H2 fun v H3 => ∃ a, v = .ref a ∧ (∃ xs, SqL K H3 a xs) ∧ tFor (fun _ H R => R (Itl K a) H) g body D σ H3) : tFor (iList K (tOp rCat ta tb)) g body D σ H := h
abbrev sLaw43 : Stmt := topS 34
theorem scLaw43 : FnScope ["script", "bag", "every", "turn", "tokens", "rules", "makes", "rows", "rule", "k", "at", "made", "row", "text", "where", "place", "far", "due"] ["script"] (defScope sLaw43) := ⟨rfl, rfl, rfl, by decide +kernel, rfl, by decide +kernel, by decide +kernel⟩
def spLaw (K : PySem.W.Frag) : Sp := fun vs H Q _ => ∃ (a : Addr) (ns : List Int), vs = [.ref a] ∧ SqL K H a (ns.map V.int) ∧ ns.length ≤ 63 ∧ ∀ H', Q (.bl true) H'
theorem ok_law {f Cb fpl R : Addr} {fd fdp : FuncData} {Cf : RK → Addr} (F : Fun K "law" "law" sLaw43 f fd) (T : G0 mg) (Z : RTab K mg Cf R) (Dbag : Dk P w K mg base CX0 1 "_law_bag" ["script", "at"] (spBag K)) (Dtake : Dk P w K mg base CX0 1 "_law_take" ["dice", "many"] spTake) (Dof : Dk P w K mg base CX0 2 "_law_of" ["dice", "some"] (spOf K))
    (Dtoken : Dk P w K mg base CX0 3 "_law_token" ["dice", "taken"] (spWord K SGN 4)) (Dlaid : Dk P w K mg base CX0 3 "_law_laid" ["bag", "tokens"] (spLaid K)) (Drule : Dk P w K mg base CX0 3 "_law_rule" ["bag", "every"] (spRule K)) (Dmeet : Dk P w K mg base CX0 4 "_law_meeting" ["bag", "tokens", "every"] (spMeet K))
    (Dwhere : Dk P w K mg base CX0 2 "_law_where" ["rule", "tokens"] (spWhere K)) (DR : Dk P w K mg base (L2.CX P w) 8 "_law_ruled" ["rule"] (spRuled K Cb Cf)) (Dslipped : Dk P w K mg base CX0 2 "_law_slipped" ["rule", "tokens", "place"] (spSlipped K)) (Ddone : Dk P w K mg base CX0 6 "_law_done" ["rule", "text", "place"] (spDone Cf))
    (hPl : ∀ k, Meth K (Cf k) "places" fpl) (FPl : ZFn P w K mg base 3 fpl fdp ["self", "text"] (spPlaces Cf)) (bPl : Binds K fdp ["self", "text"] []) : FnOk P w K mg base CX0 9 f fd ["script"] (spLaw K) := by
  refine F.ok scLaw43 (fun vs H Q E h => ?_) (fun cdv A outer s H vs Q E hr h => ?_)
  · obtain ⟨a, ns, rfl, _⟩ := h; rfl
  · obtain ⟨a, ns, rfl, hS, hl, k⟩ := h
    refine ⟨_, (pss_cons (ps_set (i := 1) scLaw43.nd rfl (Or.inr rfl) (pe_cd Dbag hr pass0 (pa_cons (pv 0) (pa_cons pe_int pa_nil)))) (pss_cons (ps_set (i := 2) scLaw43.nd rfl (Or.inr rfl) (pe_lst (pa_cons (pe_cd Dtoken hr pass0 (pa_cons (pv 1) (pa_cons (pe_lst pa_nil) pa_nil))) pa_nil))) (pss_cons (ps_for PassesOwn.never rfl (pi_range1 (by rfl) T.range (pa_cons (pe_op op_add pe_int (pe_cd Dtake hr pass0 (pa_cons (pv 1) (pa_cons pe_int pa_nil)))) pa_nil)) (pg_name (i := 3) scLaw43.nd rfl (.inl rfl)) (pss_one (ps_expr (pe_bm PySem.F.plainAttrs_list PySem.F.slot_list_append PySem.F.type_list_append mt_append (pv 2) (pa_cons (pe_cd Dtoken hr pass0 (pa_cons (pv 1) (pa_cons (pv 2) pa_nil))) pa_nil))))) (pss_cons (ps_setLc (i := 4) (own := [("turn", 3)]) (g := gName 3)  rfl scLaw43.nd rfl rfl (sw_true rfl rfl rfl (by decide +kernel)) (pi_range1 (by rfl) T.range (pa_cons (pe_cd Dtake hr pass0 (pa_cons (pv 1) (pa_cons pe_int pa_nil))) pa_nil)) (blkOk_by (N := ["script", "bag", "every", "turn", "tokens", "rules", "makes", "rows", "rule", "k", "at", "made", "row", "text", "where", "place", "far", "due"]) (sc := defScope sLaw43) (by decide +kernel)) (fun _ _ _ _ _ => (pg_name (i := 3) scLaw43.nd rfl (.inl rfl))) (fun _ _ _ _ _ => pts_nil) (fun _ _ _ _ _ => (pe_cd Dof hr pass0 (pa_cons (pv 1) (pa_cons (pv 2) pa_nil))))) (pss_cons (ps_set (i := 5) scLaw43.nd rfl (Or.inl rfl) (pe_lst (pa_cons (pe_cd Dmeet hr pass0 (pa_cons (pv 1) (pa_cons (pv 4) (pa_cons (pv 2) pa_nil)))) (pa_cons (pe_cd Dmeet hr pass0 (pa_cons (pv 1) (pa_cons (pv 4) (pa_cons (pv 2) pa_nil)))) pa_nil)))) (Evl.pss_cut (ps_if (pt_cmpR op_eq (pe_cd Dtake hr pass0 (pa_cons (pv 1) (pa_cons pe_int pa_nil))) pe_int (nomark _)) (pss_one (ps_asg (pe_cd Drule hr pass0 (pa_cons (pv 1) (pa_cons (pe_lst (pa_cons (pe_cd Dtoken hr pass0 (pa_cons (pv 1) (pa_cons (pv 2) pa_nil))) (pa_cons (pe_ix ix_list (pv 2) pe_int (fun _ _ => rfl)) pa_nil))) pa_nil))) (pg_sub (pv 5) pe_int set_list))) pss_nil) (pss_cons (ps_par (by rfl) scLaw43.nd rfl rfl (by decide) rfl rfl (pa_cons (pe_lc (own := [("rule", 8)]) (g := gName 8) rfl scLaw43.nd (pi_list (pv 5)) (blkOk_by (N := ["script", "bag", "every", "turn", "tokens", "rules", "makes", "rows", "rule", "k", "at", "made", "row", "text", "where", "place", "far", "due"]) (sc := defScope sLaw43) (by decide +kernel)) (fun _ _ _ _ _ => (pg_name (i := 8) scLaw43.nd rfl (.inl rfl))) (fun _ _ _ _ _ => pts_nil) (fun _ _ _ _ _ => (pe_cd DR hr passN (pa_cons (pv 8) pa_nil)))) (pa_cons (pe_lst (pa_cons (pv 4) (pa_cons (pe_revL (pv 4)) pa_nil))) pa_nil)) (by rfl) (i := 6) (j := 7)) (pss_cons (ps_for PassesOwn.never rfl (pi_list (pe_lst (pa_cons (pe_tup (pa_cons pe_int (pa_cons pe_int pa_nil))) (pa_cons (pe_tup (pa_cons pe_int (pa_cons pe_int pa_nil))) (pa_cons (pe_tup (pa_cons pe_int (pa_cons pe_int pa_nil))) (pa_cons (pe_tup (pa_cons pe_int (pa_cons pe_int pa_nil))) pa_nil)))))) (pg_tup (by rfl) (pgs_cons (pg_name (i := 9) scLaw43.nd rfl (.inl rfl)) (pgs_cons (pg_name (i := 10) scLaw43.nd rfl (.inl rfl)) pgs_nil))) (pss_cons (ps_par3 (i := 8) (j := 11) (l := 12) (by rfl) scLaw43.nd rfl rfl rfl (by decide) (by decide) (by decide) rfl rfl rfl (pa_cons (pe_ix ix_list (pv 5) (pv 9) (fun _ _ => rfl)) (pa_cons (pe_ix ix_list (pv 6) (pv 9) (fun _ _ => rfl)) (pa_cons (pe_ix ix_list (pv 7) (pv 10) (fun _ _ => rfl)) pa_nil))) (by rfl)) (pss_cons (ps_par (by rfl) scLaw43.nd rfl rfl (by decide) rfl rfl (pa_cons (pe_ix ix_tup (pe_cd Dlaid hr pass0 (pa_cons (pv 1) (pa_cons (pv 12) pa_nil))) pe_int (fun _ _ => rfl)) (pa_cons (pe_cd Dwhere hr pass0 (pa_cons (pv 8) (pa_cons (pv 12) pa_nil))) pa_nil)) (by rfl) (i := 13) (j := 14)) (pss_cons (ps_if (PW.pt (pw_or (pt_not (pt_val (pe_callB call_isi (by rfl) T.isinstance (by decide +kernel) (pa_cons (pv 11) (pa_cons (pe_glob (v := .ref R) rfl Z.gR rfl) pa_nil))))) (pw_or1 (pt_cmpR (op_neD hr.units) (pe_lcZ (k := 3) (own := [("place", 15)]) scLaw43.nd (pz_meth (pv 11) (fun k => (Z.cl k).cl) hPl FPl hr bPl (pa_cons (pv 13) pa_nil)) (hr.mono (by decide)) (blkOk_by (N := ["script", "bag", "every", "turn", "tokens", "rules", "makes", "rows", "rule", "k", "at", "made", "row", "text", "where", "place", "far", "due"]) (sc := defScope sLaw43) (by decide +kernel)) (by decide +kernel)) (pv 14) (nomark _))))) (pss_one (ps_ret pe_bl)) pss_nil) (pss_cons (ps_set (i := 16) scLaw43.nd rfl (Or.inl rfl) (pe_lst (pa_cons (pe_op op_sub (pe_un un_neg pe_int) (pe_cd Dtake hr pass0 (pa_cons (pv 1) (pa_cons (pe_op op_pow pe_int pe_int) pa_nil)))) (pa_cons (pe_op op_add pe_int (pe_cd Dtake hr pass0 (pa_cons (pv 1) (pa_cons (pe_op op_pow pe_int pe_int) pa_nil)))) pa_nil)))) (pss_one (ps_for PassesOwn.never rfl (pi_list (pe_op op_cat (pe_listRg rfl (by rfl) T.list (prg_2 (by rfl) T.range (pe_un un_neg pe_int) (pe_op op_add (pe_callB call_len_seq (by rfl) T.len (by decide +kernel) (pa_cons (pv 12) pa_nil)) pe_int))) (pv 16))) (pg_name (i := 15) scLaw43.nd rfl (.inl rfl)) (pss_cons (ps_set (i := 17) scLaw43.nd rfl (Or.inl rfl) (pe_tup (pa_cons pe_str (pa_cons (pv 15) pa_nil)))) (Evl.pss_cut (ps_if (pt_cmpR op_in_seq (pv 15) (pv 14) (by rfl)) (pss_one (ps_set (i := 17) scLaw43.nd rfl (Or.inl rfl) (pe_bm PySem.F.plainAttrs_str PySem.F.slot_str_join PySem.F.type_str_join mt_join pe_str (pa_cons (pe_cd Dslipped hr pass0 (pa_cons (pv 8) (pa_cons (pv 12) (pa_cons (pv 15) pa_nil)))) pa_nil)))) pss_nil) (pss_one (ps_if (pt_cmpR (op_neSD hr.units) (pe_cd Ddone hr pass0 (pa_cons (pv 11) (pa_cons (pv 13) (pa_cons (pv 15) pa_nil)))) (pv 17) (nomark _)) (pss_one (ps_ret pe_bl)) pss_nil))))))))))) (pss_one (ps_ret pe_bl)))))))))), ?_⟩
    refine ⟨_, rfl, a, ns, 0, rfl, hS, hl, by decide, fun b H1 hb s1 B1 => ?_⟩
    refine ⟨_, rfl, Nat.zero_le _, fun q0 hq0 => ⟨b, q0, 0, [], rfl, B1.new hq0, by decide, (B1.ne hq0).symm, SqL.of upd_same, by decide +kernel, fun t1 H2 a1 a2 a3 _ O2 B2 => ?_⟩⟩
    have T1 : TokS (mkS t1) := ⟨t1, rfl, a1, a2, a3⟩
    refine ⟨by show 1 ≤ sizeLine; decide, fun p hp => ?_⟩
    have npb : p ≠ b := (B2.ne hp).symm
    have B3 := B2.new (o := .lst [.str (mkS t1)]) hp
    have hp3 : upd H2 p (.lst [.str (mkS t1)]) p = some (.lst (([mkS t1] : List Str).map V.str)) := upd_same
    generalize upd H2 p (.lst [.str (mkS t1)]) = H3 at B3 hp3 ⊢
    refine ⟨_, rfl, b, _, _, rfl, B3, by decide, by decide, by decide, fun u H4 u0 u1 O4 B4 => ⟨_, _, rfl, rfl, _, rfl, by omega, by omega, ?_⟩⟩
    have hp4 := O4 _ _ npb hp3
    have lw : (1000 : Nat) ≤ sizeLine := by decide
    refine for_range (lo := 0) (n := (1 + u).toNat) (fun i σ H' => ∃ (ws : List Str) (v3 : Option V), σ = [some (.ref a), some (.ref b), some (.ref p), v3, none, none, none, none, none, none, none, none, none, none, none, none, none, none] ∧ ws.length = i + 1 ∧ (∀ z ∈ ws, TokS z) ∧ ws.Nodup ∧ H' p = some (.lst (ws.map V.str)) ∧ Bag H' b (10 + 5 * i))
      ⟨[mkS t1], none, rfl, rfl, fun z hz => by rw [List.mem_singleton.mp hz]; exact T1, by simp, hp4, B4.mono (by decide)⟩ ?_ ?_
    · rintro i _ H5 hi ⟨ws, v3, rfl, lws, tws, nws, hp5, B5⟩
      refine ⟨_, rfl, .inl ⟨rfl, _, SqL.of hp5⟩, _, rfl, _, rfl, b, p, _, ws, rfl, B5, by omega, npb, SqL.of hp5, Nat.lt_of_lt_of_le (show ws.length < 10 by omega) (by decide +kernel), fun t H6 b1 b2 b3 b4 O6 B6 => ?_⟩
      have hp6 := O6 _ _ npb hp5
      refine ⟨p, _, _, rfl, rfl, hp6, by rw [List.length_map]; omega, ?_⟩
      refine ⟨ws ++ [mkS t], _, rfl, by rw [List.length_append, lws]; rfl, fun z hz => ?_, ?_, by rw [upd_same, List.map_append]; rfl, ?_⟩
      · rcases List.mem_append.mp hz with hz | hz
        · exact tws z hz
        · rw [List.mem_singleton.mp hz]; exact ⟨t, rfl, b1, b2, b3⟩
      · refine List.nodup_append.mpr ⟨nws, by simp, fun x hx y hy e => ?_⟩
        rw [List.mem_singleton.mp hy] at e
        exact b4 (e ▸ hx)
      · obtain ⟨d, m, c, g1, g2⟩ := B6
        obtain ⟨r1, r2, r3, r4, r5⟩ := g2
        exact ⟨d, m, c, by rw [upd_ne npb.symm]; exact g1, r1, r2, r3, r4, by omega⟩
    rintro _ H5 ⟨ws, v3, rfl, lws, tws, nws, hp5, B5⟩
    have w2 : 2 ≤ ws.length := by omega
    have w5 : ws.length ≤ 5 := by omega
    have B5 := B5.mono (show _ ≤ 100 by omega)
    -- the tokens
    refine ⟨_, rfl, b, _, _, rfl, B5, by decide, by decide, by decide, fun u2 H6 w0 w1 O6 B6 => ⟨_, rfl, by omega, by omega, fun tk htk => ?_⟩⟩
    have ntkb : tk ≠ b := (B6.ne htk).symm
    have hp6 := O6 _ _ npb hp5
    have npk : p ≠ tk := ne_of_none hp6 htk
    refine lc_range (lo := 0) (n := u2.toNat) (fun i H' => ∃ ts : List Str, ts.length = i ∧ (∀ x ∈ ts, x ∈ ws) ∧ H' tk = some (.lst (ts.map V.str)) ∧ H' p = some (.lst (ws.map V.str)) ∧ Bag H' b (101 + i))
      ⟨[], rfl, (fun x h => nomatch h), upd_same, by rw [upd_ne npk]; exact hp6, B6.new htk⟩ ?_ ?_
    · rintro i H7 hi ⟨ts, lts, its, hk7, hp7, B7⟩
      refine ⟨rfl, ?_⟩
      refine ⟨_, rfl, _, rfl, b, _, B7, by omega, .inl ⟨p, _, rfl, npb, SqL.of hp7, by rw [List.length_map]; omega, by rw [List.length_map]; omega, fun x H8 hx O8 B8 => ?_⟩⟩
      obtain ⟨y, hy, rfl⟩ := List.mem_map.mp hx
      have hk8 := O8 _ _ ntkb hk7
      have hp8 := O8 _ _ npb hp7
      refine ⟨_, hk8, by rw [List.length_map]; omega, ts ++ [y], by rw [List.length_append, lts]; rfl, fun x hx => ?_, by rw [upd_same, List.map_append]; rfl, by rw [upd_ne npk]; exact hp8, ?_⟩
      · rcases List.mem_append.mp hx with hx | hx
        · exact its x hx
        · rw [List.mem_singleton.mp hx]; exact hy
      · obtain ⟨d, m, c, g1, g2⟩ := B8
        exact ⟨d, m, c, by rw [upd_ne ntkb.symm]; exact g1, g2⟩
    rintro H7 ⟨ts, lts, its, hk7, hp7, B7⟩
    have l31 : ts.length ≤ 31 := by omega
    have B7 := B7.mono (show _ ≤ 200 by omega)
    have okW : ws.all okS = true := List.all_eq_true.mpr fun x hx => okS_word (tws x hx).word
    have okT : ts.all okS = true := List.all_eq_true.mpr fun x hx => okS_word (tws x (its x hx)).word
    have wT : ∀ x ∈ ts, wordOk x := fun x hx => (tws x (its x hx)).word
    -- the rules
    refine ⟨_, rfl, _, rfl, _, rfl, b, tk, p, _, ts, ws, rfl, B7, by omega, ntkb, npb, SqL.of hk7, SqL.of hp7, by omega, its, okW, w2, by omega, nws, fun qa ka ta Ha Oa Ba nqa hqa la ma nda => ?_⟩
    have Ra : RT Ha qa ka ta := ⟨hqa, la, fun z hz => tws z (ma z hz), nda⟩
    have hka := Oa _ _ ntkb hk7
    have hpa := Oa _ _ npb hp7
    refine ⟨_, rfl, _, rfl, _, rfl, b, tk, p, _, ts, ws, rfl, Ba, by omega, ntkb, npb, SqL.of hka, SqL.of hpa, by omega, its, okW, w2, by omega, nws, fun qb kb tb Hb Ob Bb nqb hqb lb mb ndb => ⟨by show 2 ≤ sizeLine; decide, fun rl hrl => ?_⟩⟩
    have Rb : RT Hb qb kb tb := ⟨hqb, lb, fun z hz => tws z (mb z hz), ndb⟩
    have nrb : rl ≠ b := (Bb.ne hrl).symm
    have ntr : tk ≠ rl := ne_of_none (Ob _ _ ntkb hka) hrl
    have hkb := Ob _ _ ntkb hka
    have hpb := Ob _ _ npb hpa
    have s8 : Same Hb (upd Hb rl (.lst [.ref qa, .ref qb])) := Evl.Ex.new hrl
    have Ra8 := (Ra.off Ba Ob).same s8
    have Rb8 := Rb.same s8
    have hk8 := s8 _ _ hkb
    have hp8 := s8 _ _ hpb
    have B8 := (Bb.same s8).mono (show _ ≤ 250 by omega)
    have hrl8 : upd Hb rl (.lst [.ref qa, .ref qb]) rl = some (.lst [.ref qa, .ref qb]) := upd_same
    generalize upd Hb rl (.lst [.ref qa, .ref qb]) = H8 at Ra8 Rb8 hk8 hp8 B8 hrl8
    refine Evl.q_cut (M := fun σ' H' => ∃ (qb : Addr) (kb : RK) (tb : List Str), σ' = [some (.ref a), some (.ref b), some (.ref p), v3, some (.ref tk), some (.ref rl), none, none, none, none, none, none, none, none, none, none, none, none] ∧ H' rl = some (.lst [.ref qa, .ref qb]) ∧ RT H' qa ka ta ∧ RT H' qb kb tb ∧ H' tk = some (.lst (ts.map V.str)) ∧ Bag H' b 300) ?_ ?_
    · refine ⟨_, rfl, b, 4, _, rfl, B8, by decide, by decide, by decide, fun u3 H9 u30 u31 O9 B9 => ⟨rfl, _, rfl, ?_⟩⟩
      refine ite2 (fun c => ?_) (fun c => ⟨qb, kb, tb, rfl, O9 _ _ nrb hrl8, Ra8.off B8 O9, Rb8.off B8 O9, O9 _ _ ntkb hk8, B9.mono (by omega)⟩)
      have hp9 := O9 _ _ npb hp8
      obtain ⟨w0, wr, rfl⟩ : ∃ x r, ws = x :: r := by
        cases ws with
        | nil => exact absurd w2 (by decide)
        | cons x r => exact ⟨x, r, rfl⟩
      refine ⟨_, rfl, _, rfl, _, rfl, b, p, _, _, rfl, B9, by omega, npb, SqL.of hp9, Nat.lt_of_lt_of_le (show _ < 10 by omega) (by decide +kernel), fun t H10 c1 c2 c3 c4 O10 B10 => ?_⟩
      have hp10 := O10 _ _ npb hp9
      refine ⟨_, rfl, p, _, 0, _, rfl, rfl, SqL.of hp10, atI_nat (j := 0) rfl, by show 2 ≤ sizeLine; decide, fun el hel => ?_⟩
      have nelb : el ≠ b := (B10.ne hel).symm
      have B10' := B10.new (o := .lst [.str (mkS t), .str w0]) hel
      have net : mkS t ≠ w0 := fun e => c4 (by rw [e]; exact List.mem_cons_self)
      refine ⟨b, el, _, [mkS t, w0], rfl, B10', by omega, nelb, SqL.of upd_same, by show 2 ≤ 2; decide, by show 2 ≤ 1000; decide, by simpa using net, fun q k2 tq H11 O11 B11 nq hq l2 m2 n2 => ?_⟩
      have OT : Off b H8 H11 := O9.trans (O10.trans ((Off.new (Off.refl b H10) hel).trans O11))
      have hrl11 := OT _ _ nrb hrl8
      have Rq : RT H11 q k2 tq := ⟨hq, l2, fun z hz => by
        have h := m2 z hz
        simp only [List.mem_cons, List.not_mem_nil, or_false] at h
        rcases h with rfl | rfl
        · exact ⟨t, rfl, c1, c2, c3⟩
        · exact tws _ List.mem_cons_self, n2⟩
      refine ⟨_, rfl, rl, _, _, 1, rfl, rfl, hrl11, rfl, q, k2, tq, rfl, upd_same, ?_, ?_, ?_, ?_⟩
      · exact (Ra8.off B8 OT).mono (upd_ne fun e => by rw [← e, (Ra8.off B8 OT).at_] at hrl11; cases hrl11)
      · exact Rq.mono (upd_ne fun e => by rw [← e, hq] at hrl11; cases hrl11)
      · rw [upd_ne ntr]
        exact OT _ _ ntkb hk8
      · obtain ⟨d, m, c, g1, g2⟩ := B11.mono (show _ ≤ 300 by omega)
        exact ⟨d, m, c, by rw [upd_ne nrb.symm]; exact g1, g2⟩
    rintro _ H9 ⟨qb, kb, tb, rfl, hrl9, Ra9, Rb9, hk9, B9⟩
    -- what they make
    refine ⟨_, rfl, rl, rfl, ⟨_, SqL.of hrl9⟩, fun mk hmk => ?_⟩
    have nmb : mk ≠ b := (B9.ne hmk).symm
    refine lc_list (xs := [.ref qa, .ref qb]) (fun m H' => Same H9 H' ∧ ∃ os : List V, H' mk = some (.lst os) ∧ os.length = m ∧ (0 < m → ∃ x, os[0]? = some (.ref x) ∧ RuleAt H' (Cf ka) x ka ta) ∧ (1 < m → ∃ x, os[1]? = some (.ref x) ∧ RuleAt H' (Cf kb) x kb tb))
      ⟨Evl.Ex.new hmk, [], upd_same, rfl, fun h => absurd h (by decide), fun h => absurd h (by decide)⟩ (fun i H' _ h => SqL.of (h.1 _ _ hrl9)) ?_ ?_
    · rintro i x H' hx ⟨s, os, eD, lo, f0, f1⟩
      have nD : H9 mk = none := hmk
      have turn : ∀ (q : Addr) (kq : RK) (tq : List Str), RT H9 q kq tq → x = .ref q → (∀ (y : Addr) (H2 : Hp), Same H' H2 → RuleAt (upd H2 mk (.lst (os ++ [.ref y]))) (Cf kq) y kq tq → (∀ {c : Addr} {k0 : RK} {t0 : List Str}, RuleAt H' (Cf k0) c k0 t0 → RuleAt (upd H2 mk (.lst (os ++ [.ref y]))) (Cf k0) c k0 t0) →
          Same H9 (upd H2 mk (.lst (os ++ [.ref y]))) → Same H9 (upd H2 mk (.lst (os ++ [.ref y]))) ∧ ∃ os' : List V, (upd H2 mk (.lst (os ++ [.ref y]))) mk = some (.lst os') ∧ os'.length = i + 1 ∧ (0 < i + 1 → ∃ x, os'[0]? = some (.ref x) ∧ RuleAt (upd H2 mk (.lst (os ++ [.ref y]))) (Cf ka) x ka ta) ∧ (1 < i + 1 → ∃ x, os'[1]? = some (.ref x) ∧ RuleAt (upd H2 mk (.lst (os ++ [.ref y]))) (Cf kb) x kb tb)) →
          spRuled K Cb Cf [x] H' (fun v H2 => ∃ acc, H2 mk = some (.lst acc) ∧ acc.length < sizeLine ∧ (Same H9 (upd H2 mk (.lst (acc ++ [v]))) ∧ ∃ os' : List V, (upd H2 mk (.lst (acc ++ [v]))) mk = some (.lst os') ∧ os'.length = i + 1 ∧ (0 < i + 1 → ∃ x, os'[0]? = some (.ref x) ∧ RuleAt (upd H2 mk (.lst (acc ++ [v]))) (Cf ka) x ka ta) ∧ (1 < i + 1 → ∃ x, os'[1]? = some (.ref x) ∧ RuleAt (upd H2 mk (.lst (acc ++ [v]))) (Cf kb) x kb tb))) (fun _ _ _ => False) := fun q kq tq Rq ex kk => by
        subst ex
        have Rq' := Rq.same s
        refine ⟨q, kq, tq, rfl, SqT.of Rq'.at_, Rq'.len, Rq'.words, fun _ y H2 s2 ny hy => ?_, fun z hz => by rw [Rq'.good] at hz; cases hz⟩
        have eD2 := s2 _ _ eD
        refine ⟨os, eD2, Nat.lt_of_lt_of_le (show os.length < 1000 by rw [lo]; have := (List.getElem?_eq_some_iff.mp hx).1; simp at this; omega) (by decide), ?_⟩
        exact kk y H2 s2 (hy.nl (NL.upd eD2)) (fun h => (h.mono s2).nl (NL.upd eD2)) fun c u hc => by rw [upd_ne (ne_of_none hc nD)]; exact s2 _ _ (s _ _ hc)
      match i, hx, lo, f0, f1 with
      | 0, hx, lo, f0, f1 =>
        have e0 : os = [] := List.length_eq_zero_iff.mp lo
        refine ⟨rfl, _, rfl, turn qa ka ta Ra9 (by cases hx; rfl) fun y H2 s2 hy hold sm => ⟨sm, [.ref y], by rw [upd_same, e0]; rfl, rfl, fun _ => ⟨y, rfl, hy⟩, fun h => absurd h (by decide)⟩⟩
      | 1, hx, lo, f0, f1 =>
        obtain ⟨o0, e0⟩ := List.length_eq_one_iff.mp lo
        refine ⟨rfl, _, rfl, turn qb kb tb Rb9 (by cases hx; rfl) fun y H2 s2 hy hold sm => ?_⟩
        obtain ⟨x0, g0, r0⟩ := f0 (by decide)
        exact ⟨sm, [o0, .ref y], by rw [upd_same, e0]; rfl, rfl, fun _ => ⟨x0, by rw [e0] at g0; exact g0, hold r0⟩, fun _ => ⟨y, rfl, hy⟩⟩
      | n + 2, hx, _, _, _ => exact absurd (List.getElem?_eq_some_iff.mp hx).1 (by simp)
    rintro H10 ⟨s10, os, hmk10, lo, f0, f1⟩
    obtain ⟨xa, g0, Pa⟩ := f0 (by show 0 < 2; decide)
    obtain ⟨xb, g1, Pb⟩ := f1 (by show 1 < 2; decide)
    have eos : os = [.ref xa, .ref xb] := by
      match os, lo, g0, g1 with
      | [o0, o1], _, g0, g1 => cases g0; cases g1; rfl
    subst eos
    -- the two rows
    refine ⟨_, rfl, ⟨_, rfl, tk, _, rfl, SqL.of (s10 _ _ hk9), fun rv hrv => ⟨by show 2 ≤ sizeLine; decide, fun rw_ hrw => ?_⟩⟩⟩
    refine ⟨_, _, rfl, ?_⟩
    have sr : Same H10 (upd H10 rv (.lst (ts.map V.str).reverse)) := Evl.Ex.new hrv
    have nvb : rv ≠ b := ((B9.same s10).ne hrv).symm
    have nwb : rw_ ≠ b := (((B9.same s10).same sr).ne hrw).symm
    have sq : Same H10 (upd (upd H10 rv (.lst (ts.map V.str).reverse)) rw_ (.lst [.ref tk, .ref rv])) := sr.trans (Evl.Ex.new hrw)
    have nvw : rv ≠ rw_ := fun e => by rw [← e, upd_same] at hrw; cases hrw
    have s9q := s10.trans sq
    have hrlG := s9q _ _ hrl9
    have RaG := Ra9.same s9q
    have RbG := Rb9.same s9q
    have hkG := s9q _ _ hk9
    have BG := B9.same s9q
    have PaG := Pa.mono sq
    have PbG := Pb.mono sq
    have hmkG := sq _ _ hmk10
    have hrvG : (upd (upd H10 rv (.lst (ts.map V.str).reverse)) rw_ (.lst [.ref tk, .ref rv])) rv = some (.lst (ts.reverse.map V.str)) := by rw [upd_ne nvw, upd_same, List.map_reverse]
    have hrwG : (upd (upd H10 rv (.lst (ts.map V.str).reverse)) rw_ (.lst [.ref tk, .ref rv])) rw_ = some (.lst [.ref tk, .ref rv]) := upd_same
    generalize upd (upd H10 rv (.lst (ts.map V.str).reverse)) rw_ (.lst [.ref tk, .ref rv]) = G0 at hrlG RaG RbG hkG BG PaG PbG hmkG hrvG hrwG
    -- the four turns
    refine ⟨by show 2 ≤ sizeLine; decide, fun c0 hc0 => ⟨by show 2 ≤ sizeLine; decide, fun c1 hc1 => ⟨by show 2 ≤ sizeLine; decide, fun c2 hc2 => ⟨by show 2 ≤ sizeLine; decide, fun c3 hc3 => ⟨by show 4 ≤ sizeLine; decide, fun la hla => ?_⟩⟩⟩⟩⟩
    have z0 : Same G0 (upd G0 c0 (.tup [.int 0, .int 0])) := Evl.Ex.new hc0
    have z1 := Evl.Ex.new (o := .tup [.int 1, .int 0]) hc1
    have z2 := Evl.Ex.new (o := .tup [.int 0, .int 1]) hc2
    have z3 := Evl.Ex.new (o := .tup [.int 0, .int 0]) hc3
    have z4 := Evl.Ex.new (o := .lst [.ref c0, .ref c1, .ref c2, .ref c3]) hla
    have e0 := ((z1.trans z2).trans (z3.trans z4)) _ _ (upd_same (H := G0) (a := c0) (o := .tup [.int 0, .int 0]))
    have e1 := (z2.trans (z3.trans z4)) _ _ (upd_same (a := c1) (o := .tup [.int 1, .int 0]))
    have e2 := (z3.trans z4) _ _ (upd_same (a := c2) (o := .tup [.int 0, .int 1]))
    have e3 := z4 _ _ (upd_same (a := c3) (o := .tup [.int 0, .int 0]))
    have sG := (z0.trans z1).trans ((z2.trans z3).trans z4)
    have eL : (upd (upd (upd (upd (upd G0 c0 (.tup [.int 0, .int 0])) c1 (.tup [.int 1, .int 0])) c2 (.tup [.int 0, .int 1])) c3 (.tup [.int 0, .int 0])) la (.lst [.ref c0, .ref c1, .ref c2, .ref c3])) la = some (.lst [.ref c0, .ref c1, .ref c2, .ref c3]) := upd_same
    have nlb : la ≠ b := ((((((BG.same z0).same z1).same z2).same z3)).ne hla).symm
    generalize upd (upd (upd (upd (upd G0 c0 (.tup [.int 0, .int 0])) c1 (.tup [.int 1, .int 0])) c2 (.tup [.int 0, .int 1])) c3 (.tup [.int 0, .int 0])) la (.lst [.ref c0, .ref c1, .ref c2, .ref c3]) = G1 at z4 e0 e1 e2 e3 sG eL ⊢
    have hrlG := sG _ _ hrlG
    have RaG := RaG.same sG
    have RbG := RbG.same sG
    have hkG := sG _ _ hkG
    have BG := BG.same sG
    have PaG := PaG.mono sG
    have PbG := PbG.mono sG
    have hmkG := sG _ _ hmkG
    have hrvG := sG _ _ hrvG
    have hrwG := sG _ _ hrwG
    have pick : ∀ i, i < 4 → ∃ (ci : Addr) (kk aa : Nat), [V.ref c0, V.ref c1, V.ref c2, V.ref c3][i]? = some (.ref ci) ∧ G1 ci = some (.tup [.int (kk : Nat), .int (aa : Nat)]) ∧ kk < 2 ∧ aa < 2 := fun i hi => by
      match i, hi with
      | 0, _ => exact ⟨c0, 0, 0, rfl, e0, by decide, by decide⟩
      | 1, _ => exact ⟨c1, 1, 0, rfl, e1, by decide, by decide⟩
      | 2, _ => exact ⟨c2, 0, 1, rfl, e2, by decide, by decide⟩
      | 3, _ => exact ⟨c3, 0, 0, rfl, e3, by decide, by decide⟩
    have pickR : ∀ kk, kk < 2 → ∃ (q x : Addr) (kd : RK) (toks : List Str), [V.ref qa, V.ref qb][kk]? = some (.ref q) ∧ [V.ref xa, V.ref xb][kk]? = some (.ref x) ∧ RT G1 q kd toks ∧ RuleAt G1 (Cf kd) x kd toks := fun kk hk => by
      match kk, hk with
      | 0, _ => exact ⟨qa, xa, ka, ta, rfl, rfl, RaG, PaG⟩
      | 1, _ => exact ⟨qb, xb, kb, tb, rfl, rfl, RbG, PbG⟩
    have pickW : ∀ aa, aa < 2 → ∃ (r : Addr) (rts : List Str), [V.ref tk, V.ref rv][aa]? = some (.ref r) ∧ G1 r = some (.lst (rts.map V.str)) ∧ (∀ x ∈ rts, x ∈ ts) ∧ rts.length ≤ 31 ∧ r ≠ b := fun aa ha => by
      match aa, ha with
      | 0, _ => exact ⟨tk, ts, rfl, hkG, fun _ h => h, l31, ntkb⟩
      | 1, _ => exact ⟨rv, ts.reverse, rfl, hrvG, fun x h => List.mem_reverse.mp h, by rw [List.length_reverse]; exact l31, nvb⟩
    refine ⟨la, rfl, ⟨_, SqL.of eL⟩, for_it (walk_list (xs := [.ref c0, .ref c1, .ref c2, .ref c3])) (fun i σ H' => (∃ v8 v9 v10 v11 v12 v13 v14 v15 v16 v17 : Option V, σ = [some (.ref a), some (.ref b), some (.ref p), v3, some (.ref tk), some (.ref rl), some (.ref mk), some (.ref rw_), v8, v9, v10, v11, v12, v13, v14, v15, v16, v17]) ∧ Off b G1 H' ∧ Bag H' b (400 + 100 * i))
      ⟨⟨none, none, none, none, none, none, none, none, none, none, rfl⟩, Off.refl b G1, BG.mono (by decide)⟩ (fun i σ H' _ h => SqL.of (h.2.1 _ _ nlb eL)) ?_ ?_⟩
    · rintro i x0 σ H2 H2' hi ⟨⟨v8, v9, v10, v11, v12, v13, v14, v15, v16, v17, rfl⟩, O2, B2⟩ ⟨rfl, hx0⟩
      have hi4 : i < 4 := hi
      obtain ⟨ci, kk, aa, hci, hct, hkk, haa⟩ := pick i hi4
      obtain ⟨q, x, kd, toks, hq, hx, Rq, Px⟩ := pickR kk hkk
      obtain ⟨r, rts, hr1, hr2, hrs, hrl31, nrb2⟩ := pickW aa haa
      rw [hci] at hx0
      cases hx0
      have nl2 := NL.bag O2 BG
      refine ⟨ci, _, rfl, SqT.of (nl2 _ _ hct (fun _ z => nomatch z)), rfl, _, _, rfl, _, _, rfl, rfl, ?_⟩
      have nmkb := nmb
      refine ⟨_, rfl, _, rfl, rl, _, (kk : Nat), _, rfl, rfl, SqL.of (O2 _ _ nrb hrlG), atI_nat hq, _, rfl, _, rfl, mk, _, (kk : Nat), _, rfl, rfl, SqL.of (O2 _ _ nmb hmkG), atI_nat hx, _, rfl, _, rfl, rw_, _, (aa : Nat), _, rfl, rfl, SqL.of (O2 _ _ nwb hrwG), atI_nat hr1, ?_⟩
      refine ⟨_, _, _, rfl, ?_⟩
      have Rq := Rq.off BG O2
      have Px := Px.nl nl2
      have hr2 := O2 _ _ nrb2 hr2
      have hn : ∀ x ∈ rts, x ∈ ws := fun x hx => its x (hrs x hx)
      have wR : ∀ x ∈ rts, wordOk x := fun x hx => wT x (hrs x hx)
      have okR : rts.all okS = true := List.all_eq_true.mpr fun x hx => okS_word (wR x hx)
      have okK : toks.all okS = true := List.all_eq_true.mpr fun x hx => okS_word (Rq.words x hx)
      let tss : List (List Nat) := rts.map fun x => x.cps.toList
      have etss : tss.map mkS = rts := by
        show (rts.map fun x => x.cps.toList).map mkS = rts
        rw [List.map_map]
        exact (List.map_congr_left fun x _ => (mkS_of x).symm).trans (List.map_id rts)
      have hr2' : H2' r = some (.lst (tss.map fun t => V.str (mkS t))) := by rw [map_mk, etss]; exact hr2
      have ltss : tss.length = rts.length := List.length_map _
      have ptss : ∀ t ∈ tss, t ≠ [] ∧ t.length ≤ 8 ∧ ∀ c ∈ t, gapC c = false := fun t ht => by
        obtain ⟨x, hx, rfl⟩ := List.mem_map.mp ht
        obtain ⟨y, rfl, y1, y2, y3⟩ := tws x (hn x hx)
        rw [mkS_cps]
        exact ⟨fun e => by rw [e] at y1; exact absurd y1 (by decide), by omega, fun c hc => sgn_gap c (y3 c hc)⟩
      refine ⟨_, rfl, _, rfl, b, r, _, tss, rfl, B2, by omega, nrb2, SqL.of hr2', by omega, ptss, fun ql l z lsx H5 O5 B5 nq hql hz hzl nl hll => ?_⟩
      have nl5 := NL.bag O5 B2
      have etoks : toksOf (mkS z) = rts := by
        unfold toksOf
        rw [mkS_cps, hz]; exact etss
      have lz : (mkS z).length ≤ 100000 := by rw [mkS_len]; omega
      have Rq := Rq.off B2 O5
      have Px := Px.nl nl5
      have hr5 := O5 _ _ nrb2 hr2
      refine ⟨ql, _, 0, _, rfl, rfl, SqT.of hql, atI_nat (j := 0) rfl, _, rfl, _, rfl, q, r, kd, toks, rts, rfl, SqT.of Rq.at_, Rq.len, SqL.of hr5, by omega, okR, rem_all okK, fun pw H6 npw s6 hpw => ⟨_, _, rfl, ?_⟩⟩
      have Rq := Rq.same s6
      have Px := Px.mono s6
      have hr6 := s6 _ _ hr5
      have B6 := B5.same s6
      obtain ⟨dx, tt1, rr1, rr2, g1, _⟩ := id Px
      have nst : (([("tokens", V.ref tt1), ("removed", V.ref rr1), ("inserted", V.ref rr2)] : List (Str × V))).lookup ("places" : Str) = none := by
        rw [lookup_hd, if_neg (by decide +kernel), lookup_hd, if_neg (by decide +kernel), lookup_hd, if_neg (by decide +kernel)]
        rfl
      have epl : plOf (mkS z) (kd.rem toks) = whereP rts (kd.rem toks) := by
        unfold plOf
        rw [etoks]
        exact pl_where rts (kd.rem toks)
      have lpl : (whereP rts (kd.rem toks)).length ≤ 31 := by
        unfold whereP
        have := List.length_filter_le (fun i => decide ((rts.drop i).take (kd.rem toks).length = kd.rem toks)) (List.range rts.length)
        rw [List.length_range] at this
        omega
      have emap : ((whereP rts (kd.rem toks)).map fun i : Nat => V.int (i : Nat)) = ((whereP rts (kd.rem toks)).map fun i : Nat => (i : Int)).map V.int := by rw [List.map_map]; rfl
      refine Evl.q_when (b := false) (Evl.et_is (Evl.et_or (a := false) (b := false) (Evl.et_is (Evl.et_not (Evl.et_B (Evl.ev_cb (Evl.ea_cons (Evl.ev_var rfl) (Evl.ea_cons Evl.ev_c Evl.ea_nil)) (rc_isR Z Px (Z.base kd))))) rfl) fun _ => Evl.et_test (fun G s Q1 q1 => ?_)) rfl) (fun e => Bool.noConfusion e) (fun _ H7 s7 => ?_)
      · refine ⟨(plOf (mkS z) (kd.rem toks)).map (fun i : Nat => V.int (i : Nat)), by rw [List.length_map, epl]; omega, _, rfl, kd, x, dx, _, rfl, s _ _ g1, nst, _, rfl, x, kd, toks, mkS z, rfl, lz, Px.mono s, by rw [etoks]; omega, by rw [etoks]; exact okR, okK, rfl, fun H' s' p5 hp5 => ⟨_, rfl, ?_⟩⟩
        have sp5 : Same G (upd H' p5 (.lst ((plOf (mkS z) (kd.rem toks)).map fun i : Nat => V.int (i : Nat)))) := s'.trans (Evl.Ex.new hp5)
        refine rv_neInts (H := upd H' p5 (.lst ((plOf (mkS z) (kd.rem toks)).map fun i : Nat => V.int (i : Nat)))) (SqL.of (by rw [upd_same, epl, emap])) (SqL.of (sp5 _ _ (s _ _ hpw))) _ (Same.refl _) _ fun G2 s2 => q1 G2 (sp5.trans s2)
      have Rq := Rq.same s7
      have Px := Px.mono s7
      have hr7 := s7 _ _ hr6
      have B7' := B6.same s7
      have hpw := s7 _ _ hpw
      -- the far ones
      refine ⟨(1 : Int), rfl, _, rfl, _, _, rfl, rfl, ⟨by decide, by decide, by decide⟩, b, _, _, rfl, B7', by omega, by decide, by decide, fun v G8 v0 v1 O8 B8 => ⟨_, _, rfl, rfl, ?_⟩⟩
      have v1 : v < 10 ^ 20 := v1
      refine ⟨_, rfl, _, _, rfl, rfl, ⟨by decide, by decide, by decide⟩, b, _, _, rfl, B8, by omega, by decide, by decide, fun v2 G9 v20 v21 O9 B9 => ⟨_, _, rfl, rfl, by show 2 ≤ sizeLine; decide, fun fl hfl => ?_⟩⟩
      have v21 : v2 < 10 ^ 20 := v21
      have npwb : pw ≠ b := (B5.ne npw).symm
      have Rq := (Rq.off B7' O8).off B8 O9
      have Px := (Px.nl (NL.bag O8 B7')).nl (NL.bag O9 B8)
      have hr9 := O9 _ _ nrb2 (O8 _ _ nrb2 hr7)
      have hpw9 := O9 _ _ npwb (O8 _ _ npwb hpw)
      have sF : Same G9 (upd G9 fl (.lst [.int (-1 - v), .int (40 + v2)])) := Evl.Ex.new hfl
      have hflF : (upd G9 fl (.lst [.int (-1 - v), .int (40 + v2)])) fl = some (.lst [.int (-1 - v), .int (40 + v2)]) := upd_same
      have OA : Off b G1 (upd G9 fl (.lst [.int (-1 - v), .int (40 + v2)])) := O2.trans (O5.trans ((Off.of (s6.trans s7)).trans (O8.trans (O9.trans (Off.of sF)))))
      have BA := (B9.same sF).mono (show _ ≤ 400 + 100 * (i + 1) by omega)
      have Rq := Rq.same sF
      have Px := Px.mono sF
      have hr9 := sF _ _ hr9
      have hpw9 := sF _ _ hpw9
      dsimp only [gName, List.set]
      refine s_forCat ?_
      generalize upd G9 fl (.lst [.int (-1 - v), .int (40 + v2)]) = G10 at hflF OA BA Rq Px hr9 hpw9 ⊢
      have lmap : (rts.map V.str).length = rts.length := List.length_map _
      have rg : RgOk (-2) (((rts.map V.str).length : Nat) + 3) := by rw [lmap]; exact ⟨by decide, by decide, by omega, by omega, by omega⟩
      refine (el_lstRg (ta := tUn (rU fun i => V.int (-i)) (tC (.int 2))) (σ := [some (.ref a), some (.ref b), some (.ref p), v3, some (.ref tk), some (.ref rl), some (.ref mk), some (.ref rw_), some (.ref q), some (.int (kk : Nat)), some (.int (aa : Nat)), some (.ref x), some (.ref r), some (.str (mkS z)), some (.ref pw), v15, some (.ref fl), v17]) (fun G s Q1 q1 => ⟨(2 : Int), rfl, q1 G (Same.refl G)⟩) (Evl.ev_op (r := rI0 fun i j => V.int (i + j)) (Evl.ev_len (K := K) (Evl.ev_var (i := 12) rfl) (SqL.of hr9)) (Evl.ev_c (v := .int 3)) Evl.rv_I0) rg) G10 (Same.refl G10) _ fun l1 G11 nl1 s11 hl1 => ?_
      refine ⟨_, rfl, l1, fl, _, _, rfl, rfl, hl1, s11 _ _ hflF, ?_, fun l2 nl2 => ⟨l2, rfl, ⟨_, SqL.of upd_same⟩, ?_⟩⟩
      · rw [rgV_length, lmap]; exact Nat.le_trans (show _ ≤ 1000 by show _ + 2 ≤ 1000; omega) (by decide)
      have hxs : ∀ y ∈ rgV (-2) (((rts.map V.str).length : Nat) + 3) ++ [V.int (-1 - v), V.int (40 + v2)], ∃ pl : Int, y = .int pl ∧ pl.natAbs < 10 ^ 30 := fun y hy => by
        rcases List.mem_append.mp hy with hy | hy
        · unfold rgV at hy
          obtain ⟨j, hj, rfl⟩ := List.mem_map.mp hy
          have hj := List.mem_range.mp hj
          rw [lmap] at hj
          exact ⟨_, rfl, Nat.lt_of_le_of_lt (show (-2 + (j : Int)).natAbs ≤ 100 by omega) (by decide)⟩
        · simp only [List.mem_cons, List.not_mem_nil, or_false] at hy
          rcases hy with rfl | rfl
          · exact ⟨_, rfl, Nat.lt_of_le_of_lt (show (-1 - v).natAbs ≤ 10 ^ 20 + 1 by omega) (by decide)⟩
          · exact ⟨_, rfl, Nat.lt_of_le_of_lt (show (40 + v2).natAbs ≤ 10 ^ 20 + 40 by omega) (by decide)⟩
      have s12 : Same G10 (upd G11 l2 (.lst (rgV (-2) (((rts.map V.str).length : Nat) + 3) ++ [V.int (-1 - v), V.int (40 + v2)]))) := s11.trans (Evl.Ex.new nl2)
      have hl2 : (upd G11 l2 (.lst (rgV (-2) (((rts.map V.str).length : Nat) + 3) ++ [V.int (-1 - v), V.int (40 + v2)]))) l2 = some (.lst (rgV (-2) (((rts.map V.str).length : Nat) + 3) ++ [V.int (-1 - v), V.int (40 + v2)])) := upd_same
      generalize upd G11 l2 (.lst (rgV (-2) (((rts.map V.str).length : Nat) + 3) ++ [V.int (-1 - v), V.int (40 + v2)])) = G12 at s12 hl2 ⊢
      generalize rgV (-2) (((rts.map V.str).length : Nat) + 3) ++ [V.int (-1 - v), V.int (40 + v2)] = xs at hxs hl2
      refine for_it (walk_list (xs := xs)) (fun _ σ H' => (∃ v15 v17 : Option V, σ = [some (.ref a), some (.ref b), some (.ref p), v3, some (.ref tk), some (.ref rl), some (.ref mk), some (.ref rw_), some (.ref q), some (.int (kk : Nat)), some (.int (aa : Nat)), some (.ref x), some (.ref r), some (.str (mkS z)), some (.ref pw), v15, some (.ref fl), v17]) ∧ Same G12 H')
        ⟨⟨_, _, rfl⟩, Same.refl G12⟩ (fun i σ H' _ h => SqL.of (h.2 _ _ hl2)) ?_ ?_
      · rintro i5 y σ H3 H3' hi5 ⟨⟨u15, u17, rfl⟩, s3⟩ ⟨rfl, hy⟩
        obtain ⟨pl, rfl, lpl2⟩ := hxs y (List.mem_of_getElem? hy)
        have s3' := s12.trans s3
        have Rq := Rq.same s3'
        have Px := Px.mono s3'
        have hr9 := s3' _ _ hr9
        have hpw9 := s3' _ _ hpw9
        refine ⟨_, rfl, by show 2 ≤ sizeLine; decide, fun dq hdq => ?_⟩
        have s4 : Same H3' (upd H3' dq (.tup [.str "no", .int pl])) := Evl.Ex.new hdq
        have hdq4 : (upd H3' dq (.tup [.str "no", .int pl])) dq = some (.tup [.str "no", .int pl]) := upd_same
        generalize upd H3' dq (.tup [.str "no", .int pl]) = H4 at s4 hdq4 ⊢
        have Rq := Rq.same s4
        have Px := Px.mono s4
        have hr9 := s4 _ _ hr9
        have hpw9 := s4 _ _ hpw9
        have mw := mem_where (ts := rts) (rem := kd.rem toks) (pl := pl) (rem_pos Rq.len)
        refine Evl.q_cut (M := fun σ' H' => ∃ dv : V, σ' = [some (.ref a), some (.ref b), some (.ref p), v3, some (.ref tk), some (.ref rl), some (.ref mk), some (.ref rw_), some (.ref q), some (.int (kk : Nat)), some (.int (aa : Nat)), some (.ref x), some (.ref r), some (.str (mkS z)), some (.ref pw), some (.int pl), some (.ref fl), some dv] ∧ Same H4 H' ∧
          ((standsP rts (kd.rem toks) pl = true ∧ dv = .str (Txt.join " " (slipAt rts (kd.rem toks) (kd.ins toks) pl.toNat))) ∨ (standsP rts (kd.rem toks) pl = false ∧ dv = .ref dq))) ?_ ?_
        · refine Evl.s_when (b := standsP rts (kd.rem toks) pl) (Evl.et_test (Evl.ev_is (Evl.ev_op (Evl.ev_var rfl) (Evl.ev_var rfl) (Evl.rv_inL (SqL.of hpw9) rfl (flat_intsW _))) (by rw [if_neg Bool.false_ne_true, inV_ints, mw]))) (fun c G s => ?_) (fun c G s => ⟨.ref dq, rfl, s, .inr ⟨c, rfl⟩⟩)
          obtain ⟨n, rfl⟩ : ∃ n : Nat, pl = (n : Int) := by
            unfold standsP at c
            rw [Bool.and_eq_true] at c
            exact ⟨pl.toNat, (Int.toNat_of_nonneg (of_decide_eq_true c.1)).symm⟩
          refine ⟨rfl, _, rfl, _, rfl, _, rfl, q, r, n, kd, toks, rts, rfl, SqT.of (Rq.same s).at_, Rq.len, SqL.of (s _ _ hr9), by omega, fun l5 G5 nl5 s5 hl5 => ?_⟩
          have wo : ∀ y ∈ slipAt rts (kd.rem toks) (kd.ins toks) n, wordOk y := fun y hy => (slip_mem Rq.len y hy).elim (wR y) (Rq.words y)
          have lo : (slipAt rts (kd.rem toks) (kd.ins toks) n).length ≤ 100000 := by
            have := slip_len (ts := rts) (n := n) Rq.len
            omega
          exact ⟨" ", l5, _, rfl, rfl, .inl (SqL.of hl5), joinB wo lo, _, rfl, s.trans s5, .inl ⟨c, by rw [Int.toNat_natCast]⟩⟩
        rintro _ H5' ⟨dv, rfl, s5, cases_⟩
        have Px := Px.mono s5
        have fin : ∀ (G : Hp), Same H5' G → Same G12 G := fun G s => s3.trans ((s4.trans s5).trans s)
        refine Evl.s_when (b := false) (Evl.et_test (fun G s Q1 q1 => ?_)) (fun e => Bool.noConfusion e) (fun _ G s => ⟨⟨_, _, rfl⟩, fin G s⟩)
        refine ⟨_, rfl, _, rfl, _, rfl, x, mkS z, pl, kd, toks, rfl, lz, Px.mono s, Rq.len, by rw [etoks]; omega, by rw [etoks]; exact wR, Rq.words, lpl2, fun c G5 s6 => ?_, fun c q5 G5 s6 hq5 => ?_⟩
        · rw [etoks] at c ⊢
          rcases cases_ with ⟨_, rfl⟩ | ⟨c2, _⟩
          · exact ⟨_, rfl, rv_strNE G5 (Same.refl G5) _ fun G6 s7 => q1 G6 (s6.trans s7)⟩
          · rw [c] at c2; cases c2
        · rw [etoks] at c
          rcases cases_ with ⟨c2, _⟩ | ⟨_, rfl⟩
          · rw [c] at c2; cases c2
          · exact ⟨_, rfl, rv_noNE hq5 (s6 _ _ (s _ _ (s5 _ _ hdq4))) G5 (Same.refl G5) _ fun G6 s7 => q1 G6 (s6.trans s7)⟩
      · rintro σ H3 ⟨⟨u15, u17, rfl⟩, s3⟩
        exact ⟨⟨_, _, _, _, _, _, _, _, _, _, rfl⟩, OA.trans (Off.of (s12.trans s3)), BA.same (s12.trans s3)⟩
    · rintro σ H2 ⟨⟨v8, v9, v10, v11, v12, v13, v14, v15, v16, v17, rfl⟩, O2, B2⟩
      exact k H2
end
end Ss
namespace Ss
open PySem L2
section
variable {P : Program} {w : World} {K : PySem.W.Frag} {mg : Str → Option Value} {base : Heap}
abbrev sLrule : Stmt := topS 26
theorem scLrule : FnScope ["bag", "every", "word", "at", "other"] ["bag", "every"] (defScope sLrule) := ⟨rfl, rfl, rfl, by decide +kernel, rfl, by decide +kernel, by decide +kernel⟩
theorem ok_lrule (F : DefAt K mg "_law_rule" sLrule) (T : G0 mg) (Dtake : Dk P w K mg base CX0 1 "_law_take" ["dice", "many"] spTake) (Dof : Dk P w K mg base CX0 2 "_law_of" ["dice", "some"] (spOf K)) : Dk P w K mg base CX0 3 "_law_rule" ["bag", "every"] (spRule K) := by
  obtain ⟨f, fd, F, mf⟩ := F.ex
  refine ⟨f, fd, F.ok scLrule (fun vs H Q E h => ?_) (fun cdv A outer s H vs Q E hr h => ?_), mf, F.kp, F.binds fun _ _ _ _ _ _ us hl => match us, hl with | [_, _], _ => rfl⟩
  · obtain ⟨b, p, n, ws, rfl, _⟩ := h; rfl
  · obtain ⟨b, p, n, ws, rfl, hB, hn, hpb, hS, h2, h3, nd, k⟩ := h
    refine ⟨_, (pss_cons (ps_set (i := 2) scLrule.nd rfl (Or.inl rfl) (pe_cd Dof hr pass0 (pa_cons (pv 0) (pa_cons (pe_lst (pa_cons pe_str (pa_cons pe_str (pa_cons pe_str (pa_cons pe_str pa_nil))))) pa_nil)))) (pss_cons (ps_set (i := 3) scLrule.nd rfl (Or.inl rfl) (pe_cd Dtake hr pass0 (pa_cons (pv 0) (pa_cons (pe_callB call_len_seq (by rfl) T.len (by decide +kernel) (pa_cons (pv 1) pa_nil)) pa_nil)))) (pss_cons (ps_set (i := 4) scLrule.nd rfl (Or.inl rfl) (pe_ix ix_list (pv 1) (pe_op op_mod (pe_callTy call_int1 (by rfl) T.int (by decide +kernel) (pa_cons (pe_op op_add (pe_op op_add (pv 3) pe_int) (pe_cd Dtake hr pass0 (pa_cons (pv 0) (pa_cons (pe_op op_sub (pe_callB call_len_seq (by rfl) T.len (by decide +kernel) (pa_cons (pv 1) pa_nil)) pe_int) pa_nil)))) pa_nil)) (pe_callB call_len_seq (by rfl) T.len (by decide +kernel) (pa_cons (pv 1) pa_nil))) (fun _ _ => rfl))) (pss_one (ps_ret (pe_ifExp (pt_cmpR op_in_seq (pv 2) (pe_lst (pa_cons pe_str (pa_cons pe_str pa_nil))) (by rfl)) (pe_tup (pa_cons (pv 2) (pa_cons (pe_ix ix_list (pv 1) (pv 3) (fun _ _ => rfl)) pa_nil))) (pe_tup (pa_cons (pv 2) (pa_cons (pe_ix ix_list (pv 1) (pv 3) (fun _ _ => rfl)) (pa_cons (pv 4) pa_nil)))))))))), ?_⟩
    have h200 : (1000 : Int) < 2 ^ 200 := by decide
    have il : (ws.map V.str).length = ws.length := List.length_map _
    refine ⟨_, rfl, by show 4 ≤ sizeLine; decide, fun q0 hq0 => ?_⟩
    refine ⟨b, n, hB.new hq0, by omega, .inl ⟨q0, _, rfl, (hB.ne hq0).symm, SqL.of upd_same, by show 1 ≤ 4; decide, by show 4 ≤ 1000000; decide, fun x H1 hx O1 B1 => ?_⟩⟩
    obtain ⟨kd, rfl⟩ : ∃ k : RK, x = V.str k.word := by
      simp only [List.mem_cons, List.not_mem_nil, or_false] at hx
      rcases hx with rfl | rfl | rfl | rfl
      · exact ⟨.out, rfl⟩
      · exact ⟨.twice, rfl⟩
      · exact ⟨.swapped, rfl⟩
      · exact ⟨.taken, rfl⟩
    have O1 : Off b H H1 := (Off.new (Off.refl b H) hq0).trans O1
    have S1 := O1.seq hpb hS
    refine ⟨_, rfl, _, rfl, p, _, rfl, .inl S1, ?_⟩
    rw [il]
    refine ⟨b, _, _, rfl, B1, by omega, by omega, by omega, fun i H2 i0 i1 O2 B2 => ?_⟩
    have O2 := O1.trans O2
    have S2 := O2.seq hpb hS
    refine ⟨_, rfl, _, rfl, _, _, rfl, rfl, _, rfl, _, rfl, p, _, rfl, .inl S2, ?_⟩
    rw [il]
    refine ⟨_, _, rfl, rfl, b, _, _, rfl, B2, by omega, by omega, by omega, fun j H3 j0 j1 O3 B3 => ?_⟩
    have O3 := O2.trans O3
    have S3 := O3.seq hpb hS
    refine ⟨_, _, rfl, rfl, .inl ⟨_, rfl, _, rfl, p, _, rfl, .inl S3, ?_⟩⟩
    rw [il]
    have m0 := Int.emod_nonneg (i + 1 + j) (show ((ws.length : Nat) : Int) ≠ 0 by omega)
    have m1 := Int.emod_lt_of_pos (i + 1 + j) (show (0 : Int) < ((ws.length : Nat) : Int) by omega)
    have ne : (i + 1 + j) % (ws.length : Int) ≠ i := by
      intro e
      by_cases c : i + 1 + j < ws.length
      · rw [Int.emod_eq_of_lt (by omega) c] at e; omega
      · have e2 : (i + 1 + j) % (ws.length : Int) = (i + 1 + j - ws.length) % (ws.length : Int) := by rw [Int.sub_emod_right]
        rw [e2, Int.emod_eq_of_lt (by omega) (by omega)] at e
        omega
    generalize hx2 : (i + 1 + j) % ((ws.length : Nat) : Int) = x2 at m0 m1 ne
    obtain ⟨ni, rfl⟩ : ∃ a : Nat, i = (a : Int) := ⟨i.toNat, (Int.toNat_of_nonneg i0).symm⟩
    obtain ⟨nx, rfl⟩ : ∃ a : Nat, x2 = (a : Int) := ⟨x2.toNat, (Int.toNat_of_nonneg m0).symm⟩
    have hni : ni < ws.length := by omega
    have hnx : nx < ws.length := by omega
    have gi : (ws.map V.str)[ni]? = some (V.str ws[ni]) := by rw [List.getElem?_map, List.getElem?_eq_getElem hni]; rfl
    have gx : (ws.map V.str)[nx]? = some (V.str ws[nx]) := by rw [List.getElem?_map, List.getElem?_eq_getElem hnx]; rfl
    refine ⟨_, _, rfl, rfl, (by show (0 : Int) < ((ws.length : Nat) : Int); omega), p, _, (nx : Int), _, rfl, congrArg V.int hx2, S3, atI_nat gx, ?_⟩
    have dif : ws[ni] ≠ ws[nx] := by
      have pw := List.pairwise_iff_getElem.mp nd
      rcases Nat.lt_trichotomy ni nx with h | h | h
      · exact pw ni nx hni hnx h
      · exact absurd (by rw [h]) ne
      · exact (pw nx ni hnx hni h).symm
    refine ⟨_, rfl, by show 2 ≤ sizeLine; decide, fun q1 hq1 => ?_⟩
    have n1 : H q1 = none := by
      cases e : H q1 with
      | none => rfl
      | some o =>
        by_cases c : q1 = b
        · obtain ⟨d, m, cc, hb, _⟩ := B3
          rw [c, hb] at hq1; cases hq1
        · rw [O3 q1 o c e] at hq1; cases hq1
    have O4 : Off b H (upd H3 q1 (.lst [.str "out", .str "twice"])) := O3.new hq1
    have B4 := B3.new (o := .lst [.str "out", .str "twice"]) hq1
    have S4 := O4.seq hpb hS
    refine ⟨q1, _, rfl, .inl (SqL.of upd_same), rfl, rfl, _, rfl, ?_⟩
    generalize upd H3 q1 (.lst [.str "out", .str "twice"]) = H4 at O4 B4 S4
    have fr : ∀ t, H4 t = none → H t = none := fun t ht => by
      cases e : H t with
      | none => rfl
      | some o =>
        by_cases c : t = b
        · obtain ⟨d, m, cc, hb, _⟩ := B4
          rw [c, hb] at ht; cases ht
        · rw [O4 t o c e] at ht; cases ht
    have end1 : ∀ t, H4 t = none → kd.many = 1 → Q (.ref t) (upd H4 t (.tup [.str kd.word, .str ws[ni]])) := fun t ht hk => k t kd [ws[ni]] _ (O4.new ht) (B4.new ht) (fr t ht) upd_same hk.symm (fun z hz => by rw [List.mem_singleton.mp hz]; exact List.getElem_mem hni) (by simp)
    have end2 : ∀ t, H4 t = none → kd.many = 2 → Q (.ref t) (upd H4 t (.tup [.str kd.word, .str ws[ni], .str ws[nx]])) := fun t ht hk => k t kd [ws[ni], ws[nx]] _ (O4.new ht) (B4.new ht) (fr t ht) upd_same hk.symm (fun z hz => by
      simp only [List.mem_cons, List.not_mem_nil, or_false] at hz
      rcases hz with rfl | rfl
      · exact List.getElem_mem hni
      · exact List.getElem_mem hnx) (by simpa using dif)
    refine ite2 (fun c => ?_) (fun c => ?_)
    · refine ⟨_, rfl, _, rfl, _, rfl, p, _, _, _, rfl, rfl, S4, atI_nat gi, by show 2 ≤ sizeLine; decide, fun t ht => end1 t ht ?_⟩
      revert c
      cases kd <;> first | exact fun _ => rfl | (intro c; exact absurd c (by decide +kernel))
    · refine ⟨_, rfl, _, rfl, _, rfl, p, _, _, _, rfl, rfl, S4, atI_nat gi, _, rfl, by show 3 ≤ sizeLine; decide, fun t ht => end2 t ht ?_⟩
      revert c
      cases kd <;> first | exact fun _ => rfl | (intro c; exact absurd (by decide +kernel) c)
end
end Ss
namespace Ss
open PySem L2 PyProof.Rows
/-- what an error class is asked for, in one word -/
def topB (K : PySem.W.Frag) (C : Addr) (fs : List Str) : Bool :=
  PySem.W.findIn K (.ref C) "__setattr__" == some (some (.builtin "object.__setattr__")) && (PySem.W.findIn K (.ref C) "__getattribute__" == some (some (.builtin "BaseException.__getattribute__")) && (PySem.W.findIn K (.ref C) "__getattr__" == some none &&
  (PySem.W.subIn K (.ref C) (.type "BaseException") == some true && (PySem.W.typeIn K (.ref C) == some (.type "type") && (PySem.W.hasDictIn K C && (PySem.W.keepIn K (.ref C) && (PySem.W.findIn K (.ref C) "__class__" == some (some (.builtin "object.__class__")) &&
  (PySem.W.specialIn K (.builtin "object.__class__") "__get__" == some (some (.builtin "getset_descriptor.__get__")) && (PySem.W.takesIn K (.builtin "object.__class__") == some true && (PySem.W.mroIn K C (.type "object") == some true && fs.all fun f => PySem.W.findIn K (.ref C) f == some none))))))))))
theorem topB_ok {K : PySem.W.Frag} {C : Addr} {fs : List Str} (h : topB K C fs = true) : PySem.W.findIn K (.ref C) "__setattr__" = some (some (.builtin "object.__setattr__")) ∧ PySem.W.findIn K (.ref C) "__getattribute__" = some (some (.builtin "BaseException.__getattribute__")) ∧ PySem.W.findIn K (.ref C) "__getattr__" = some none ∧
  PySem.W.subIn K (.ref C) (.type "BaseException") = some true ∧ PySem.W.typeIn K (.ref C) = some (.type "type") ∧ PySem.W.hasDictIn K C = true ∧ PySem.W.keepIn K (.ref C) = true ∧ PySem.W.findIn K (.ref C) "__class__" = some (some (.builtin "object.__class__")) ∧
  PySem.W.specialIn K (.builtin "object.__class__") "__get__" = some (some (.builtin "getset_descriptor.__get__")) ∧ PySem.W.takesIn K (.builtin "object.__class__") = some true ∧ PySem.W.mroIn K C (.type "object") = some true ∧ ∀ f ∈ fs, PySem.W.findIn K (.ref C) f = some none := by
  simp only [topB, Bool.and_eq_true, beq_iff_eq, List.all_eq_true] at h
  obtain ⟨h1, h2, h3, h4, h5, h6, h7, h8, h9, h10, h11, h12⟩ := h
  exact ⟨h1, h2, h3, h4, h5, h6, h7, h8, h9, h10, h11, h12⟩
theorem etop_S {K : PySem.W.Frag} {h : Heap} {mg : Str → Option Value} {x qual : Str} {C S fI : Addr} {st : Stmt} {fs : List Str} {nm q N bs bm sn sub ab col dd k0 k1 k2 k3 k5} {oc : Value} {od an : Option Addr} {osl : Array (Option Value)} {kV doc pm cdv ct : Value} (X : K.In h) (G : h.Ns mainGlobals mg)
    (a : PySem.W.nsIn K mainGlobals x = some (some (.ref C))) (l : K.lookup C = some (excClassObj nm q C N bs bm true sn sub ab col dd k0 k1 k2 k3 k5 "ValueError.__new__")) (hb : bm = [.ref S, .type "ValueError", .type "Exception", .type "BaseException", .type "object"])
    (e : topB K C fs = true) (i : PySem.W.findIn K (.ref C) "__init__" = some (some (.ref fI))) (lf : K.lookup fI = some ⟨oc, od, .func (PySem.W.fnOf "__init__" qual (defArgs st) (defBody st) (defScope st) .none kV doc pm an cdv ct), osl⟩) (c : PySem.W.codeIn K cdv qual = true) (kf : PySem.W.keepIn K (.ref fI) = true) (tf : PySem.W.isFn K (.ref fI) = true) :
    EAtop K mg x qual C "ValueError.__init__" fs st := by
  subst hb
  have T := topB_ok e
  exact ⟨⟨⟨_, _, _, _, _, _, _, _, _, _, _, _, _, _, _, _, _, _, PySem.F.excBase_ValueError, l, fun Y => by rw [List.contains_cons]; rfl, (SsE.Order.cons SsE.order_VE S)⟩, T.1, T.2.1, T.2.2.1, T.2.2.2.1, T.2.2.2.2.1, T.2.2.2.2.2.1, T.2.2.2.2.2.2.1, T.2.2.2.2.2.2.2.1, T.2.2.2.2.2.2.2.2.1, T.2.2.2.2.2.2.2.2.2.1, T.2.2.2.2.2.2.2.2.2.2.1⟩, PySem.W.mg_of X G a, ⟨fI, _, i, of_decide_eq_true (by simpa [PySem.W.isFn] using tf), fun_mk lf c kf⟩, T.2.2.2.2.2.2.2.2.2.2.2⟩
theorem etop_L {K : PySem.W.Frag} {h : Heap} {mg : Str → Option Value} {x qual : Str} {C fI : Addr} {st : Stmt} {fs : List Str} {nm q N bs bm sn sub ab col dd k0 k1 k2 k3 k5} {oc : Value} {od an : Option Addr} {osl : Array (Option Value)} {kV doc pm cdv ct : Value} (X : K.In h) (G : h.Ns mainGlobals mg)
    (a : PySem.W.nsIn K mainGlobals x = some (some (.ref C))) (l : K.lookup C = some (excClassObj nm q C N bs bm true sn sub ab col dd k0 k1 k2 k3 k5 "LookupError.__new__")) (hb : bm = [.type "LookupError", .type "Exception", .type "BaseException", .type "object"])
    (e : topB K C fs = true) (i : PySem.W.findIn K (.ref C) "__init__" = some (some (.ref fI))) (lf : K.lookup fI = some ⟨oc, od, .func (PySem.W.fnOf "__init__" qual (defArgs st) (defBody st) (defScope st) .none kV doc pm an cdv ct), osl⟩) (c : PySem.W.codeIn K cdv qual = true) (kf : PySem.W.keepIn K (.ref fI) = true) (tf : PySem.W.isFn K (.ref fI) = true) :
    EAtop K mg x qual C "LookupError.__init__" fs st := by
  subst hb
  have T := topB_ok e
  exact ⟨⟨⟨_, _, _, _, _, _, _, _, _, _, _, _, _, _, _, _, _, _, PySem.F.excBase_LookupError, l, fun Y => rfl, SsE.order_LE⟩, T.1, T.2.1, T.2.2.1, T.2.2.2.1, T.2.2.2.2.1, T.2.2.2.2.2.1, T.2.2.2.2.2.2.1, T.2.2.2.2.2.2.2.1, T.2.2.2.2.2.2.2.2.1, T.2.2.2.2.2.2.2.2.2.1, T.2.2.2.2.2.2.2.2.2.2.1⟩, PySem.W.mg_of X G a, ⟨fI, _, i, of_decide_eq_true (by simpa [PySem.W.isFn] using tf), fun_mk lf c kf⟩, T.2.2.2.2.2.2.2.2.2.2.2⟩
theorem etop_R {K : PySem.W.Frag} {h : Heap} {mg : Str → Option Value} {x qual : Str} {C fI : Addr} {st : Stmt} {fs : List Str} {nm q N bs bm sn sub ab col dd k0 k1 k2 k3 k5} {oc : Value} {od an : Option Addr} {osl : Array (Option Value)} {kV doc pm cdv ct : Value} (X : K.In h) (G : h.Ns mainGlobals mg)
    (a : PySem.W.nsIn K mainGlobals x = some (some (.ref C))) (l : K.lookup C = some (excClassObj nm q C N bs bm true sn sub ab col dd k0 k1 k2 k3 k5 "RuntimeError.__new__")) (hb : bm = [.type "RuntimeError", .type "Exception", .type "BaseException", .type "object"])
    (e : topB K C fs = true) (i : PySem.W.findIn K (.ref C) "__init__" = some (some (.ref fI))) (lf : K.lookup fI = some ⟨oc, od, .func (PySem.W.fnOf "__init__" qual (defArgs st) (defBody st) (defScope st) .none kV doc pm an cdv ct), osl⟩) (c : PySem.W.codeIn K cdv qual = true) (kf : PySem.W.keepIn K (.ref fI) = true) (tf : PySem.W.isFn K (.ref fI) = true) :
    EAtop K mg x qual C "RuntimeError.__init__" fs st := by
  subst hb
  have T := topB_ok e
  exact ⟨⟨⟨_, _, _, _, _, _, _, _, _, _, _, _, _, _, _, _, _, _, PySem.F.excBase_RuntimeError, l, fun Y => rfl, SsE.order_RE⟩, T.1, T.2.1, T.2.2.1, T.2.2.2.1, T.2.2.2.2.1, T.2.2.2.2.2.1, T.2.2.2.2.2.2.1, T.2.2.2.2.2.2.2.1, T.2.2.2.2.2.2.2.2.1, T.2.2.2.2.2.2.2.2.2.1, T.2.2.2.2.2.2.2.2.2.2.1⟩, PySem.W.mg_of X G a, ⟨fI, _, i, of_decide_eq_true (by simpa [PySem.W.isFn] using tf), fun_mk lf c kf⟩, T.2.2.2.2.2.2.2.2.2.2.2⟩

end Ss
namespace Ss
open PySem L2 PyProof.Rows
/-- what a class of rules is asked for, in one word -/
def rcB (K : PySem.W.Frag) (C : Addr) (w : Str) : Bool :=
  PySem.W.plainGet K C Str.empty && (PySem.W.hasDictIn K C && (PySem.W.plainOver K C && (PySem.W.findIn K (.ref C) "__setattr__" == some (some (.builtin "object.__setattr__")) && (PySem.W.findIn K (.ref C) "tokens" == some none && (PySem.W.findIn K (.ref C) "removed" == some none &&
  (PySem.W.findIn K (.ref C) "inserted" == some none && (PySem.W.findIn K (.ref C) "__class__" == some (some (.builtin "object.__class__")) && (PySem.W.specialIn K (.builtin "object.__class__") "__get__" == some (some (.builtin "getset_descriptor.__get__")) && (PySem.W.takesIn K (.builtin "object.__class__") == some true &&
  (PySem.W.mroIn K C (.type "object") == some true && (PySem.W.makesIn K C && (PySem.W.keepIn K (.ref C) && (PySem.W.readsIn K C (.type "type") && (PySem.W.specialIn K (.ref C) "__getattribute__" == some (some (.builtin "type.__getattribute__")) &&
  ((match PySem.W.findIn K (.ref C) "word" with | some (some (.str z t)) => z == w && PySem.W.specialIn K (.str z t) "__get__" == some none | _ => false) && (match PySem.W.findCls K (.ref C) (.type "type") "word" with | some (.val (.str z _)) => z == w | _ => false))))))))))))))))
structure RTop (K : PySem.W.Frag) (C : Addr) (w : Str) : Prop where
  cl : RCl K C w
  makes : PySem.W.makesIn K C = true
  kp : PySem.W.keepIn K (.ref C) = true
  rd : PySem.W.readsIn K C (.type "type") = true
  ga : PySem.W.specialIn K (.ref C) "__getattribute__" = some (some (.builtin "type.__getattribute__"))
  con : ∃ u, PySem.W.findCls K (.ref C) (.type "type") "word" = some (.val u) ∧ RelV (.str w) u ∧ PySem.W.handedIn u = true
theorem rcB_ok {K : PySem.W.Frag} {C : Addr} {w : Str} (h : rcB K C w = true) : RTop K C w := by
  simp only [rcB, Bool.and_eq_true, beq_iff_eq] at h
  obtain ⟨h1, h2, h3, h4, h5, h6, h7, h8, h9, h10, h11, h12, h13, h14, h15, h16, h17⟩ := h
  have hw : ∃ u, Con K C "word" (.str w) u := by
    split at h16
    · rename_i z t e
      simp only [Bool.and_eq_true, beq_iff_eq] at h16
      obtain ⟨q1, q2⟩ := h16
      subst q1
      exact ⟨_, e, ⟨t, rfl⟩, q2, by decide +kernel⟩
    · cases h16
  have hc : ∃ u, PySem.W.findCls K (.ref C) (.type "type") "word" = some (.val u) ∧ RelV (.str w) u ∧ PySem.W.handedIn u = true := by
    split at h17
    · rename_i z t e
      simp only [beq_iff_eq] at h17
      subst h17
      exact ⟨_, e, ⟨t, rfl⟩, rfl⟩
    · cases h17
  exact ⟨⟨⟨h1, h2, h3, h4⟩, h5, h6, h7, hw, h8, h9, h10, h11⟩, h12, h13, h14, h15, hc⟩
/-- one class for each kind of rule -/
def cfOf (C0 C1 C2 C3 : Addr) : RK → Addr
  | .out => C0
  | .twice => C1
  | .swapped => C2
  | .taken => C3
def allRK : List RK := [.out, .twice, .swapped, .taken]
theorem mem_allRK (k : RK) : k ∈ allRK := by cases k <;> simp [allRK]
def rtB (K : PySem.W.Frag) (Cf : RK → Addr) (R fs fe : Addr) : Bool :=
  (allRK.all fun a => rcB K (Cf a) a.word && ((allRK.all fun b => PySem.W.kitOne K (.ref (Cf a)) (.ref (Cf b)) == some (decide (a = b)) && PySem.W.notFirst K (Cf a) (.ref (Cf b))) && (PySem.W.kitOne K (.ref (Cf a)) (.ref R) == some true && (PySem.W.notFirst K (Cf a) (.type "tuple") &&
    (PySem.W.findIn K (.ref (Cf a)) "__str__" == some (some (.ref fs)) && PySem.W.findIn K (.ref (Cf a)) "__eq__" == some (some (.ref fe))))))) &&
  (PySem.W.kitOne K (.type "tuple") (.ref R) == some false && (PySem.W.readsIn K R (.type "type") && (PySem.W.specialIn K (.ref R) "__getattribute__" == some (some (.builtin "type.__getattribute__")) && (PySem.W.isFn K (.ref fs) && PySem.W.isFn K (.ref fe)))))
structure RTops (K : PySem.W.Frag) (mg : Str → Option Value) (Cf : RK → Addr) (R fs fe : Addr) : Prop where
  tab : RTab K mg Cf R
  top : ∀ k, RTop K (Cf k) k.word
  rR : ClsRd K mg "Rule" R
  str : ∀ k, PySem.W.findIn K (.ref (Cf k)) "__str__" = some (some (.ref fs))
  eq : ∀ k, PySem.W.findIn K (.ref (Cf k)) "__eq__" = some (some (.ref fe))
  fns : PySem.W.isFn K (.ref fs) = true
  fne : PySem.W.isFn K (.ref fe) = true
theorem rtB_ok {K : PySem.W.Frag} {mg : Str → Option Value} {Cf : RK → Addr} {R fs fe : Addr} (h : rtB K Cf R fs fe = true) (g : ∀ k, mg (RK.cls k) = some (.ref (Cf k))) (gR : mg "Rule" = some (.ref R)) : RTops K mg Cf R fs fe := by
  simp only [rtB, Bool.and_eq_true, List.all_eq_true, beq_iff_eq] at h
  obtain ⟨h1, h2, h3, h4, h5, h6⟩ := h
  have t : ∀ k, RTop K (Cf k) k.word := fun k => rcB_ok (h1 k (mem_allRK k)).1
  exact ⟨⟨fun k => (t k).cl, g, gR, fun a b => ((h1 a (mem_allRK a)).2.1 b (mem_allRK b)).1, fun a => (h1 a (mem_allRK a)).2.2.1, h2, fun a b => ((h1 a (mem_allRK a)).2.1 b (mem_allRK b)).2, fun a => (h1 a (mem_allRK a)).2.2.2.1⟩, t, ⟨gR, h3, h4⟩, fun k => (h1 k (mem_allRK k)).2.2.2.2.1, fun k => (h1 k (mem_allRK k)).2.2.2.2.2, h5, h6⟩
end Ss
namespace Ss
open PySem L2 PyProof.Rows
/-- the built-in names that the text leaves as they are -/
def noB (K : PySem.W.Frag) : Bool := (["len", "abs", "int", "range", "tuple", "list", "str", "isinstance", "sorted", "set", "enumerate", "max", "min", "sum", "all", "ord", "any"] : List Str).all fun x => PySem.W.nsIn K mainGlobals x == some none
theorem noB_ok {K : PySem.W.Frag} {h : Heap} {mg : Str → Option Value} (X : K.In h) (G : h.Ns mainGlobals mg) (e : noB K = true) : G0 mg ∧ mg "all" = none ∧ mg "ord" = none ∧ mg "any" = none := by
  simp only [noB, List.all_cons, List.all_nil, Bool.and_eq_true, beq_iff_eq, and_true] at e
  obtain ⟨e1, e2, e3, e4, e5, e6, e7, e8, e9, e10, e11, e12, e13, e14, e15, e16, e17⟩ := e
  exact ⟨⟨PySem.W.mg_none_of X G e1, PySem.W.mg_none_of X G e2, PySem.W.mg_none_of X G e3, PySem.W.mg_none_of X G e4, PySem.W.mg_none_of X G e5, PySem.W.mg_none_of X G e6, PySem.W.mg_none_of X G e7, PySem.W.mg_none_of X G e8, PySem.W.mg_none_of X G e9, PySem.W.mg_none_of X G e10, PySem.W.mg_none_of X G e11, PySem.W.mg_none_of X G e12, PySem.W.mg_none_of X G e13, PySem.W.mg_none_of X G e14⟩, PySem.W.mg_none_of X G e15, PySem.W.mg_none_of X G e16, PySem.W.mg_none_of X G e17⟩
theorem all_mk {l : PySem.W.OpenLaw} {w : World} {K : PySem.W.Frag} {h : Heap} {mg : Str → Option Value} {fa : Addr}
    {fd0 : Addr} {od0 an0 : Option Addr} {sl0 : Array (Option Value)} {oc0 kV0 dc0 pm0 cd0 ct0 : Value}
    {fd1 : Addr} {od1 an1 : Option Addr} {sl1 : Array (Option Value)} {oc1 kV1 dc1 pm1 cd1 ct1 : Value}
    {fd2 : Addr} {od2 an2 : Option Addr} {sl2 : Array (Option Value)} {oc2 kV2 dc2 pm2 cd2 ct2 : Value}
    {fd3 : Addr} {od3 an3 : Option Addr} {sl3 : Array (Option Value)} {oc3 kV3 dc3 pm3 cd3 ct3 : Value}
    {fd4 : Addr} {od4 an4 : Option Addr} {sl4 : Array (Option Value)} {oc4 kV4 dc4 pm4 cd4 ct4 : Value}
    {fd5 : Addr} {od5 an5 : Option Addr} {sl5 : Array (Option Value)} {oc5 kV5 dc5 pm5 cd5 ct5 : Value}
    {fd6 : Addr} {od6 an6 : Option Addr} {sl6 : Array (Option Value)} {oc6 kV6 dc6 pm6 cd6 ct6 : Value}
    {fd7 : Addr} {od7 an7 : Option Addr} {sl7 : Array (Option Value)} {oc7 kV7 dc7 pm7 cd7 ct7 : Value}
    {fd8 : Addr} {od8 an8 : Option Addr} {sl8 : Array (Option Value)} {oc8 kV8 dc8 pm8 cd8 ct8 : Value}
    {fd9 : Addr} {od9 an9 : Option Addr} {sl9 : Array (Option Value)} {oc9 kV9 dc9 pm9 cd9 ct9 : Value}
    {fd10 : Addr} {od10 an10 : Option Addr} {sl10 : Array (Option Value)} {oc10 kV10 dc10 pm10 cd10 ct10 : Value}
    {fd11 : Addr} {od11 an11 : Option Addr} {sl11 : Array (Option Value)} {oc11 kV11 dc11 pm11 cd11 ct11 : Value}
    {fd12 : Addr} {od12 an12 : Option Addr} {sl12 : Array (Option Value)} {oc12 kV12 dc12 pm12 cd12 ct12 : Value}
    {fd13 : Addr} {od13 an13 : Option Addr} {sl13 : Array (Option Value)} {oc13 kV13 dc13 pm13 cd13 ct13 : Value}
    {fd14 : Addr} {od14 an14 : Option Addr} {sl14 : Array (Option Value)} {oc14 kV14 dc14 pm14 cd14 ct14 : Value}
    {fd15 : Addr} {od15 an15 : Option Addr} {sl15 : Array (Option Value)} {oc15 kV15 dc15 pm15 cd15 ct15 : Value}
    {fd16 : Addr} {od16 an16 : Option Addr} {sl16 : Array (Option Value)} {oc16 kV16 dc16 pm16 cd16 ct16 : Value}
    {fd17 : Addr} {od17 an17 : Option Addr} {sl17 : Array (Option Value)} {oc17 kV17 dc17 pm17 cd17 ct17 : Value}
    {fd18 : Addr} {od18 an18 : Option Addr} {sl18 : Array (Option Value)} {oc18 kV18 dc18 pm18 cd18 ct18 : Value}
    {Cb fe0 S : Addr} {nm0 q0 N0 bs0 bm0 sn0 sub0 ab0 col0 dd0 ka0 kb0 kc0 kd0 ke0} {oe0 : Value} {ode0 ane0 : Option Addr} {sle0 : Array (Option Value)} {kVe0 dce0 pme0 cde0 cte0 : Value}
    {Cn fe1 : Addr} {nm1 q1 N1 bs1 bm1 sn1 sub1 ab1 col1 dd1 ka1 kb1 kc1 kd1 ke1} {oe1 : Value} {ode1 ane1 : Option Addr} {sle1 : Array (Option Value)} {kVe1 dce1 pme1 cde1 cte1 : Value}
    {um up : Value}
    {R C0 C1 C2 C3 : Addr}
    {fs fe : Addr}
    {fg : Addr} {o_fg : Value} {od_fg an_fg : Option Addr} {sl_fg : Array (Option Value)} {kv_fg dc_fg pm_fg cd_fg ct_fg : Value}
    {ft : Addr} {o_ft : Value} {od_ft an_ft : Option Addr} {sl_ft : Array (Option Value)} {kv_ft dc_ft pm_ft cd_ft ct_ft : Value}
    {fp : Addr} {o_fp : Value} {od_fp an_fp : Option Addr} {sl_fp : Array (Option Value)} {kv_fp dc_fp pm_fp cd_fp ct_fp : Value}
    {fc : Addr} {o_fc : Value} {od_fc an_fc : Option Addr} {sl_fc : Array (Option Value)} {kv_fc dc_fc pm_fc cd_fc ct_fc : Value}
    {fi0 : Addr} {o_fi0 : Value} {od_fi0 an_fi0 : Option Addr} {sl_fi0 : Array (Option Value)} {kv_fi0 dc_fi0 pm_fi0 cd_fi0 ct_fi0 : Value}
    {fi1 : Addr} {o_fi1 : Value} {od_fi1 an_fi1 : Option Addr} {sl_fi1 : Array (Option Value)} {kv_fi1 dc_fi1 pm_fi1 cd_fi1 ct_fi1 : Value}
    {fi2 : Addr} {o_fi2 : Value} {od_fi2 an_fi2 : Option Addr} {sl_fi2 : Array (Option Value)} {kv_fi2 dc_fi2 pm_fi2 cd_fi2 ct_fi2 : Value}
    {fi3 : Addr} {o_fi3 : Value} {od_fi3 an_fi3 : Option Addr} {sl_fi3 : Array (Option Value)} {kv_fi3 dc_fi3 pm_fi3 cd_fi3 ct_fi3 : Value}
    (X : K.In h) (G : h.Ns mainGlobals mg) (hfa : mg "law" = some (.ref fa))
    (da0 : PySem.W.nsIn K mainGlobals "_law_bag" = some (some (.ref fd0))) (dl0 : K.lookup fd0 = some ⟨oc0, od0, .func (PySem.W.fnOf "_law_bag" "_law_bag" (defArgs sBag) (defBody sBag) (defScope sBag) .none kV0 dc0 pm0 an0 cd0 ct0), sl0⟩) (dc_0 : PySem.W.codeIn K cd0 "_law_bag" = true) (dk0 : PySem.W.keepIn K (.ref fd0) = true)
    (da1 : PySem.W.nsIn K mainGlobals "_law_take" = some (some (.ref fd1))) (dl1 : K.lookup fd1 = some ⟨oc1, od1, .func (PySem.W.fnOf "_law_take" "_law_take" (defArgs sTake) (defBody sTake) (defScope sTake) .none kV1 dc1 pm1 an1 cd1 ct1), sl1⟩) (dc_1 : PySem.W.codeIn K cd1 "_law_take" = true) (dk1 : PySem.W.keepIn K (.ref fd1) = true)
    (da2 : PySem.W.nsIn K mainGlobals "_law_of" = some (some (.ref fd2))) (dl2 : K.lookup fd2 = some ⟨oc2, od2, .func (PySem.W.fnOf "_law_of" "_law_of" (defArgs sOf) (defBody sOf) (defScope sOf) .none kV2 dc2 pm2 an2 cd2 ct2), sl2⟩) (dc_2 : PySem.W.codeIn K cd2 "_law_of" = true) (dk2 : PySem.W.keepIn K (.ref fd2) = true)
    (da3 : PySem.W.nsIn K mainGlobals "_law_signs" = some (some (.ref fd3))) (dl3 : K.lookup fd3 = some ⟨oc3, od3, .func (PySem.W.fnOf "_law_signs" "_law_signs" (defArgs sSigns) (defBody sSigns) (defScope sSigns) .none kV3 dc3 pm3 an3 cd3 ct3), sl3⟩) (dc_3 : PySem.W.codeIn K cd3 "_law_signs" = true) (dk3 : PySem.W.keepIn K (.ref fd3) = true)
    (da4 : PySem.W.nsIn K mainGlobals "_law_token" = some (some (.ref fd4))) (dl4 : K.lookup fd4 = some ⟨oc4, od4, .func (PySem.W.fnOf "_law_token" "_law_token" (defArgs sToken) (defBody sToken) (defScope sToken) .none kV4 dc4 pm4 an4 cd4 ct4), sl4⟩) (dc_4 : PySem.W.codeIn K cd4 "_law_token" = true) (dk4 : PySem.W.keepIn K (.ref fd4) = true)
    (da5 : PySem.W.nsIn K mainGlobals "_law_laid" = some (some (.ref fd5))) (dl5 : K.lookup fd5 = some ⟨oc5, od5, .func (PySem.W.fnOf "_law_laid" "_law_laid" (defArgs sLaid) (defBody sLaid) (defScope sLaid) .none kV5 dc5 pm5 an5 cd5 ct5), sl5⟩) (dc_5 : PySem.W.codeIn K cd5 "_law_laid" = true) (dk5 : PySem.W.keepIn K (.ref fd5) = true)
    (da6 : PySem.W.nsIn K mainGlobals "_law_rule" = some (some (.ref fd6))) (dl6 : K.lookup fd6 = some ⟨oc6, od6, .func (PySem.W.fnOf "_law_rule" "_law_rule" (defArgs sLrule) (defBody sLrule) (defScope sLrule) .none kV6 dc6 pm6 an6 cd6 ct6), sl6⟩) (dc_6 : PySem.W.codeIn K cd6 "_law_rule" = true) (dk6 : PySem.W.keepIn K (.ref fd6) = true)
    (da7 : PySem.W.nsIn K mainGlobals "_law_meeting" = some (some (.ref fd7))) (dl7 : K.lookup fd7 = some ⟨oc7, od7, .func (PySem.W.fnOf "_law_meeting" "_law_meeting" (defArgs sMeet) (defBody sMeet) (defScope sMeet) .none kV7 dc7 pm7 an7 cd7 ct7), sl7⟩) (dc_7 : PySem.W.codeIn K cd7 "_law_meeting" = true) (dk7 : PySem.W.keepIn K (.ref fd7) = true)
    (da8 : PySem.W.nsIn K mainGlobals "_law_before" = some (some (.ref fd8))) (dl8 : K.lookup fd8 = some ⟨oc8, od8, .func (PySem.W.fnOf "_law_before" "_law_before" (defArgs sBefore) (defBody sBefore) (defScope sBefore) .none kV8 dc8 pm8 an8 cd8 ct8), sl8⟩) (dc_8 : PySem.W.codeIn K cd8 "_law_before" = true) (dk8 : PySem.W.keepIn K (.ref fd8) = true)
    (da9 : PySem.W.nsIn K mainGlobals "_law_behind" = some (some (.ref fd9))) (dl9 : K.lookup fd9 = some ⟨oc9, od9, .func (PySem.W.fnOf "_law_behind" "_law_behind" (defArgs sBehind) (defBody sBehind) (defScope sBehind) .none kV9 dc9 pm9 an9 cd9 ct9), sl9⟩) (dc_9 : PySem.W.codeIn K cd9 "_law_behind" = true) (dk9 : PySem.W.keepIn K (.ref fd9) = true)
    (da10 : PySem.W.nsIn K mainGlobals "_law_where" = some (some (.ref fd10))) (dl10 : K.lookup fd10 = some ⟨oc10, od10, .func (PySem.W.fnOf "_law_where" "_law_where" (defArgs sWhere) (defBody sWhere) (defScope sWhere) .none kV10 dc10 pm10 an10 cd10 ct10), sl10⟩) (dc_10 : PySem.W.codeIn K cd10 "_law_where" = true) (dk10 : PySem.W.keepIn K (.ref fd10) = true)
    (da11 : PySem.W.nsIn K mainGlobals "_law_ruled" = some (some (.ref fd11))) (dl11 : K.lookup fd11 = some ⟨oc11, od11, .func (PySem.W.fnOf "_law_ruled" "_law_ruled" (defArgs sRuled) (defBody sRuled) (defScope sRuled) .none kV11 dc11 pm11 an11 cd11 ct11), sl11⟩) (dc_11 : PySem.W.codeIn K cd11 "_law_ruled" = true) (dk11 : PySem.W.keepIn K (.ref fd11) = true)
    (da12 : PySem.W.nsIn K mainGlobals "_law_slipped" = some (some (.ref fd12))) (dl12 : K.lookup fd12 = some ⟨oc12, od12, .func (PySem.W.fnOf "_law_slipped" "_law_slipped" (defArgs sSlipped) (defBody sSlipped) (defScope sSlipped) .none kV12 dc12 pm12 an12 cd12 ct12), sl12⟩) (dc_12 : PySem.W.codeIn K cd12 "_law_slipped" = true) (dk12 : PySem.W.keepIn K (.ref fd12) = true)
    (da13 : PySem.W.nsIn K mainGlobals "_law_done" = some (some (.ref fd13))) (dl13 : K.lookup fd13 = some ⟨oc13, od13, .func (PySem.W.fnOf "_law_done" "_law_done" (defArgs sDone) (defBody sDone) (defScope sDone) .none kV13 dc13 pm13 an13 cd13 ct13), sl13⟩) (dc_13 : PySem.W.codeIn K cd13 "_law_done" = true) (dk13 : PySem.W.keepIn K (.ref fd13) = true)
    (da14 : PySem.W.nsIn K mainGlobals "tokens_of" = some (some (.ref fd14))) (dl14 : K.lookup fd14 = some ⟨oc14, od14, .func (PySem.W.fnOf "tokens_of" "tokens_of" (defArgs sTokensof) (defBody sTokensof) (defScope sTokensof) .none kV14 dc14 pm14 an14 cd14 ct14), sl14⟩) (dc_14 : PySem.W.codeIn K cd14 "tokens_of" = true) (dk14 : PySem.W.keepIn K (.ref fd14) = true)
    (da15 : PySem.W.nsIn K mainGlobals "runs_of" = some (some (.ref fd15))) (dl15 : K.lookup fd15 = some ⟨oc15, od15, .func (PySem.W.fnOf "runs_of" "runs_of" (defArgs sRuns) (defBody sRuns) (defScope sRuns) .none kV15 dc15 pm15 an15 cd15 ct15), sl15⟩) (dc_15 : PySem.W.codeIn K cd15 "runs_of" = true) (dk15 : PySem.W.keepIn K (.ref fd15) = true)
    (da16 : PySem.W.nsIn K mainGlobals "kept" = some (some (.ref fd16))) (dl16 : K.lookup fd16 = some ⟨oc16, od16, .func (PySem.W.fnOf "kept" "kept" (defArgs sKept) (defBody sKept) (defScope sKept) .none kV16 dc16 pm16 an16 cd16 ct16), sl16⟩) (dc_16 : PySem.W.codeIn K cd16 "kept" = true) (dk16 : PySem.W.keepIn K (.ref fd16) = true)
    (da17 : PySem.W.nsIn K mainGlobals "is_token" = some (some (.ref fd17))) (dl17 : K.lookup fd17 = some ⟨oc17, od17, .func (PySem.W.fnOf "is_token" "is_token" (defArgs sIstok) (defBody sIstok) (defScope sIstok) .none kV17 dc17 pm17 an17 cd17 ct17), sl17⟩) (dc_17 : PySem.W.codeIn K cd17 "is_token" = true) (dk17 : PySem.W.keepIn K (.ref fd17) = true)
    (da18 : PySem.W.nsIn K mainGlobals "law" = some (some (.ref fd18))) (dl18 : K.lookup fd18 = some ⟨oc18, od18, .func (PySem.W.fnOf "law" "law" (defArgs sLaw43) (defBody sLaw43) (defScope sLaw43) .none kV18 dc18 pm18 an18 cd18 ct18), sl18⟩) (dc_18 : PySem.W.codeIn K cd18 "law" = true) (dk18 : PySem.W.keepIn K (.ref fd18) = true)
    (ea0 : PySem.W.nsIn K mainGlobals "BadRule" = some (some (.ref Cb))) (el0 : K.lookup Cb = some (excClassObj nm0 q0 Cb N0 bs0 bm0 true sn0 sub0 ab0 col0 dd0 ka0 kb0 kc0 kd0 ke0 "ValueError.__new__")) (eb0 : bm0 = [.ref S, .type "ValueError", .type "Exception", .type "BaseException", .type "object"]) (et0 : topB K Cb ["worth"] = true) (ei0 : PySem.W.findIn K (.ref Cb) "__init__" = some (some (.ref fe0))) (ef0 : K.lookup fe0 = some ⟨oe0, ode0, .func (PySem.W.fnOf "__init__" "BadRule.__init__" (defArgs sBadRule) (defBody sBadRule) (defScope sBadRule) .none kVe0 dce0 pme0 ane0 cde0 cte0), sle0⟩) (eco0 : PySem.W.codeIn K cde0 "BadRule.__init__" = true) (ek0 : PySem.W.keepIn K (.ref fe0) = true) (eu0 : PySem.W.isFn K (.ref fe0) = true)
    (ea1 : PySem.W.nsIn K mainGlobals "NoPlace" = some (some (.ref Cn))) (el1 : K.lookup Cn = some (excClassObj nm1 q1 Cn N1 bs1 bm1 true sn1 sub1 ab1 col1 dd1 ka1 kb1 kc1 kd1 ke1 "ValueError.__new__")) (eb1 : bm1 = [.ref S, .type "ValueError", .type "Exception", .type "BaseException", .type "object"]) (et1 : topB K Cn ["place"] = true) (ei1 : PySem.W.findIn K (.ref Cn) "__init__" = some (some (.ref fe1))) (ef1 : K.lookup fe1 = some ⟨oe1, ode1, .func (PySem.W.fnOf "__init__" "NoPlace.__init__" (defArgs sNoPlace) (defBody sNoPlace) (defScope sNoPlace) .none kVe1 dce1 pme1 ane1 cde1 cte1), sle1⟩) (eco1 : PySem.W.codeIn K cde1 "NoPlace.__init__" = true) (ek1 : PySem.W.keepIn K (.ref fe1) = true) (eu1 : PySem.W.isFn K (.ref fe1) = true)
    (sS : PySem.W.nsIn K mainGlobals "SlipError" = some (some (.ref S))) (sr : PySem.W.readsIn K S (.type "type") = true) (sg : PySem.W.specialIn K (.ref S) "__getattribute__" = some (some (.builtin "type.__getattribute__"))) (sv : PySem.W.findCls K (.ref S) (.type "type") "__init__" = some (.val (.builtin "ValueError.__init__")))
    (xx : PySem.W.exmOne K (.ref Cn) (.ref Cn) = some true)
    (cM : PySem.W.nsIn K mainGlobals "MOST_SIGNS" = some (some um)) (cMe : ∃ t, um = .int 4 t) (cP : PySem.W.nsIn K mainGlobals "PERCENT" = some (some up)) (cPe : ∃ t, up = .int 37 t)
    (gR : PySem.W.nsIn K mainGlobals "Rule" = some (some (.ref R)))
    (gc0 : PySem.W.nsIn K mainGlobals "Out" = some (some (.ref C0)))
    (gc1 : PySem.W.nsIn K mainGlobals "Twice" = some (some (.ref C1)))
    (gc2 : PySem.W.nsIn K mainGlobals "Swapped" = some (some (.ref C2)))
    (gc3 : PySem.W.nsIn K mainGlobals "Taken" = some (some (.ref C3)))
    (in0 : PySem.W.findIn K (.ref C0) "__init__" = some (some (.ref fi0)))
    (in1 : PySem.W.findIn K (.ref C1) "__init__" = some (some (.ref fi1)))
    (in2 : PySem.W.findIn K (.ref C2) "__init__" = some (some (.ref fi2)))
    (in3 : PySem.W.findIn K (.ref C3) "__init__" = some (some (.ref fi3)))
    (vR : PySem.W.findCls K (.ref R) (.type "type") "__init__" = some (.val (.ref fg)))
    (sd0 : PySem.W.findIn K (.ref C0) "stands" = some (some (.ref ft)))
    (pd0 : PySem.W.findIn K (.ref C0) "places" = some (some (.ref fp))) (cd0 : PySem.W.findIn K (.ref C0) "__call__" = some (some (.ref fc)))
    (sd1 : PySem.W.findIn K (.ref C1) "stands" = some (some (.ref ft)))
    (pd1 : PySem.W.findIn K (.ref C1) "places" = some (some (.ref fp))) (cd1 : PySem.W.findIn K (.ref C1) "__call__" = some (some (.ref fc)))
    (sd2 : PySem.W.findIn K (.ref C2) "stands" = some (some (.ref ft)))
    (pd2 : PySem.W.findIn K (.ref C2) "places" = some (some (.ref fp))) (cd2 : PySem.W.findIn K (.ref C2) "__call__" = some (some (.ref fc)))
    (sd3 : PySem.W.findIn K (.ref C3) "stands" = some (some (.ref ft)))
    (pd3 : PySem.W.findIn K (.ref C3) "places" = some (some (.ref fp))) (cd3 : PySem.W.findIn K (.ref C3) "__call__" = some (some (.ref fc)))
    (vs_ : PySem.W.findIn K (.ref C0) "__str__" = some (some (.ref fs))) (ve_ : PySem.W.findIn K (.ref C0) "__eq__" = some (some (.ref fe)))
    (l_fg : K.lookup fg = some ⟨o_fg, od_fg, .func (PySem.W.fnOf "__init__" "Rule.__init__" (defArgs sRinit) (defBody sRinit) (defScope sRinit) .none kv_fg dc_fg pm_fg an_fg cd_fg ct_fg), sl_fg⟩) (c_fg : PySem.W.codeIn K cd_fg "Rule.__init__" = true) (k_fg : PySem.W.keepIn K (.ref fg) = true) (u_fg : PySem.W.isFn K (.ref fg) = true)
    (l_ft : K.lookup ft = some ⟨o_ft, od_ft, .func (PySem.W.fnOf "stands" "Rule.stands" (defArgs sStands) (defBody sStands) (defScope sStands) .none kv_ft dc_ft pm_ft an_ft cd_ft ct_ft), sl_ft⟩) (c_ft : PySem.W.codeIn K cd_ft "Rule.stands" = true) (k_ft : PySem.W.keepIn K (.ref ft) = true) (u_ft : PySem.W.isFn K (.ref ft) = true)
    (l_fp : K.lookup fp = some ⟨o_fp, od_fp, .func (PySem.W.fnOf "places" "Rule.places" (defArgs sRplaces) (defBody sRplaces) (defScope sRplaces) .none kv_fp dc_fp pm_fp an_fp cd_fp ct_fp), sl_fp⟩) (c_fp : PySem.W.codeIn K cd_fp "Rule.places" = true) (k_fp : PySem.W.keepIn K (.ref fp) = true) (u_fp : PySem.W.isFn K (.ref fp) = true)
    (l_fc : K.lookup fc = some ⟨o_fc, od_fc, .func (PySem.W.fnOf "__call__" "Rule.__call__" (defArgs sRcall) (defBody sRcall) (defScope sRcall) .none kv_fc dc_fc pm_fc an_fc cd_fc ct_fc), sl_fc⟩) (c_fc : PySem.W.codeIn K cd_fc "Rule.__call__" = true) (k_fc : PySem.W.keepIn K (.ref fc) = true) (u_fc : PySem.W.isFn K (.ref fc) = true)
    (l_fi0 : K.lookup fi0 = some ⟨o_fi0, od_fi0, .func (PySem.W.fnOf "__init__" "Out.__init__" (defArgs sOinit) (defBody sOinit) (defScope sOinit) .none kv_fi0 dc_fi0 pm_fi0 an_fi0 cd_fi0 ct_fi0), sl_fi0⟩) (c_fi0 : PySem.W.codeIn K cd_fi0 "Out.__init__" = true) (k_fi0 : PySem.W.keepIn K (.ref fi0) = true) (u_fi0 : PySem.W.isFn K (.ref fi0) = true)
    (l_fi1 : K.lookup fi1 = some ⟨o_fi1, od_fi1, .func (PySem.W.fnOf "__init__" "Twice.__init__" (defArgs sWinit) (defBody sWinit) (defScope sWinit) .none kv_fi1 dc_fi1 pm_fi1 an_fi1 cd_fi1 ct_fi1), sl_fi1⟩) (c_fi1 : PySem.W.codeIn K cd_fi1 "Twice.__init__" = true) (k_fi1 : PySem.W.keepIn K (.ref fi1) = true) (u_fi1 : PySem.W.isFn K (.ref fi1) = true)
    (l_fi2 : K.lookup fi2 = some ⟨o_fi2, od_fi2, .func (PySem.W.fnOf "__init__" "Swapped.__init__" (defArgs sSinit) (defBody sSinit) (defScope sSinit) .none kv_fi2 dc_fi2 pm_fi2 an_fi2 cd_fi2 ct_fi2), sl_fi2⟩) (c_fi2 : PySem.W.codeIn K cd_fi2 "Swapped.__init__" = true) (k_fi2 : PySem.W.keepIn K (.ref fi2) = true) (u_fi2 : PySem.W.isFn K (.ref fi2) = true)
    (l_fi3 : K.lookup fi3 = some ⟨o_fi3, od_fi3, .func (PySem.W.fnOf "__init__" "Taken.__init__" (defArgs sKinit) (defBody sKinit) (defScope sKinit) .none kv_fi3 dc_fi3 pm_fi3 an_fi3 cd_fi3 ct_fi3), sl_fi3⟩) (c_fi3 : PySem.W.codeIn K cd_fi3 "Taken.__init__" = true) (k_fi3 : PySem.W.keepIn K (.ref fi3) = true) (u_fi3 : PySem.W.isFn K (.ref fi3) = true)
    (fnc : PySem.W.fnIn K fc = true)
    (rt : rtB K (cfOf C0 C1 C2 C3) R fs fe = true)
    (no : noB K = true) :
    ∃ fd : FuncData, (∀ (s : Shared) (v : Value), BindsTo s fd ⟨[v], []⟩ [("script", v)]) ∧ ∀ base : Heap, K.In base → base.Ns mainGlobals mg → FnOk l.prog w K mg base CX0 9 fa fd ["script"] (spLaw K) := by
  have e := hfa.symm.trans (PySem.W.mg_of X G da18)
  cases e
  obtain ⟨T, nall, nord, nany⟩ := noB_ok X G no
  have F0 : DefAt K mg "_law_bag" sBag := def_at X G da0 dl0 dc_0 dk0
  have F1 : DefAt K mg "_law_take" sTake := def_at X G da1 dl1 dc_1 dk1
  have F2 : DefAt K mg "_law_of" sOf := def_at X G da2 dl2 dc_2 dk2
  have F3 : DefAt K mg "_law_signs" sSigns := def_at X G da3 dl3 dc_3 dk3
  have F4 : DefAt K mg "_law_token" sToken := def_at X G da4 dl4 dc_4 dk4
  have F5 : DefAt K mg "_law_laid" sLaid := def_at X G da5 dl5 dc_5 dk5
  have F6 : DefAt K mg "_law_rule" sLrule := def_at X G da6 dl6 dc_6 dk6
  have F7 : DefAt K mg "_law_meeting" sMeet := def_at X G da7 dl7 dc_7 dk7
  have F8 : DefAt K mg "_law_before" sBefore := def_at X G da8 dl8 dc_8 dk8
  have F9 : DefAt K mg "_law_behind" sBehind := def_at X G da9 dl9 dc_9 dk9
  have F10 : DefAt K mg "_law_where" sWhere := def_at X G da10 dl10 dc_10 dk10
  have F11 : DefAt K mg "_law_ruled" sRuled := def_at X G da11 dl11 dc_11 dk11
  have F12 : DefAt K mg "_law_slipped" sSlipped := def_at X G da12 dl12 dc_12 dk12
  have F13 : DefAt K mg "_law_done" sDone := def_at X G da13 dl13 dc_13 dk13
  have F14 : DefAt K mg "tokens_of" sTokensof := def_at X G da14 dl14 dc_14 dk14
  have F15 : DefAt K mg "runs_of" sRuns := def_at X G da15 dl15 dc_15 dk15
  have F16 : DefAt K mg "kept" sKept := def_at X G da16 dl16 dc_16 dk16
  have F17 : DefAt K mg "is_token" sIstok := def_at X G da17 dl17 dc_17 dk17
  refine ⟨PySem.W.fnOf "law" "law" (defArgs sLaw43) (defBody sLaw43) (defScope sLaw43) .none kV18 dc18 pm18 an18 cd18 ct18, fun s v => .of_eq rfl, fun base _ _ => ?_⟩
  have FL : Fun K "law" "law" sLaw43 _ _ := fun_mk (st := sLaw43) dl18 dc_18 dk18
  have Dtake : Dk l.prog w K mg base CX0 1 "_law_take" ["dice", "many"] spTake := ok_take F1 T
  have Dof := ok_of F2 T Dtake
  have Dsigns : Dk l.prog w K mg base CX0 1 "_law_signs" [] spSigns := ok_signs F3
  have Dkept : Dk l.prog w K mg base CX0 2 "kept" ["value"] (spKept K 1) := ok_kept F16 T 1
  have E0 : EAtop K mg "BadRule" "BadRule.__init__" Cb "ValueError.__init__" ["worth"] sBadRule := etop_S X G ea0 el0 eb0 et0 ei0 ef0 eco0 ek0 eu0
  have BS : SlipB K mg S := ⟨PySem.W.mg_of X G sS, sr, sg, sv⟩
  have E1 : EAtop K mg "NoPlace" "NoPlace.__init__" Cn "ValueError.__init__" ["place"] sNoPlace := etop_S X G ea1 el1 eb1 et1 ei1 ef1 eco1 ek1 eu1
  have DN := ok_NoPlace (P := l.prog) (w := w) (base := base) E1 BS Dkept
  have DB := ok_BadRule (P := l.prog) (w := w) (base := base) E0 BS Dkept
  have Dtok : Dk l.prog w K mg base CX0 1 "is_token" ["text"] spIsTok := ok_istok F17 T nall nord (by
    obtain ⟨t, e⟩ := cMe; exact ⟨t, e ▸ PySem.W.mg_of X G cM⟩) (by obtain ⟨t, e⟩ := cPe; exact ⟨t, e ▸ PySem.W.mg_of X G cP⟩)
  have Z : RTops K mg (cfOf C0 C1 C2 C3) R fs fe := rtB_ok rt (fun k => by
    cases k
    · exact PySem.W.mg_of X G gc0
    · exact PySem.W.mg_of X G gc1
    · exact PySem.W.mg_of X G gc2
    · exact PySem.W.mg_of X G gc3) (PySem.W.mg_of X G gR)
  have Lg : Fun K "__init__" "Rule.__init__" sRinit fg _ := fun_mk (st := sRinit) l_fg c_fg k_fg
  have L0 : Fun K "__init__" "Out.__init__" sOinit fi0 _ := fun_mk (st := sOinit) l_fi0 c_fi0 k_fi0
  have L1 : Fun K "__init__" "Twice.__init__" sWinit fi1 _ := fun_mk (st := sWinit) l_fi1 c_fi1 k_fi1
  have LS2 : Fun K "__init__" "Swapped.__init__" sSinit fi2 _ := fun_mk (st := sSinit) l_fi2 c_fi2 k_fi2
  have L3 : Fun K "__init__" "Taken.__init__" sKinit fi3 _ := fun_mk (st := sKinit) l_fi3 c_fi3 k_fi3
  have Fr := ok_Rinit (P := l.prog) (w := w) (base := base) Lg T Dtok DB
  have N0 : NewD l.prog w K mg base (L2.CX l.prog w) C0 6 "Out" ["self", "token"] (spNew Cb C0 .out) := ⟨fi0, _, ⟨(Z.top .out).makes, in0, u_fi0, (Z.top .out).kp⟩, ok_Oinit L0 Z.rR vR k_fg (Z.top .out).cl Fr, PySem.W.mg_of X G gc0, L0.binds fun _ _ _ _ _ _ us hl => match us, hl with | [_, _], _ => rfl⟩
  have N1 : NewD l.prog w K mg base (L2.CX l.prog w) C1 6 "Twice" ["self", "token"] (spNew Cb C1 .twice) := ⟨fi1, _, ⟨(Z.top .twice).makes, in1, u_fi1, (Z.top .twice).kp⟩, ok_Winit L1 Z.rR vR k_fg (Z.top .twice).cl Fr, PySem.W.mg_of X G gc1, L1.binds fun _ _ _ _ _ _ us hl => match us, hl with | [_, _], _ => rfl⟩
  have N2 : NewD l.prog w K mg base (L2.CX l.prog w) C2 6 "Swapped" ["self", "first", "second"] (spNew Cb C2 .swapped) := ⟨fi2, _, ⟨(Z.top .swapped).makes, in2, u_fi2, (Z.top .swapped).kp⟩, ok_Sinit LS2 Z.rR vR k_fg (Z.top .swapped).cl Fr, PySem.W.mg_of X G gc2, LS2.binds fun _ _ _ _ _ _ us hl => match us, hl with | [_, _, _], _ => rfl⟩
  have N3 : NewD l.prog w K mg base (L2.CX l.prog w) C3 6 "Taken" ["self", "first", "second"] (spNew Cb C3 .taken) := ⟨fi3, _, ⟨(Z.top .taken).makes, in3, u_fi3, (Z.top .taken).kp⟩, ok_Kinit L3 Z.rR vR k_fg (Z.top .taken).cl Fr, PySem.W.mg_of X G gc3, L3.binds fun _ _ _ _ _ _ us hl => match us, hl with | [_, _, _], _ => rfl⟩
  have DR := ok_ruled (Cf := cfOf C0 C1 C2 C3) F11 N0 N1 N2 N3
  have Dst : ∀ kd, Mm l.prog w K mg base CX0 (cfOf C0 C1 C2 C3 kd) 1 "stands" ["self", "tokens", "place"] (spStands K (cfOf C0 C1 C2 C3)) := fun kd => by
    cases kd
    · exact ok_stands (meth_at sd0 u_ft l_ft c_ft k_ft) T Z.tab
    · exact ok_stands (meth_at sd1 u_ft l_ft c_ft k_ft) T Z.tab
    · exact ok_stands (meth_at sd2 u_ft l_ft c_ft k_ft) T Z.tab
    · exact ok_stands (meth_at sd3 u_ft l_ft c_ft k_ft) T Z.tab
  have Dtoks := ok_tokensof F14 (ok_runs (P := l.prog) (w := w) (base := base) F15)
  have Lp : Fun K "places" "Rule.places" sRplaces fp _ := fun_mk (st := sRplaces) l_fp c_fp k_fp
  have Lc : Fun K "__call__" "Rule.__call__" sRcall fc _ := fun_mk (st := sRcall) l_fc c_fc k_fc
  have FPl := ok_Rplaces (P := l.prog) (w := w) (base := base) Lp T Z.tab Dtoks Dst
  have FR := fnR_ofS (ok_Rcall (Cn := Cn) Lc T Z.tab Dtoks Dst DN) (Lc.binds (ps := ["self", "text", "place"]) fun _ _ _ _ _ _ us hl => match us, hl with | [_, _, _], _ => rfl)
  have cO : ∀ kd, StX.CallO K (cfOf C0 C1 C2 C3 kd) fc := fun kd => by
    cases kd
    · exact ⟨cd0, u_fc, fnc⟩
    · exact ⟨cd1, u_fc, fnc⟩
    · exact ⟨cd2, u_fc, fnc⟩
    · exact ⟨cd3, u_fc, fnc⟩
  have hPl : ∀ kd, Meth K (cfOf C0 C1 C2 C3 kd) "places" fp := fun kd => by
    cases kd
    · exact ⟨pd0, u_fp, k_fp⟩
    · exact ⟨pd1, u_fp, k_fp⟩
    · exact ⟨pd2, u_fp, k_fp⟩
    · exact ⟨pd3, u_fp, k_fp⟩
  have Ddone := ok_done F13 cO FR E1.mg E1.ec (E1.no "place" List.mem_cons_self) xx
  have Dbef := ok_before (P := l.prog) (w := w) (base := base) F8 T
  have Dbeh := ok_behind (P := l.prog) (w := w) (base := base) F9 T
  have Drule := ok_lrule F6 T Dtake Dof
  exact ok_law FL T Z.tab (ok_bag F0 T) Dtake Dof (ok_token F4 T Dof Dsigns) (ok_laid F5 T Dof) Drule (ok_meet F7 T Dtake Dof Drule) (ok_where F10 T Dbef) DR (ok_slipped F12 T Dbef Dbeh) Ddone hPl FPl (Lp.binds (ps := ["self", "text"]) fun _ _ _ _ _ _ us hl => match us, hl with | [_, _], _ => rfl)
theorem walk {l : PySem.W.OpenLaw} {q : Program} {loose : List Str} {XP : (Str → Option Value) → Heap → Prop} {YP : World → Heap → Prop} {d : DefRec} {K : Params → PySem.W.Frag} (hn : l.most = some 63) (hdf : d.params.defaults = [])
    (hY : ∀ (w : World) (h : Heap), YP w h → (K w.params).In h)
    (F : ∀ (w : World) (mg : Str → Option Value) (fa : Addr) (h : Heap), (K w.params).In h → h.Ns mainGlobals mg → mg d.name = some (.ref fa) →
      ∃ fd : FuncData, (∀ (s : Shared) (u : Value), BindsTo s fd ⟨[u], []⟩ [("script", u)]) ∧ ∀ base : Heap, (K w.params).In base → base.Ns mainGlobals mg → FnOk l.prog w (K w.params) mg base CX0 9 fa fd ["script"] (spLaw (K w.params))) :
    PySem.W.WalkO q loose XP YP l.row.toRowW d [] (fun f vs => PySem.call f vs) :=
  L2.walk_of (n := 63) (k := 9) (x := "script") (CX := fun _ => CX0) (sp := fun w => spLaw (K w.params)) hn (by decide) hdf ⟨rfl, by decide, by decide⟩ hY F (fun _ _ a ns hl _ hS => ⟨a, ns, rfl, hS, hl, fun _ => rfl⟩) fun _ _ _ _ _ z => z
end Ss
open PySem PySem.W PyProof.Rows in
set_option maxRecDepth 100000 in
set_option maxHeartbeats 0 in
theorem PySem.Challenge.cw_silentslips_k43_places_and_slips_holds : PySem.Challenge.rw_silentslips_k43_places_and_slips.Holds := by
  w_on; o_law; k_head; (case hw => w_witness2)
  k_fill
  refine Ss.walk (l := PySem.Challenge.rw_silentslips_k43_places_and_slips) rfl rfl (fun w h Y => PySem.W.kIn_of Y) ?F
  case F =>
    intro w mg fa h KX G hmg
    refine' Ss.all_mk KX G hmg ?da0 ?dl0 ?dc_0 ?dk0 ?da1 ?dl1 ?dc_1 ?dk1 ?da2 ?dl2 ?dc_2 ?dk2 ?da3 ?dl3 ?dc_3 ?dk3 ?da4 ?dl4 ?dc_4 ?dk4 ?da5 ?dl5 ?dc_5 ?dk5 ?da6 ?dl6 ?dc_6 ?dk6 ?da7 ?dl7 ?dc_7 ?dk7 ?da8 ?dl8 ?dc_8 ?dk8 ?da9 ?dl9 ?dc_9 ?dk9 ?da10 ?dl10 ?dc_10 ?dk10 ?da11 ?dl11 ?dc_11 ?dk11 ?da12 ?dl12 ?dc_12 ?dk12 ?da13 ?dl13 ?dc_13 ?dk13 ?da14 ?dl14 ?dc_14 ?dk14 ?da15 ?dl15 ?dc_15 ?dk15 ?da16 ?dl16 ?dc_16 ?dk16 ?da17 ?dl17 ?dc_17 ?dk17 ?da18 ?dl18 ?dc_18 ?dk18 ?ea0 ?el0 ?eb0 ?et0 ?ei0 ?ef0 ?eco0 ?ek0 ?eu0 ?ea1 ?el1 ?eb1 ?et1 ?ei1 ?ef1 ?eco1 ?ek1 ?eu1 ?sS ?sr ?sg ?sv ?xx ?cM ?cMe ?cP ?cPe ?gR ?gc0 ?gc1 ?gc2 ?gc3 ?in0 ?in1 ?in2 ?in3 ?vR ?sd0 ?pd0 ?cd0 ?sd1 ?pd1 ?cd1 ?sd2 ?pd2 ?cd2 ?sd3 ?pd3 ?cd3 ?vs_ ?ve_ ?l_fg ?c_fg ?k_fg ?u_fg ?l_ft ?c_ft ?k_ft ?u_ft ?l_fp ?c_fp ?k_fp ?u_fp ?l_fc ?c_fc ?k_fc ?u_fc ?l_fi0 ?c_fi0 ?k_fi0 ?u_fi0 ?l_fi1 ?c_fi1 ?k_fi1 ?u_fi1 ?l_fi2 ?c_fi2 ?k_fi2 ?u_fi2 ?l_fi3 ?c_fi3 ?k_fi3 ?u_fi3 ?fnc ?rt ?no
    (case da0 => k_is)
    (case dl0 => k_is)
    (case dc_0 => k_is)
    (case dk0 => k_is)
    (case da1 => k_is)
    (case dl1 => k_is)
    (case dc_1 => k_is)
    (case dk1 => k_is)
    (case da2 => k_is)
    (case dl2 => k_is)
    (case dc_2 => k_is)
    (case dk2 => k_is)
    (case da3 => k_is)
    (case dl3 => k_is)
    (case dc_3 => k_is)
    (case dk3 => k_is)
    (case da4 => k_is)
    (case dl4 => k_is)
    (case dc_4 => k_is)
    (case dk4 => k_is)
    (case da5 => k_is)
    (case dl5 => k_is)
    (case dc_5 => k_is)
    (case dk5 => k_is)
    (case da6 => k_is)
    (case dl6 => k_is)
    (case dc_6 => k_is)
    (case dk6 => k_is)
    (case da7 => k_is)
    (case dl7 => k_is)
    (case dc_7 => k_is)
    (case dk7 => k_is)
    (case da8 => k_is)
    (case dl8 => k_is)
    (case dc_8 => k_is)
    (case dk8 => k_is)
    (case da9 => k_is)
    (case dl9 => k_is)
    (case dc_9 => k_is)
    (case dk9 => k_is)
    (case da10 => k_is)
    (case dl10 => k_is)
    (case dc_10 => k_is)
    (case dk10 => k_is)
    (case da11 => k_is)
    (case dl11 => k_is)
    (case dc_11 => k_is)
    (case dk11 => k_is)
    (case da12 => k_is)
    (case dl12 => k_is)
    (case dc_12 => k_is)
    (case dk12 => k_is)
    (case da13 => k_is)
    (case dl13 => k_is)
    (case dc_13 => k_is)
    (case dk13 => k_is)
    (case da14 => k_is)
    (case dl14 => k_is)
    (case dc_14 => k_is)
    (case dk14 => k_is)
    (case da15 => k_is)
    (case dl15 => k_is)
    (case dc_15 => k_is)
    (case dk15 => k_is)
    (case da16 => k_is)
    (case dl16 => k_is)
    (case dc_16 => k_is)
    (case dk16 => k_is)
    (case da17 => k_is)
    (case dl17 => k_is)
    (case dc_17 => k_is)
    (case dk17 => k_is)
    (case da18 => k_is)
    (case dl18 => k_is)
    (case dc_18 => k_is)
    (case dk18 => k_is)
    (case ea0 => k_is)
    (case el0 => k_is)
    (case eb0 => rfl)
    (case et0 => first | rfl | kernel_rfl)
    (case ei0 => k_is)
    (case ef0 => k_is)
    (case eco0 => k_is)
    (case ek0 => k_is)
    (case eu0 => k_is)
    (case ea1 => k_is)
    (case el1 => k_is)
    (case eb1 => rfl)
    (case et1 => first | rfl | kernel_rfl)
    (case ei1 => k_is)
    (case ef1 => k_is)
    (case eco1 => k_is)
    (case ek1 => k_is)
    (case eu1 => k_is)
    (case sS => k_is)
    (case sr => k_is)
    (case sg => k_is)
    (case sv => k_is)
    (case xx => first | rfl | k_is | kernel_rfl)
    (case cM => k_is)
    (case cMe => exact ⟨_, rfl⟩)
    (case cP => k_is)
    (case cPe => exact ⟨_, rfl⟩)
    (case gR => k_is)
    (case gc0 => k_is)
    (case gc1 => k_is)
    (case gc2 => k_is)
    (case gc3 => k_is)
    (case in0 => k_is)
    (case in1 => k_is)
    (case in2 => k_is)
    (case in3 => k_is)
    (case vR => k_is)
    (case sd0 => k_is)
    (case pd0 => k_is)
    (case cd0 => k_is)
    (case sd1 => k_is)
    (case pd1 => k_is)
    (case cd1 => k_is)
    (case sd2 => k_is)
    (case pd2 => k_is)
    (case cd2 => k_is)
    (case sd3 => k_is)
    (case pd3 => k_is)
    (case cd3 => k_is)
    (case vs_ => k_is)
    (case ve_ => k_is)
    (case l_fg => k_is)
    (case c_fg => k_is)
    (case k_fg => k_is)
    (case u_fg => k_is)
    (case l_ft => k_is)
    (case c_ft => k_is)
    (case k_ft => k_is)
    (case u_ft => k_is)
    (case l_fp => k_is)
    (case c_fp => k_is)
    (case k_fp => k_is)
    (case u_fp => k_is)
    (case l_fc => k_is)
    (case c_fc => k_is)
    (case k_fc => k_is)
    (case u_fc => k_is)
    (case l_fi0 => k_is)
    (case c_fi0 => k_is)
    (case k_fi0 => k_is)
    (case u_fi0 => k_is)
    (case l_fi1 => k_is)
    (case c_fi1 => k_is)
    (case k_fi1 => k_is)
    (case u_fi1 => k_is)
    (case l_fi2 => k_is)
    (case c_fi2 => k_is)
    (case k_fi2 => k_is)
    (case u_fi2 => k_is)
    (case l_fi3 => k_is)
    (case c_fi3 => k_is)
    (case k_fi3 => k_is)
    (case u_fi3 => k_is)
    (case fnc => first | rfl | kernel_rfl)
    (case rt => first | rfl | kernel_rfl)
    (case no => first | rfl | kernel_rfl)
