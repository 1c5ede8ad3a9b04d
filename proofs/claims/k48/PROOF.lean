import PyProof.Rows.All
import Wide.All
import OpenK.AllK
import Wide.FinOn
import HandS.ForMost
import HandS.EndBits
import HandS.Wide
import HandS.WideBits
import HandS.Style
import HandS.IsInst
import HandS.TupAny
import HandS.OwnEq
import HandS.Evl
import HandS.Exc
import HandS.WordsExc
import HandS.Walk
import HandS.Replace
import HandS.ReplaceLit
import HandS.ReplaceDef
import HandS.ReplaceList
import OpenK.KMeth
import OpenK.KOps
import KE.KOpsOwn
import HandS.Star
import KE.KCallOwn
import HandS.ExcInit
import HandS.ExcIs
import HandS.ExcField
import HandS.MakeKw
import HandS.FStr
import KE.KExcInit
import HandS.ClsMeth
import HandS.FStrTup
import PyProof.FString5
import PyProof.StrHeap
import HandS.Codes
import HandS.Deep
import HandS.DeepEq
import HandS.DictComp
import PyProof.LongRange
import HandS.Conv
import PySem.Challenge.RW_silentslips_k48_several_slips_together
set_option Elab.async false
set_option linter.all false
set_option maxRecDepth 100000
set_option maxHeartbeats 4000000
namespace Ss
open PySem L2
/-! ### defs by name -/
/-- the def st of the module stands under the name x -/
structure DefAt (K : PySem.W.Frag) (mg : Str → Option Value) (x : Str) (st : Stmt) : Prop where
  ex : ∃ (f : Addr) (fd : FuncData), Fun K x x st f fd ∧ mg x = some (.ref f)
/-- the module's def x keeps the promise sp, at most level k -/
structure Dk (P : Program) (w : World) (K : PySem.W.Frag) (mg : Str → Option Value) (base : Heap) (CX : CXT) (k : Nat) (x : Str) (ps : List Str) (sp : Sp) : Prop where
  ex : ∃ (f : Addr) (fd : FuncData), FnOk P w K mg base CX k f fd ps sp ∧ mg x = some (.ref f) ∧ PySem.W.keepIn K (.ref f) = true ∧ Binds K fd ps []
/-- the method st of the class at C -/
structure MethAt (K : PySem.W.Frag) (C : Addr) (m qual : Str) (st : Stmt) : Prop where
  ex : ∃ (f : Addr) (fd : FuncData), Fun K m qual st f fd ∧ Meth K C m f
structure Mm (P : Program) (w : World) (K : PySem.W.Frag) (mg : Str → Option Value) (base : Heap) (CX : CXT) (C : Addr) (k : Nat) (m : Str) (ps : List Str) (sp : Sp) : Prop where
  ex : ∃ (f : Addr) (fd : FuncData), FnOk P w K mg base CX k f fd ps sp ∧ Meth K C m f ∧ Binds K fd ps []
theorem def_at {K : PySem.W.Frag} {h : Heap} {mg : Str → Option Value} {x : Str} {st : Stmt} {f : Addr} {oc : Value} {od an : Option Addr} {osl : Array (Option Value)} {kV doc pm cdv ct : Value} (X : K.In h) (G : h.Ns mainGlobals mg)
    (a : PySem.W.nsIn K mainGlobals x = some (some (.ref f))) (l : K.lookup f = some ⟨oc, od, .func (PySem.W.fnOf x x (defArgs st) (defBody st) (defScope st) .none kV doc pm an cdv ct), osl⟩)
    (c : PySem.W.codeIn K cdv x = true) (k : PySem.W.keepIn K (.ref f) = true) : DefAt K mg x st := ⟨f, _, fun_mk l c k, PySem.W.mg_of X G a⟩
theorem meth_at {K : PySem.W.Frag} {C : Addr} {m qual : Str} {st : Stmt} {f : Addr} {oc : Value} {od an : Option Addr} {osl : Array (Option Value)} {kV doc pm cdv ct : Value}
    (a : PySem.W.findIn K (.ref C) m = some (some (.ref f))) (i : PySem.W.isFn K (.ref f) = true) (l : K.lookup f = some ⟨oc, od, .func (PySem.W.fnOf m qual (defArgs st) (defBody st) (defScope st) .none kV doc pm an cdv ct), osl⟩)
    (c : PySem.W.codeIn K cdv qual = true) (k : PySem.W.keepIn K (.ref f) = true) : MethAt K C m qual st := ⟨f, _, fun_mk l c k, a, i, k⟩
section
variable {X : Cx} {CX : CXT} {k j : Nat} {C : Addr} {ps : List Str} {sp : Sp} {E : XK} {x m : Str} {p pos apos : Pos} {e o : Expr} {es : List Expr} {ta : TE} {t : TA}
/-- x(e, ..) of a def that keeps sp -/
theorem pe_cd (D : Dk X.prog X.w X.K X.mg X.base CX k x ps sp) (hr : Room j X.A) (hx : Passes CX X E) (ha : PA X (e :: es) t) (hk : k ≤ j := by decide) (hg : Gl X x := by rfl) (hdb : (x == ("__debug__" : Str)) = false := by decide)
    (he : starEach (e :: es) X.env = (false, eval e X.env) :: starEach es X.env := by rfl) (hpl : (backTo pos (starEach es X.env)).any (·.1) = false := by rfl) : PE X (.Call (.Name x p) (e :: es) [] pos) (tCall sp [] E t) := by
  obtain ⟨f, fd, F, mf, kp, b⟩ := D.ex
  exact pe_call F (hr.mono hk) hg mf kp b .nil hx ha hdb he hpl
theorem pe_cd0 (D : Dk X.prog X.w X.K X.mg X.base CX k x ps sp) (hr : Room j X.A) (hx : Passes CX X E) (hk : k ≤ j := by decide) (hg : Gl X x := by rfl) (hdb : (x == ("__debug__" : Str)) = false := by decide) :
    PE X (.Call (.Name x p) [] [] pos) (tCall sp [] E tNil) := by
  obtain ⟨f, fd, F, mf, kp, b⟩ := D.ex
  exact pe_call0 F (hr.mono hk) hg mf kp b .nil hx hdb
/-- o.m(e, ..) -/
theorem pe_md {pl : Sem Bool} (he : PE X o ta) (c : Cls X.K C) (D : Mm X.prog X.w X.K X.mg X.base CX C k m ps sp) (hr : Room j X.A) (hx : Passes CX X E) (ha : PA X (e :: es) t) (hk : k ≤ j := by decide)
    (hst : starEach (e :: es) X.env = (false, eval e X.env) :: starEach es X.env := by rfl) (hpl : (backTo pos (starEach es X.env)).any (·.1) = false := by rfl)
    (ht : eval (.Call (.Attribute o m apos) (e :: es) [] pos) X.env = (do
      let ov ← eval o X.env
      standAt apos.atName
      let (f, first) ← holding [ov] (getMethod ov m pl)
      callWith pos f first (backTo pos (starEach (e :: es) X.env)) (backToKw pos (keywordEach [] X.env))) := by rfl) :
    PE X (.Call (.Attribute o m apos) (e :: es) [] pos) (tMeth C m sp [] E ta t) := by
  obtain ⟨f, fd, F, mf, b⟩ := D.ex
  exact pe_meth he c mf F (hr.mono hk) b .nil hx ha hst hpl ht
theorem pe_md0 {pl : Sem Bool} (he : PE X o ta) (c : Cls X.K C) (D : Mm X.prog X.w X.K X.mg X.base CX C k m ps sp) (hr : Room j X.A) (hx : Passes CX X E) (hk : k ≤ j := by decide)
    (ht : eval (.Call (.Attribute o m apos) [] [] pos) X.env = (do
      let ov ← eval o X.env
      standAt apos.atName
      let (f, first) ← holding [ov] (getMethod ov m pl)
      callWith pos f first (backTo pos (starEach [] X.env)) (backToKw pos (keywordEach [] X.env))) := by rfl) :
    PE X (.Call (.Attribute o m apos) [] [] pos) (tMeth C m sp [] E ta tNil) := by
  obtain ⟨f, fd, F, mf, b⟩ := D.ex
  exact pe_meth0 he c mf F (hr.mono hk) b .nil hx ht
end
/-- all that stood at other places than b stands -/
def Off (b : Addr) (H H' : Hp) : Prop := ∀ a o, a ≠ b → H a = some o → H' a = some o
theorem Off.refl (b : Addr) (H : Hp) : Off b H H := fun _ _ _ h => h
theorem Off.trans {b : Addr} {H H1 H2 : Hp} (x : Off b H H1) (y : Off b H1 H2) : Off b H H2 := fun a o n h => y a o n (x a o n h)
theorem Off.upd {b : Addr} {H H1 : Hp} {o : HO} (x : Off b H H1) : Off b H (L2.upd H1 b o) := fun a u n h => by
  rw [upd_ne n]; exact x a u n h
theorem Off.new {b p : Addr} {H H1 : Hp} {o : HO} (x : Off b H H1) (hp : H1 p = none) : Off b H (L2.upd H1 p o) := fun a u n h => by
  rw [upd_ne (ne_of_none (x a u n h) hp)]; exact x a u n h
theorem Off.of {b : Addr} {H H' : Hp} (x : Same H H') : Off b H H' := fun a o _ h => x a o h
theorem Same.new {H H1 : Hp} {p : Addr} {o : HO} (x : Same H H1) (hp : H1 p = none) : Same H (L2.upd H1 p o) := fun a u h => by
  rw [upd_ne (ne_of_none (x a u h) hp)]; exact x a u h
theorem Off.seq {K : PySem.W.Frag} {H H' : Hp} {a b : Addr} {xs : List V} (e : Off b H H') (n : a ≠ b) (h : SqL K H a xs) : SqL K H' a xs := by
  rcases h with (h | ⟨o, h⟩) | h
  · exact .inl (.inl (e _ _ n h))
  · exact .inl (.inr ⟨o, e _ _ n h⟩)
  · exact .inr h
theorem Off.tup {K : PySem.W.Frag} {H H' : Hp} {a b : Addr} {xs : List V} (e : Off b H H') (n : a ≠ b) (h : SqT K H a xs) : SqT K H' a xs := by
  rcases h with (h | ⟨o, h⟩) | h
  · exact .inl (.inl (e _ _ n h))
  · exact .inl (.inr ⟨o, e _ _ n h⟩)
  · exact .inr h
abbrev MB : Int := 11529215047000000000
/-- dice at b, asked at most n times -/
def Bag (H : Hp) (b : Addr) (n : Nat) : Prop := ∃ d m c : Int, H b = some (.lst [.int d, .int m, .int c]) ∧ 0 ≤ d ∧ 0 ≤ m ∧ m < MB ∧ 0 ≤ c ∧ c ≤ n
theorem Bag.mono {H : Hp} {b : Addr} {n k : Nat} (h : Bag H b n) (hk : n ≤ k) : Bag H b k := by
  obtain ⟨d, m, c, h1, h2, h3, h4, h5, h6⟩ := h
  exact ⟨d, m, c, h1, h2, h3, h4, h5, by omega⟩
theorem Bag.same {H H' : Hp} {b : Addr} {n : Nat} (h : Bag H b n) (s : Same H H') : Bag H' b n := by
  obtain ⟨d, m, c, h1, r⟩ := h
  exact ⟨d, m, c, s _ _ h1, r⟩
theorem Bag.new {H : Hp} {b p : Addr} {n : Nat} {o : HO} (h : Bag H b n) (hp : H p = none) : Bag (upd H p o) b n := by
  obtain ⟨d, m, c, h1, r⟩ := h
  exact ⟨d, m, c, by rw [upd_ne (ne_of_none h1 hp)]; exact h1, r⟩
theorem Bag.ne {H : Hp} {b p : Addr} {n : Nat} (h : Bag H b n) (hp : H p = none) : b ≠ p := by
  obtain ⟨d, m, c, h1, r⟩ := h
  exact ne_of_none h1 hp
/-- the names of the built-ins are the built-ins' -/
structure G0 (mg : Str → Option Value) : Prop where
  len : mg "len" = none
  abs : mg "abs" = none
  int : mg "int" = none
  range : mg "range" = none
  tuple : mg "tuple" = none
  list : mg "list" = none
  str : mg "str" = none
  isinstance : mg "isinstance" = none
  sorted : mg "sorted" = none
  set : mg "set" = none
  enumerate : mg "enumerate" = none
  max : mg "max" = none
  min : mg "min" = none
  sum : mg "sum" = none

/-! ### texts by their codes -/
def mkS (l : List Nat) : Str := ⟨l.toArray⟩
theorem mkS_inj {a b : List Nat} (h : mkS a = mkS b) : a = b := by
  have e : a.toArray = b.toArray := congrArg Str.cps h
  simpa using e
theorem mkS_app (a b : List Nat) : mkS a ++ mkS b = mkS (a ++ b) := by
  show (⟨a.toArray ++ b.toArray⟩ : Str) = ⟨(a ++ b).toArray⟩
  rw [List.append_toArray]
theorem mkS_len (a : List Nat) : (mkS a).length = a.length := by
  show a.toArray.size = a.length
  simp
theorem mkS_cps (a : List Nat) : (mkS a).cps.toList = a := by
  show a.toArray.toList = a
  simp
theorem mkS_one (c : Nat) : (⟨#[c]⟩ : Str) = mkS [c] := rfl
theorem mkS_nil : ("" : Str) = mkS [] := by decide +kernel
theorem mkS_of (z : Str) : z = mkS z.cps.toList := by
  show z = ⟨z.cps.toList.toArray⟩
  cases z; simp
theorem cut_to (a : List Nat) (k : Nat) : cutS (mkS a) none (some (k : Int)) = mkS (a.take k) := by
  unfold cutS
  rw [HT.sIx_none, HT.sIx_nat, mkS_cps, mkS_len]
  show mkS ((a.drop 0).take (min k a.length - 0)) = mkS (a.take k)
  rw [List.drop_zero, Nat.sub_zero]
  have e : a.take (min k a.length) = a.take k := List.take_eq_take_iff.mpr (by omega)
  rw [e]
theorem inV_str {x : Str} {xs : List Str} : inV (.str x) (xs.map V.str) = decide (x ∈ xs) := by
  induction xs with
  | nil => simp [inV]
  | cons y xs ih =>
    have e : inV (.str x) ((y :: xs).map V.str) = (eqV (.str y) (.str x) || inV (.str x) (xs.map V.str)) := rfl
    rw [e, ih]
    have e2 : eqV (.str y) (.str x) = (y == x) := rfl
    rw [e2]
    by_cases h : x = y
    · subst h; simp
    · have h2 : (y == x) = false := by
        cases q : (y == x) with
        | false => rfl
        | true => exact absurd (eq_of_beq q).symm h
      rw [h2]; simp [h]
theorem flat_strs (xs : List Str) : (xs.map V.str).all flatV = true := by
  rw [List.all_map]
  exact List.all_eq_true.mpr fun _ _ => rfl
theorem atI_int {α : Type} {xs : List α} {i : Int} (h0 : 0 ≤ i) (h : i.toNat < xs.length) : atI xs i = some xs[i.toNat] := by
  have q := atI_nat (List.getElem?_eq_getElem h)
  have e : ((i.toNat : Nat) : Int) = i := Int.toNat_of_nonneg h0
  exact (congrArg (atI xs) e).symm.trans q
/-- the characters of tokens, the letters -/
def SGN : List Nat := ((List.range 94).map (· + 33)).filter (· != 37)
def LET : List Nat := (List.range 26).map (· + 97)
theorem sgn_len : SGN.length = 93 := by decide +kernel
theorem let_len : LET.length = 26 := by decide +kernel
theorem sgn_nd : SGN.Nodup := by decide +kernel
theorem let_nd : LET.Nodup := by decide +kernel
/-- a list without repetition, all of whose items stand in another one, is not longer -/
theorem nodup_le {α : Type} [DecidableEq α] : ∀ {l m : List α}, l.Nodup → (∀ x ∈ l, x ∈ m) → l.length ≤ m.length
  | [], m, _, _ => Nat.zero_le _
  | a :: l, m, hn, hs => by
    have ha : a ∈ m := hs a List.mem_cons_self
    have h1 := nodup_le (l := l) (m := m.erase a) (List.nodup_cons.mp hn).2 fun x hx => by
      have hne : x ≠ a := fun e => (List.nodup_cons.mp hn).1 (e ▸ hx)
      exact (List.mem_erase_of_ne hne).mpr (hs x (List.mem_cons_of_mem _ hx))
    have h2 := List.length_erase_of_mem ha
    have h3 : 0 < m.length := List.length_pos_of_mem ha
    rw [List.length_cons]
    omega
theorem nodup_map_inj {α β : Type} {f : α → β} : ∀ {l : List α}, l.Nodup → (∀ a b, f a = f b → a = b) → (l.map f).Nodup
  | [], _, _ => List.nodup_nil
  | a :: l, hn, hf => by
    rw [List.map_cons]
    refine List.nodup_cons.mpr ⟨fun h => ?_, nodup_map_inj (List.nodup_cons.mp hn).2 hf⟩
    obtain ⟨b, hb, e⟩ := List.mem_map.mp h
    exact (List.nodup_cons.mp hn).1 (hf _ _ e ▸ hb)
/-- one more sign behind the base, where made is taken: what comes of it -/
def more1 (xs : List Str) (bs : List Nat) (m : List Nat) (c : Nat) : List Nat := if mkS m ∈ xs then bs ++ [c] else m
theorem more_yes {xs : List Str} {bs m : List Nat} {c : Nat} (h : mkS m ∈ xs) : more1 xs bs m c = bs ++ [c] := if_pos h
theorem more_no {xs : List Str} {bs m : List Nat} {c : Nat} (h : mkS m ∉ xs) : more1 xs bs m c = m := if_neg h
theorem more_keep {xs : List Str} {bs : List Nat} : ∀ (cs : List Nat) {m : List Nat}, mkS m ∉ xs → cs.foldl (more1 xs bs) m = m
  | [], _, _ => rfl
  | c :: cs, m, h => by
    rw [List.foldl_cons]
    have e : more1 xs bs m c = m := if_neg h
    rw [e]
    exact more_keep cs h
theorem more_all {xs : List Str} {bs : List Nat} : ∀ (cs : List Nat) {m : List Nat}, mkS (cs.foldl (more1 xs bs) m) ∈ xs → mkS m ∈ xs ∧ ∀ c ∈ cs, mkS (bs ++ [c]) ∈ xs
  | [], m, h => ⟨h, fun _ hc => by cases hc⟩
  | c :: cs, m, h => by
    rw [List.foldl_cons] at h
    obtain ⟨h1, h2⟩ := more_all cs h
    have hm : mkS m ∈ xs := by
      by_cases q : mkS m ∈ xs
      · exact q
      · have e : more1 xs bs m c = m := if_neg q
        rw [e] at h1
        exact h1
    have e : more1 xs bs m c = bs ++ [c] := if_pos hm
    rw [e] at h1
    refine ⟨hm, fun d hd => ?_⟩
    rcases List.mem_cons.mp hd with rfl | hd
    · exact h1
    · exact h2 d hd
theorem more_new {xs : List Str} {bs cs m : List Nat} (hn : cs.Nodup) (hl : xs.length < cs.length) : mkS (cs.foldl (more1 xs bs) m) ∉ xs := fun h => by
  have h2 := (more_all cs h).2
  have h3 : (cs.map fun c => mkS (bs ++ [c])).Nodup := by
    exact nodup_map_inj hn fun a b e => by
      have q := mkS_inj e
      simpa using q
  have h4 := nodup_le h3 fun x hx => by
    obtain ⟨c, hc, rfl⟩ := List.mem_map.mp hx
    exact h2 c hc
  rw [List.length_map] at h4
  omega
theorem more_shape {xs : List Str} {bs cs : List Nat} {S : List Nat → Prop} (hb : ∀ c, c ∈ cs → S (bs ++ [c])) : ∀ {m : List Nat}, S m → S (cs.foldl (more1 xs bs) m) := by
  induction cs with
  | nil => intro m h; exact h
  | cons c cs ih =>
    intro m h
    rw [List.foldl_cons]
    refine ih (fun d hd => hb d (List.mem_cons_of_mem _ hd)) ?_
    unfold more1
    split
    · exact hb c List.mem_cons_self
    · exact h
end Ss
namespace Ss
open PySem L2 PySem.Spec PyProof.Rows
/-! ### the block of a comprehension, whatever it fills -/
/-- ahead of a turn -/
def BlkJ (Y : Cx) (τ : L2.St) (tn : Nat → Heap → Prop) (fp : List Addr) (W : Nat → Nat → Hp → Prop) (n : Nat) (u : Shared) : Prop := ∃ (i : Nat) (G : Hp), Inv Y [] τ G u ∧ tn i u.heap ∧ (∀ b ∈ fp, G b = none) ∧ W i n G
/-- one turn: tests, then the act -/
abbrev TAct := L2.St → Hp → (Hp → Prop) → Prop
def Steps (J : It) (W : Nat → Nat → Hp → Prop) (g : TG) (tt : TT) (ta : TAct) (τ : L2.St) (vs : List Nat) (Qd : Hp → Prop) : Prop := ∀ i m G, W i m G →
  (J.stop i G ∧ Qd G) ∨ (J.go i G ∧ ∃ Nx : Hp → Prop, (∀ G', Nx G' → ∃ m', m' < m ∧ W (i + 1) m' G') ∧ ∀ x G', J.yld i G x G' → g x τ G' fun σ2 G2 => wipe σ2 vs = τ ∧ tt σ2 G2 fun b G3 => if b = true then ta σ2 G3 Nx else Nx G3)
theorem blk_turn {Y : Cx} {tg : Expr} {it : Addr} {fp : List Addr} {tn : Nat → Heap → Prop} {J : It} {τ : L2.St} {vs : List Nat} {W : Nat → Nat → Hp → Prop} {Qd : Hp → Prop} {g : TG} {tt : TT} {ta : TAct} {ifs : List Expr} {Rend : Shared → Prop} {Ac : (Shared → Prop) → Shared → Prop} {E1 E2 E3 E4 : Value → Shared → Prop}
    (hc : Y.calm = true) (T : Turn Y.prog Y.w Y.K tg J fp it tn) (pg : PG Y tg g) (pt : PTs Y ifs tt) (hx : Y.xe = fun _ _ => False)
    (hfp : ∀ (σ' : L2.St) (G : Hp) (u : Shared), Inv Y [] σ' G u → (∀ b ∈ fp, G b = none) → ∀ b ∈ fp, FpOk Y [] G b) (step : Steps J W g tt ta τ vs Qd)
    (hact : ∀ (pins : List (Addr × Obj)) (σ2 : L2.St) (G : Hp) (u : Shared) (Nx : Hp → Prop) (Fin : Shared → Prop), Inv Y pins σ2 G u → ta σ2 G Nx → (∀ u' G', Inv Y pins σ2 G' u' → Nx G' → Fin u') → Ac Fin u)
    (hend : ∀ u G, Inv Y [] τ G u → Qd G → Rend u) (n : Nat) (u : Shared) (hJ : BlkJ Y τ tn fp W n u) :
    wpAny (model Y.prog Y.w) Y.A (pyNext (.ref it)) (fun r s1 => match r with
      | none => Rend s1
      | some v => wpAny (model Y.prog Y.w) Y.A (letOwnedTupleGo tg (.ref it) v) (fun _ s2 => wpAny (model Y.prog Y.w) Y.A (assign tg Y.env v) (fun _ s3 =>
          wpAny (model Y.prog Y.w) Y.A (forIn ifs true fun c r => if r = true then do let ok ← isTrue c Y.env (eval c Y.env); pure (ForInStep.yield ok) else pure (ForInStep.yield r)) (fun ok s4 =>
            if ok = true then Ac (fun s5 => ∃ m, m < n ∧ BlkJ Y τ tn fp W m s5) s4 else ∃ m, m < n ∧ BlkJ Y τ tn fp W m s4) E1 s3) E2 s2) E3 s1) E4 u := by
  obtain ⟨i, G, I, st, hn, w⟩ := hJ
  have noE : ∀ {α : Type} {t : Sem α} {Q1 Q2 : α → Shared → Prop} {E : Value → Shared → Prop} {z : Shared}, wpAny (model Y.prog Y.w) Y.A t Q1 Y.xe z → (∀ a s, Q1 a s → Q2 a s) → wpAny (model Y.prog Y.w) Y.A t Q2 E z := fun h k => by
    rw [hx] at h
    exact thnF h k
  rcases step i n G w with ⟨hs, qd⟩ | ⟨hg, Nx, hNx, go⟩
  · refine thnF (T.done Y rfl rfl rfl hc i [] u τ G (fun _ _ => False) I (hfp _ _ _ I hn) st hs) fun r s1 z => ?_
    obtain ⟨rfl, I1⟩ := z
    exact hend s1 G I1 qd
  · refine thnF (T.item Y rfl rfl rfl hc i [] u τ G (fun _ _ => False) I (hfp _ _ _ I hn) st hg) fun r s1 z => ?_
    obtain ⟨y, rfl, z⟩ := z
    refine thnF z fun _ s2 z2 => ?_
    obtain ⟨x, G2, I2, rx, hy, st2, hn2⟩ := z2
    have I2p := I2.pinned (hfp _ _ _ I2 hn2) (T.obj _ _ st2)
    refine noE (pg.run _ s2 _ G2 x y _ I2p rx (go x G2 hy)) fun _ s3 z3 => ?_
    obtain ⟨σ3, G3, I3, hw, q3⟩ := z3
    refine noE (pt.run _ s3 σ3 G3 _ I3 q3) fun b s4 z4 => ?_
    obtain ⟨G4, I4, q4⟩ := z4
    have close : ∀ u' G', Inv Y ([] ++ pinsAt fp s2.heap) σ3 G' u' → Nx G' → ∃ m, m < n ∧ BlkJ Y τ tn fp W m u' := fun u' G' I' nx => by
      obtain ⟨m', hm, w'⟩ := hNx G' nx
      have at_ : ∀ b ∈ fp, ∀ o, s2.heap.get? b = some o → u'.heap.get? b = some o ∧ G' b = none := fun b hb o e => by
        have z := I'.pin (b, o) (List.mem_append_right _ (List.mem_append_right _ (mem_pinsAt hb e)))
        exact ⟨z.1, z.2.1⟩
      have len : τ.length = σ3.length := by rw [← hw, wipe_length]
      refine ⟨m', hm, i + 1, G', (I'.unpinned (pins := [])).weak len (fun j v e => ?_), T.keep _ _ _ st2 (fun b hb o e => (at_ b hb o e).1), (fun b hb => ?_), w'⟩
      · rw [← hw] at e
        exact (wipe_some e).1
      · obtain ⟨o, e, _⟩ := T.obj _ _ st2 b hb
        exact (at_ b hb o e).2
    cases b with
    | true => exact hact _ σ3 G4 s4 Nx _ I4 (by simpa using q4) close
    | false => exact close s4 G4 I4 (by simpa using q4)
/-- what a comprehension's turn asks of the loop -/
def TurnOf (M : Model) (A : Around) (tg : Expr) (ifs : List Expr) (env : Env) (it : Addr) (Ac : (Shared → Prop) → Shared → Prop) (R : Result → Shared → Prop) (J : Nat → Shared → Prop) : Prop := ∀ (E1 E2 E3 E4 : Value → Shared → Prop) (n : Nat) (u : Shared), J n u →
  wpAny M A (pyNext (.ref it)) (fun r s1 => match r with
      | none => R (.ok .next) s1
      | some v => wpAny M A (letOwnedTupleGo tg (.ref it) v) (fun _ s2 => wpAny M A (assign tg env v) (fun _ s3 =>
          wpAny M A (forIn ifs true fun c r => if r = true then do let ok ← isTrue c env (eval c env); pure (ForInStep.yield ok) else pure (ForInStep.yield r)) (fun ok s4 =>
            if ok = true then Ac (fun s5 => ∃ m, m < n ∧ J m s5) s4 else ∃ m, m < n ∧ J m s4) E1 s3) E2 s2) E3 s1) E4 u
/-- the word of a comprehension that fills the new thing O D -/
def tFill (wi : TI) (g : TG) (tt : TT) (ta : Addr → TAct) (O : Addr → HO) (vs : List Nat) : TE := fun σ H Q => wi σ H fun J H1 => ∀ D, H1 D = none → ∃ W : Nat → Nat → Hp → Prop, (∃ m, W 0 m (upd H1 D (O D))) ∧ Steps J W g tt (ta D) (wipe σ vs) vs (Q (.ref D))
theorem comp_runE {X : Cx} {pins : List (Addr × Obj)} {s : Shared} {σ : L2.St} {H : Hp} {Q : VK} {node tg iter : Expr} {ifs : List Expr} {scope : Scope} {own : List (Str × Nat)} {pos' : Pos} {wi : TI} {g : TG} {tt : TT} {ta : Addr → TAct} {O : Addr → HO} {newX : Sem Value} {o0 : Obj} {use : Option (Value → Sem Unit)} {Qf : Value → Shared → Prop}
    {Ac : Addr → Env → (Shared → Prop) → Shared → Prop}
    (hc : X.calm = true) (hN : X.N.Nodup) (I : Inv X pins σ H s) (hi : ∀ R : It → Hp → Prop, wi σ H R → wpAny (model X.prog X.w) X.A (eval iter X.env) (fun v s1 => wpAny (model X.prog X.w) X.A (pyIter v) (PIE X pins σ tg R) X.xe s1) X.xe s) (ok : BlkOk X.N X.env.scope scope own) (hcl : clausesOf node = [⟨tg, iter, ifs, 0⟩]) (hs : ∀ x, foldedSetIterable iter X.env x = pure x)
    (hnew : ∀ (z : Shared) (Q1 : Value → Shared → Prop) (E : Value → Shared → Prop), Q1 (.ref z.heap.objs.size) { z with heap := z.heap.push o0 } → wpAny (model X.prog X.w) X.A newX Q1 E z)
    (hobj : ∀ (H' : Hp) (h : Heap), sysModules < h.objs.size → ObjOk X.prog X.w H' (h.push o0) h.objs.size (O h.objs.size))
    (hg : ∀ (s : Shared) (H : Hp) (C : Addr) (cl : List (Str × Addr)) (fp : List Addr), PG (X.blk s H scope (compEnvC scope cl C X.env) fp) tg g) (ht : ∀ (s : Shared) (H : Hp) (C : Addr) (cl : List (Str × Addr)) (fp : List Addr), PTs (X.blk s H scope (compEnvC scope cl C X.env) fp) ifs tt)
    (hact : ∀ (s : Shared) (H : Hp) (C : Addr) (cl : List (Str × Addr)) (fp : List Addr) (D : Addr) (pins : List (Addr × Obj)) (σ2 : L2.St) (G : Hp) (u : Shared) (Nx : Hp → Prop) (Fin : Shared → Prop), Inv (X.blk s H scope (compEnvC scope cl C X.env) fp) pins σ2 G u → ta D σ2 G Nx →
      (∀ u' G', Inv (X.blk s H scope (compEnvC scope cl C X.env) fp) pins σ2 G' u' → Nx G' → Fin u') → Ac D (compEnvC scope cl C X.env) Fin u)
    (hstart : ∀ (it D : Addr) (env : Env) (R : Result → Shared → Prop) (z : Shared), codeAny (model X.prog X.w) X.A (.compLoop node 0 (.ref it) (.ref D) env) R z →
      (∀ (Q1 : Value → Shared → Prop) (E : Value → Shared → Prop), Q1 (.ref it) z → wpAny (model X.prog X.w) X.A (pyIter (.ref it)) Q1 E z) → codeAny (model X.prog X.w) X.A (.compStart node 0 (.ref it) (.ref D) env) R z)
    (hloop : ∀ (it D : Addr) (env : Env) (R : Result → Shared → Prop) (J : Nat → Shared → Prop), TurnOf (model X.prog X.w) X.A tg ifs env it (Ac D env) R J → ∀ n z, J n z → codeAny (model X.prog X.w) X.A (.compLoop node 0 (.ref it) (.ref D) env) R z)
    (h : tFill wi g tt ta O (own.map (·.2)) σ H Q)
    (hRR : ∀ D C s' m H', Inv X pins σ H' s' → Q (.ref D) H' → s'.heap.Ns C m → FpOk X pins H' C → compPost (model X.prog X.w) X.A X.xe use Qf (.ref D) C (.ok .next) s') :
    wpAny (model X.prog X.w) X.A (comprehension node scope X.env pos' newX false (eval iter X.env) use) Qf X.xe s := by
  have cells : ∀ y ∈ scope.names, y.2 = .free → ∃ c, X.env.cells.lookup y.1 = some c := fun y hy e => (ok.free y hy e).elim (fun k => I.ok.has _ (.inl k)) fun k => I.ok.has _ (.inr k)
  refine wpAny_comprehension_free (use := use) hcl hs (closure_ok cells) ok.kind (fun y hy e => by rw [ok.uniq y hy, e]) (thn (hi _ h) fun v s1 h1 => thn h1 fun itv s2 h2 => ?_)
  obtain ⟨it, fp, tn, J, H2, rfl, I2, T, st, f2, q⟩ := h2
  refine hnew s2 _ _ (newEnv_comp ?_)
  have n0 : H2 s2.heap.objs.size = none := I2.hok.fresh (Nat.le_refl _)
  obtain ⟨W, ⟨m0, w0⟩, steps⟩ := q _ n0
  generalize hs3 : ({ s2 with heap := s2.heap.push o0 } : Shared) = s3
  have e3 : s3.heap = s2.heap.push o0 := by rw [← hs3]
  have I3 : Inv X pins σ (upd H2 s2.heap.objs.size (O s2.heap.objs.size)) s3 := by
    rw [← hs3]
    exact I2.laid (t' := s2.toks) (fun b o e => Heap.get?_push_of_some _ e) (Nat.le_refl _) (hobj _ s2.heap I2.big)
  have low : ∀ b ∈ fp, b < s2.heap.objs.size := fun b hb => by
    obtain ⟨o, e, _⟩ := T.obj _ _ st b hb
    exact Heap.lt_size e
  have f3 : ∀ b ∈ fp, FpOk X pins (upd H2 s2.heap.objs.size (O s2.heap.objs.size)) b ∧ b < s3.heap.objs.size := fun b hb =>
    ⟨⟨by rw [upd_ne (Nat.ne_of_lt (low b hb))]; exact (f2 b hb).1, (f2 b hb).2⟩, by rw [e3, Heap.size_push]; exact Nat.lt_succ_of_lt (low b hb)⟩
  have I4 := block_start I3 ok hN f3
  have pg := hg s3 (upd H2 s2.heap.objs.size (O s2.heap.objs.size)) s3.heap.objs.size (cellsFrom (s3.heap.objs.size + 1) scope.names (cloFrom X.env.cells scope.names [])) fp
  have pt := ht s3 (upd H2 s2.heap.objs.size (O s2.heap.objs.size)) s3.heap.objs.size (cellsFrom (s3.heap.objs.size + 1) scope.names (cloFrom X.env.cells scope.names [])) fp
  have pa := hact s3 (upd H2 s2.heap.objs.size (O s2.heap.objs.size)) s3.heap.objs.size (cellsFrom (s3.heap.objs.size + 1) scope.names (cloFrom X.env.cells scope.names [])) fp s2.heap.objs.size
  show codeAny _ _ (.compStart node 0 (.ref it) (.ref s2.heap.objs.size) (compEnvC scope (cellsFrom (s3.heap.objs.size + 1) scope.names (cloFrom X.env.cells scope.names [])) s3.heap.objs.size X.env)) (compPost (model X.prog X.w) X.A X.xe use Qf (.ref s2.heap.objs.size) s3.heap.objs.size) { s3 with heap := pushCells (s3.heap.push { cls := .type "dict", data := .dict #[] }) scope.names }
  have none3 : ∀ b ∈ fp, (upd H2 s2.heap.objs.size (O s2.heap.objs.size)) b = none := fun b hb => (f3 b hb).1.1
  have loc4 : (compEnvC scope (cellsFrom (s3.heap.objs.size + 1) scope.names (cloFrom X.env.cells scope.names [])) s3.heap.objs.size X.env).locals = s3.heap.objs.size := rfl
  generalize compEnvC scope (cellsFrom (s3.heap.objs.size + 1) scope.names (cloFrom X.env.cells scope.names [])) s3.heap.objs.size X.env = ce at I4 pg pt pa loc4 ⊢
  have st4 : tn 0 (pushCells (s3.heap.push { cls := .type "dict", data := .dict #[] }) scope.names) := T.keep _ _ _ st fun b _ o e => pushCells_keeps _ _ _ _ (Heap.get?_push_of_some _ (by rw [e3]; exact Heap.get?_push_of_some _ e))
  refine hstart it _ ce _ _ (hloop it _ ce _ (BlkJ (X.blk s3 (upd H2 s2.heap.objs.size (O s2.heap.objs.size)) scope ce fp) (wipe σ (own.map (·.2))) tn fp W) (fun E1 E2 E3 E4 n u hJ => ?_) m0 _ ⟨0, _, I4, st4, none3, w0⟩) fun Q1 E z => T.self X.A 0 _ _ _ st4 z
  refine blk_turn (Y := X.blk s3 (upd H2 s2.heap.objs.size (O s2.heap.objs.size)) scope ce fp) hc T pg pt rfl (fun σ' G u' I' hn b hb => ?_) steps (fun pins σ2 G u' Nx Fin I' ta' k => pa pins σ2 G u' Nx Fin I' ta' k) (fun u' G I' qd => ?_) n u hJ
  · exact ⟨hn b hb, (I'.ok.exf b hb).1, I'.ok.exfs b hb, .inl hb, fun x c e => (I'.ok.exf b hb).2 x c e, fun p hp => nomatch (show p ∈ ([] : List (Addr × Obj)) ++ [] from hp)⟩
  · have I7 : Inv X pins σ G u' := I3.call' (ch := fp) I'.os I'.base I'.hok I'.bare fun b hb => ⟨(f3 b hb).1.2.2.2.1, (f3 b hb).1.2.1, (f3 b hb).1.2.2.2.2.1, (f3 b hb).1.2.2.2.2.2⟩
    have nC : G s3.heap.objs.size = none := by
      have z : G ce.locals = none := I'.free
      rwa [loc4] at z
    obtain ⟨m, hn, _⟩ := I'.loc
    have hn : u'.heap.Ns ce.locals m := hn
    rw [loc4] at hn
    exact hRR _ _ u' m G I7 qd hn (I3.fpOk (Nat.le_refl _) nC)
theorem TurnOf.at {M : Model} {A : Around} {tg : Expr} {ifs : List Expr} {env : Env} {it : Addr} {Ac1 : (Value → Shared → Prop) → (Shared → Prop) → Shared → Prop} {R : Result → Shared → Prop} {J : Nat → Shared → Prop} (t : TurnOf M A tg ifs env it (fun Fin z => ∀ E, Ac1 E Fin z) R J) (E0 : Value → Shared → Prop) (n : Nat) (u : Shared) (hJ : J n u) :
    wpAny M A (pyNext (.ref it)) (fun r s1 => match r with
      | none => R (.ok .next) s1
      | some v => wpAny M A (letOwnedTupleGo tg (.ref it) v) (fun _ s2 => wpAny M A (assign tg env v) (fun _ s3 =>
          wpAny M A (forIn ifs true fun c r => if r = true then do let ok ← isTrue c env (eval c env); pure (ForInStep.yield ok) else pure (ForInStep.yield r)) (fun ok s4 =>
            if ok = true then Ac1 E0 (fun s5 => ∃ m, m < n ∧ J m s5) s4 else ∃ m, m < n ∧ J m s4) E0 s3) E0 s2) E0 s1) E0 u := by
  refine wpAny_mono (t E0 E0 E0 E0 n u hJ) (fun r s1 h1 => ?_) fun _ _ z => z
  cases r with
  | none => exact h1
  | some v =>
    refine wpAny_mono h1 (fun _ s2 h2 => wpAny_mono h2 (fun _ s3 h3 => wpAny_mono h3 (fun ok s4 h4 => ?_) fun _ _ z => z) fun _ _ z => z) fun _ _ z => z
    cases ok with
    | true => exact (show ∀ E, Ac1 E (fun s5 => ∃ m, m < n ∧ J m s5) s4 from by simpa using h4) E0
    | false => exact h4
section
variable {X : Cx}
/-- [e for x in it if ..], the first token is out -/
theorem pet_lc {elt tg iter : Expr} {ifs : List Expr} {scope : Scope} {own : List (Str × Nat)} {pos : Pos} {wi : TI} {g : TG} {tt : TT} {te : TE} (hc : X.calm = true) (hN : X.N.Nodup) (hi : PIT X tg iter wi) (ok : BlkOk X.N X.env.scope scope own)
    (hg : ∀ (s : Shared) (H : Hp) (C : Addr) (cl : List (Str × Addr)) (fp : List Addr), PG (X.blk s H scope (compEnvC scope cl C X.env) fp) tg g) (ht : ∀ (s : Shared) (H : Hp) (C : Addr) (cl : List (Str × Addr)) (fp : List Addr), PTs (X.blk s H scope (compEnvC scope cl C X.env) fp) ifs tt)
    (he : ∀ (s : Shared) (H : Hp) (C : Addr) (cl : List (Str × Addr)) (fp : List Addr), PE (X.blk s H scope (compEnvC scope cl C X.env) fp) elt te) (hs : ∀ x, foldedSetIterable iter X.env x = pure x := by intro _; rfl) :
    PET X (.ListComp elt [⟨tg, iter, ifs, 0⟩] scope pos) (tLc wi g tt te (own.map (·.2))) := by
  intro pins s σ H Q h0 I h
  rw [eval_ListComp]
  refine comp_runE (o0 := { cls := .type "list", data := .seq ([] : List Value).toArray }) (O := fun _ => .lst []) (ta := fun D σ G Nx => te σ G fun y G1 => ∃ acc, G1 D = some (.lst acc) ∧ acc.length < sizeLine ∧ Nx (upd G1 D (.lst (acc ++ [y]))))
    (Ac := fun D env Fin u => ∀ E, wpAny (model X.prog X.w) X.A (eval elt env) (fun x s5 => wpAny (model X.prog X.w) X.A (call (.builtin "list.append") [.ref D, x]) (fun _ s6 => Fin s6) E s5) E u)
    hc hN I (fun R r => hi pins s σ H R h0 I r) ok rfl hs (fun z Q1 E q => wpAny_newObj_type q (by show 0 ≤ sizeLine; decide)) (fun H' hp hb => ⟨Nat.zero_le _, [], 0, .nil, Heap.get?_push_size _ rfl⟩) hg ht
    (fun s0 H0 C cl fp D pins σ2 G u Nx Fin I' ta k E => thnF ((he s0 H0 C cl fp).run pins u σ2 G _ I' ta) fun x s5 ⟨y, G1, I1, ry, acc, hD, hz, nx⟩ => app_ok (X := X.blk s0 H0 scope (compEnvC scope cl C X.env) fp) I1 hD hz ry fun s6 I6 => k s6 _ I6 nx)
    (fun it D env R z loop self => codeAny_compStart_list loop (self _ _ loop)) (fun it D env R J t n z hJ => compLoop_any J (fun n z hJ => TurnOf.at t _ n z hJ) n hJ) h (fun D C s' m H' I' q hn f => ⟨m, hn, fun h'' sb => ?_⟩)
  obtain ⟨f0, f1, f2, f3, f4, f5⟩ := f
  exact ⟨.ref D, H', I'.turned (t' := s'.toks) (fun b o hb e => (sb.2 b hb).trans e) f0 f1 f3 f4 f5, rfl, q⟩
/-- e.split(sep), the first token is out -/
theorem pet_split {o e : Expr} {to te : TE} {apos pos : Pos} (ho : PET X o to) (he : PE X e te) (hs : starEach [e] X.env = [(false, eval e X.env)] := by rfl)
    (hbase : attributeBase o "split" X.env (eval o X.env) = eval o X.env := by rfl) (hline : (apos.endLine == pos.line) = true := by rfl) :
    PET X (.Call (.Attribute o "split" apos) [e] [] pos) (fun σ H Q => to σ H fun x H1 => ∃ a, x = .str a ∧ te σ H1 fun y H2 => ∃ b, y = .str b ∧ (b.length == 0) = false ∧ a.length + 2 ≤ sizeLine ∧ rNewStrs (Txt.split a b) H2 Q) := by
  intro pins s σ H Q h0 I h
  refine PySem.Call_method1 hbase hs hline (thn (ho pins s σ H _ h0 I h) fun v s1 ⟨x, H1, I1, r1, a, ea, q1⟩ => ?_)
  subst ea
  cases r1 with
  | intro tk e1 =>
    subst e1
    exact ⟨"str", _, F.plainAttrs_str, F.slot_str_split, F.type_str_split, typeIs_str _ _ _, (fun _ z => nomatch z), Calls.callWith_builtin rfl (Calls.evalArgs_plain (Calls.spliced_cons (thn (he.run pins s1 σ H1 _ I1 q1) fun u s2 ⟨y, H2, I2, r2, b, eb, q2⟩ =>
      Calls.spliced_nil (mt_split pins s2 σ H2 _ [y] _ [u] Q I2 (show RelV (.str a) (.str a tk) from ⟨tk, rfl⟩) (.cons r2 .nil) ⟨a, b, rfl, by rw [eb], q2⟩))))⟩
/-- a def by its body, where a token must be out -/
theorem fun_okT {P : Program} {w : World} {K : PySem.W.Frag} {mg : Str → Option Value} {base : Heap} {CX : CXT} {x qual : Str} {st : Stmt} {f : Addr} {fd : FuncData} {N ps : List Str} {k : Nat} {sp : Sp} (F : Fun K x qual st f fd) (S : FnScope N ps (defScope st)) (hnc : ∀ y ∈ (defScope st).names, y.2 ≠ .cell) (hps : 1 ≤ ps.length)
    (len : ∀ vs H Q E, sp vs H Q E → vs.length = ps.length)
    (hbody : ∀ (cdv : Value) (A : Around) (outer : List Env) (s : Shared) (H : Hp) (vs : List V) (Q : VK) (E : XK), Room k (A.deeper (envOfC qual (defScope st) s.heap.objs.size f cdv)) → sp vs H Q E →
      ∃ t, PSsT (cxOf CX P w K mg base N qual (defScope st) f cdv A outer s H E) (defBody st) t ∧ t { nx := fun _ H' => Q .non H', rt := Q } (start N vs) H) :
    FnOk P w K mg base CX (k + 1) f fd ps sp := by
  obtain ⟨oc, od, kV, doc, pm, an, cdv, ct, osl, rfl, lk, hcd⟩ := F.ex
  exact fn_ofT lk hcd S hnc hps len (hbody cdv)
end
end Ss
namespace Ss
open PySem L2
/-! ### the runs of a text -/
/-- blanks and line feeds -/
def gapC (c : Nat) : Bool := c == 32 || c == 10
def rn : List Nat → List Nat → List (List Nat)
  | acc, [] => if acc = [] then [] else [acc]
  | acc, c :: r => if gapC c = true then (if acc = [] then rn [] r else acc :: rn [] r) else rn (acc ++ [c]) r
theorem repl_gap : ∀ L : List Nat, PySem.StrLaws.replL [10] [32] L = L.map fun c => if c = 10 then 32 else c
  | [] => PySem.StrLaws.replL_nil
  | c :: r => by
    by_cases h : c = 10
    · subst h
      rw [PySem.StrLaws.replL_hit (by simp) rfl]
      show 32 :: PySem.StrLaws.replL [10] [32] r = _
      rw [repl_gap r]
      rfl
    · rw [PySem.StrLaws.replL_miss (by show ¬ (c :: r).take 1 = [10]; simpa using h), repl_gap r, List.map_cons, if_neg h]
theorem spl_rn : ∀ (L acc : List Nat), ((TL.spl [32] 0 acc (L.map fun c => if c = 10 then 32 else c)).filter fun t => t != []) = rn acc L
  | [], acc => by
    rw [List.map_nil, TL.spl_nil, rn]
    by_cases h : acc = []
    · rw [if_pos h, List.filter_cons, if_neg (by simpa using h)]; rfl
    · rw [if_neg h, List.filter_cons, if_pos (by simpa using h)]; rfl
  | c :: r, acc => by
    rw [List.map_cons, rn]
    have pr : ∀ d : Nat, TL.pre [32] (d :: (r.map fun c => if c = 10 then 32 else c)) = (d == 32) := fun d => by
      cases hd : (d == 32) with
      | true => have e := eq_of_beq hd; subst e; rfl
      | false =>
        have e : (32 == d) = false := beq_eq_false_iff_ne.mpr fun z => by rw [← z] at hd; exact Bool.noConfusion hd
        first
        | rfl
        | simp [TL.pre, hd, e]
    by_cases h : gapC c = true
    · have e : (if c = 10 then 32 else c) = 32 := by
        unfold gapC at h
        rw [Bool.or_eq_true, beq_iff_eq, beq_iff_eq] at h
        rcases h with h | h
        · subst h; rfl
        · subst h; rfl
      rw [if_pos h, e, TL.spl_hit (by rw [pr]; rfl), List.filter_cons]
      show _ = if acc = [] then rn [] r else acc :: rn [] r
      have ih := spl_rn r []
      by_cases q : acc = []
      · rw [if_neg (by simpa using q), if_pos q]; exact ih
      · rw [if_pos (by simpa using q), if_neg q]; exact congrArg (acc :: ·) ih
    · have h32 : c ≠ 32 := fun z => h (by rw [z]; rfl)
      have h10 : c ≠ 10 := fun z => h (by rw [z]; rfl)
      rw [if_neg h, if_neg h10, TL.spl_miss (by rw [pr]; exact beq_eq_false_iff_ne.mpr h32)]
      exact spl_rn r (acc ++ [c])
/-- the parts of a text between blanks -/
def partsS (z : Str) : List Str := Txt.split (Txt.replace z "\n" " ") " "
theorem parts_rn (z : Str) : (((partsS z).filter fun y : Str => y != "").map V.str) = (rn [] z.cps.toList).map fun t => V.str (mkS t) := by
  have e10 : ("\n" : Str).cps.toList = [10] := by decide +kernel
  have e32 : (" " : Str).cps.toList = [32] := by decide +kernel
  have s1 := TL.split_spl (Txt.replace z "\n" " ") " " (by show (" " : Str).cps.toList ≠ []; rw [e32]; simp) (TL.kind_ok (by decide +kernel))
  have r1 := PySem.StrLaws.replace_list (x := z) (y := "\n") (z := " ") (by decide +kernel)
  rw [e10, e32, repl_gap] at r1
  have s2 : (partsS z).map (fun y => y.cps.toList) = TL.spl [32] 0 [] (z.cps.toList.map fun c => if c = 10 then 32 else c) := by
    have q : (partsS z).map (fun y => y.cps.toList) = TL.spl (" " : Str).cps.toList 0 [] (Txt.replace z "\n" " ").cps.toList := s1
    rw [e32, r1] at q
    exact q
  rw [← spl_rn, ← s2, List.filter_map, List.map_map]
  have f1 : ((fun t : List Nat => t != []) ∘ fun y : Str => y.cps.toList) = fun y : Str => y != "" := by
    funext y
    show (y.cps.toList != []) = (y != "")
    by_cases h : y = ""
    · subst h; rfl
    · exact (bne_iff_ne.mpr (fun z => h (by rw [mkS_of y, z]; exact mkS_nil.symm))).trans (bne_iff_ne.mpr h).symm
  have f2 : ((fun t => V.str (mkS t)) ∘ fun y : Str => y.cps.toList) = V.str := by
    funext y
    show V.str (mkS y.cps.toList) = V.str y
    rw [← mkS_of]
  rw [f1, f2]
theorem parts_len (z : Str) : (partsS z).length ≤ z.length + z.length + 3 := by
  have h1 := PyProof.Rows.split_le (Txt.replace z "\n" " ") " "
  have h2 := TK.replace_len z "\n" " "
  have h3 : (" " : Str).length = 1 := by decide +kernel
  rw [h3, Nat.mul_one] at h2
  unfold partsS
  omega
/-! ### what is laid -/
theorem rn_gap : ∀ {g : List Nat} (r : List Nat), (∀ c ∈ g, gapC c = true) → rn [] (g ++ r) = rn [] r
  | [], r, _ => rfl
  | c :: g, r, h => by
    rw [List.cons_append, rn, if_pos (h c List.mem_cons_self), if_pos rfl]
    exact rn_gap r fun d hd => h d (List.mem_cons_of_mem _ hd)
theorem rn_tok : ∀ {t : List Nat} (acc r : List Nat), (∀ c ∈ t, gapC c = false) → rn acc (t ++ r) = rn (acc ++ t) r
  | [], acc, r, _ => by rw [List.append_nil]; rfl
  | c :: t, acc, r, h => by
    rw [List.cons_append, rn, if_neg (by rw [h c List.mem_cons_self]; exact Bool.false_ne_true), rn_tok (acc ++ [c]) r (fun d hd => h d (List.mem_cons_of_mem _ hd)), List.append_assoc]
    rfl
theorem rn_end {acc g : List Nat} (r : List Nat) (ha : acc ≠ []) (hg : g ≠ []) (h : ∀ c ∈ g, gapC c = true) : rn acc (g ++ r) = acc :: rn [] r := by
  cases g with
  | nil => exact absurd rfl hg
  | cons c g =>
    rw [List.cons_append, rn, if_pos (h c List.mem_cons_self), if_neg ha, rn_gap r fun d hd => h d (List.mem_cons_of_mem _ hd)]
/-- a text whose runs are these, the last one perhaps not at its end -/
structure Laid (z : List Nat) (ts : List (List Nat)) : Prop where
  run : ∀ g r : List Nat, (∀ c ∈ g, gapC c = true) → g ≠ [] → rn [] (z ++ (g ++ r)) = ts ++ rn [] r
  fin : ∀ g : List Nat, (∀ c ∈ g, gapC c = true) → rn [] (z ++ g) = ts
theorem laid_nil : Laid [] [] := ⟨fun g r h _ => rn_gap r h, fun g h => by
  have q := rn_gap (g := g) [] h
  rw [List.append_nil] at q
  exact q⟩
theorem laid_first {g t : List Nat} (hg : ∀ c ∈ g, gapC c = true) (ht : ∀ c ∈ t, gapC c = false) (h1 : t ≠ []) : Laid (g ++ t) [t] := by
  have base : ∀ r, rn [] (g ++ t ++ r) = rn t r := fun r => by rw [List.append_assoc, rn_gap _ hg, rn_tok [] r ht, List.nil_append]
  refine ⟨fun g2 r h2 hn => ?_, fun g2 h2 => ?_⟩
  · rw [base, rn_end r h1 hn h2]; rfl
  · rw [base]
    by_cases hn : g2 = []
    · rw [hn, rn, if_neg h1]
    · have q := rn_end [] h1 hn h2
      rw [List.append_nil] at q
      rw [q]; rfl
theorem laid_more {z g t : List Nat} {ts : List (List Nat)} (L : Laid z ts) (hg : ∀ c ∈ g, gapC c = true) (hn : g ≠ []) (ht : ∀ c ∈ t, gapC c = false) (h1 : t ≠ []) : Laid (z ++ g ++ t) (ts ++ [t]) := by
  have T := laid_first (g := []) (t := t) (fun c hc => nomatch hc) ht h1
  have base : ∀ r, rn [] (z ++ g ++ t ++ r) = ts ++ rn [] (t ++ r) := fun r => by rw [List.append_assoc, List.append_assoc, L.run g _ hg hn]
  refine ⟨fun g2 r h2 hn2 => ?_, fun g2 h2 => ?_⟩
  · rw [base, show t ++ (g2 ++ r) = [] ++ t ++ (g2 ++ r) from rfl, T.run g2 r h2 hn2, List.append_assoc]
  · rw [base, show t ++ g2 = [] ++ t ++ g2 from rfl, T.fin g2 h2]
theorem sgn_gap : ∀ c ∈ SGN, gapC c = false := by decide +kernel
theorem gap_more {x : V} (h : x ∈ [V.str " ", V.str " ", V.str " ", V.str "  ", V.str "\n", V.str " \n ", V.str "\n\n"]) : ∃ g : List Nat, x = .str (mkS g) ∧ (∀ c ∈ g, gapC c = true) ∧ g ≠ [] ∧ g.length ≤ 3 := by
  simp only [List.mem_cons, List.not_mem_nil, or_false] at h
  rcases h with rfl | rfl | rfl | rfl | rfl | rfl | rfl
  · exact ⟨[32], congrArg V.str (by decide +kernel), by decide, by decide, by decide⟩
  · exact ⟨[32], congrArg V.str (by decide +kernel), by decide, by decide, by decide⟩
  · exact ⟨[32], congrArg V.str (by decide +kernel), by decide, by decide, by decide⟩
  · exact ⟨[32, 32], congrArg V.str (by decide +kernel), by decide, by decide, by decide⟩
  · exact ⟨[10], congrArg V.str (by decide +kernel), by decide, by decide, by decide⟩
  · exact ⟨[32, 10, 32], congrArg V.str (by decide +kernel), by decide, by decide, by decide⟩
  · exact ⟨[10, 10], congrArg V.str (by decide +kernel), by decide, by decide, by decide⟩
theorem gap_first {x : V} (h : x ∈ [V.str "", V.str "", V.str " ", V.str "\n"]) : ∃ g : List Nat, x = .str (mkS g) ∧ (∀ c ∈ g, gapC c = true) ∧ g.length ≤ 3 := by
  simp only [List.mem_cons, List.not_mem_nil, or_false] at h
  rcases h with rfl | rfl | rfl | rfl
  · exact ⟨[], congrArg V.str (by decide +kernel), by decide, by decide⟩
  · exact ⟨[], congrArg V.str (by decide +kernel), by decide, by decide⟩
  · exact ⟨[32], congrArg V.str (by decide +kernel), by decide, by decide⟩
  · exact ⟨[10], congrArg V.str (by decide +kernel), by decide, by decide⟩
theorem gap_last {x : V} (h : x ∈ [V.str "", V.str "", V.str " ", V.str "\n", V.str "\n \n"]) : ∃ g : List Nat, x = .str (mkS g) ∧ (∀ c ∈ g, gapC c = true) ∧ g.length ≤ 3 := by
  simp only [List.mem_cons, List.not_mem_nil, or_false] at h
  rcases h with rfl | rfl | rfl | rfl | rfl
  · exact ⟨[], congrArg V.str (by decide +kernel), by decide, by decide⟩
  · exact ⟨[], congrArg V.str (by decide +kernel), by decide, by decide⟩
  · exact ⟨[32], congrArg V.str (by decide +kernel), by decide, by decide⟩
  · exact ⟨[10], congrArg V.str (by decide +kernel), by decide, by decide⟩
  · exact ⟨[10, 32, 10], congrArg V.str (by decide +kernel), by decide, by decide⟩
/-- the promise of runs_of -/
def spRuns : Sp := fun vs H Q _ => ∃ z : Str, vs = [.str z] ∧ z.length ≤ 1000000 ∧ ∀ (p : Addr) (H' : Hp), H p = none → Same H H' → H' p = some (.lst ((rn [] z.cps.toList).map fun t => V.str (mkS t))) → Q (.ref p) H'
end Ss
namespace Ss
open PySem L2 PySem.Spec PyProof.Rows
/-- what changes at b alone, b new at first, leaves all as it was -/
theorem same_off {H H1 H2 : Hp} {b : Addr} (s : Same H H1) (hb : H b = none) (o : Off b H1 H2) : Same H H2 := fun a u h => o a u (ne_of_none h hb) (s a u h)
theorem fresh_off {H H1 H2 : Hp} {b p : Addr} (s : Same H H1) (hb : H b = none) (o : Off b H1 H2) (hp : H2 p = none) : H p = none := Evl.fresh_back (same_off s hb o) hp
theorem el_catL {σ : L2.St} {H : Hp} {ta tb : TE} {l : Addr} {xs ys : List V} (ha : Evl.Ev ta σ H (.ref l)) (hl : H l = some (.lst xs)) (hb : Evl.EvL tb σ H ys) (hz : xs.length + ys.length ≤ 100000) : Evl.EvL (tOp rCat ta tb) σ H (xs ++ ys) := fun H1 e Q q =>
  ha H1 e _ fun H2 e2 => hb H2 (e.trans e2) _ fun p H3 hp e3 h3 => ⟨l, p, xs, ys, rfl, rfl, e3 _ _ (e2 _ _ (e _ _ hl)), h3, Evl.sz_of hz, fun r hr => q r _ (Evl.fresh_back (e2.trans e3) hr) ((e2.trans e3).trans (Evl.Ex.new hr)) upd_same⟩
theorem Bag.ne' {H H3 : Hp} {b r : Addr} {n : Nat} {o : HO} (_ : Bag H b n) (h : H3 r = some o) (hb : H3 b = none) : r ≠ b := ne_of_none h hb
/-! ### lists of texts as data -/
theorem dp_strs {K : PySem.W.Frag} {H : Hp} : ∀ ts : List Str, DpAll K H (ts.map V.str) (ts.map PyData.str)
  | [] => .nil
  | t :: ts => .cons (.str t) (dp_strs ts)
/-- a text of signs that there are -/
def okS (z : Str) : Bool := PyData.canLay0 (.str z)
theorem lay_strs : ∀ ts : List Str, ts.all okS = true → PyData.canLayAll0 (ts.map PyData.str) = true
  | [], _ => rfl
  | t :: ts, h => by
    rw [List.all_cons, Bool.and_eq_true] at h
    show (PyData.canLay0 (.str t) && PyData.canLayAll0 (ts.map PyData.str)) = true
    rw [lay_strs ts h.2, Bool.and_true]
    exact h.1
theorem deep_strs : ∀ ts : List Str, PyData.depthAll (ts.map PyData.str) = 0
  | [] => rfl
  | t :: ts => by
    show max (PyData.depth (.str t)) (PyData.depthAll (ts.map PyData.str)) = 0
    rw [deep_strs ts]
    rfl
theorem shaped_strs {ts : List Str} (h : ts.all okS = true) : SeqAt.shaped (.list (ts.map PyData.str)) = true := by
  show (PyData.canLayAll0 (ts.map PyData.str) && decide (PyData.depthAll (ts.map PyData.str) + 1 ≤ 64)) = true
  rw [lay_strs ts h, deep_strs]
  rfl
theorem okS_mk {t : List Nat} (h : ∀ c ∈ t, c < 1114112) : okS (mkS t) = true := by
  show (mkS t).cps.all (fun c => decide (c < 0x110000)) = true
  rw [← Array.all_toList, mkS_cps]
  exact List.all_eq_true.mpr fun c hc => decide_eq_true (h c hc)
theorem data_same {d : PyData} (h : SeqAt.shaped d = true) : PyData.eqv d d = true := SeqAt.eqv_refl d (SeqAt.canLay_of_shaped h)
theorem rv_eqs {K : PySem.W.Frag} {H : Hp} {p q : Addr} {ts : List Str} (h : ts.all okS = true) (h1 : SqL K H p (ts.map V.str)) (h2 : SqL K H q (ts.map V.str)) : Evl.RV (rEqD K) (.ref p) (.ref q) H (.bl true) := fun H1 e Q k =>
  ⟨_, _, .lst (Evl.ex_l e h1) (dp_strs ts), .lst (Evl.ex_l e h2) (dp_strs ts), shaped_strs h, shaped_strs h, by rw [data_same (shaped_strs h)]; exact k H1 (Evl.Ex.refl H1)⟩
theorem rv_nes {K : PySem.W.Frag} {H : Hp} {p q : Addr} {ts : List Str} (h : ts.all okS = true) (h1 : SqL K H p (ts.map V.str)) (h2 : SqL K H q (ts.map V.str)) : Evl.RV (rNeD K) (.ref p) (.ref q) H (.bl false) := fun H1 e Q k =>
  ⟨_, _, .lst (Evl.ex_l e h1) (dp_strs ts), .lst (Evl.ex_l e h2) (dp_strs ts), shaped_strs h, shaped_strs h, by rw [data_same (shaped_strs h)]; exact k H1 (Evl.Ex.refl H1)⟩
/-- isinstance(x, list) of a list -/
theorem rc_isL {K : PySem.W.Frag} {H : Hp} {p : Addr} {xs : List V} (h : H p = some (.lst xs)) : Evl.RC (rIsi K) [.ref p, .ty "list"] H (.bl true) := fun H1 s Q q =>
  ⟨.ref p, .ty "list", .type "list", .type "list", true, rfl, .ty _, .base (.lst (s _ _ h)), kit_ty (by decide +kernel), q H1 (Evl.Ex.refl H1)⟩
/-- lists of texts by their codes -/
theorem map_mk (ts : List (List Nat)) : (ts.map fun t => V.str (mkS t)) = (ts.map mkS).map V.str := by rw [List.map_map]; rfl
end Ss
namespace Ss
open PySem L2 PySem.Spec PyProof.Rows
/-! ### a call sees a part of what is tracked -/
/-- all but what stands at b -/
def rm (H : Hp) (b : Addr) : Hp := fun a => if a = b then none else H a
theorem rm_at (H : Hp) (b : Addr) : rm H b b = none := if_pos rfl
theorem rm_ne {H : Hp} {a b : Addr} (h : a ≠ b) : rm H b a = H a := if_neg h
theorem rm_some {H : Hp} {a b : Addr} {o : HO} (h : rm H b a = some o) : a ≠ b ∧ H a = some o := by
  by_cases e : a = b
  · rw [e, rm_at] at h; cases h
  · rw [rm_ne e] at h; exact ⟨e, h⟩
theorem rm_same (H : Hp) (b : Addr) : Same (rm H b) H := fun _ _ h => (rm_some h).2
theorem rm_off {H H' : Hp} {b : Addr} (h : Off b H H') : Same (rm H b) (rm H' b) := fun a o e => by
  obtain ⟨n, e⟩ := rm_some e
  rw [rm_ne n]
  exact h a o n e
theorem rm_upd {G : Hp} {b : Addr} {o : HO} (h : G b = none) : rm (upd G b o) b = G := by
  funext a
  by_cases e : a = b
  · rw [e, rm_at, h]
  · rw [rm_ne e, upd_ne e]
theorem upd_rm {H : Hp} {b : Addr} {o : HO} (h : H b = some o) : upd (rm H b) b o = H := by
  funext a
  by_cases e : a = b
  · rw [e, upd_same, h]
  · rw [upd_ne e, rm_ne e]
/-- the promise sp, of what is tracked beside a list at b -/
def spF (sp : Sp) : Sp := fun vs H Q E => ∃ (b : Addr) (xs : List V), H b = some (.lst xs) ∧ sp vs (rm H b) (fun v H' => H' b = none → Q v (upd H' b (.lst xs))) E
theorem ok_part {P : Program} {w : World} {H H' : Hp} {h : Heap} {a : Addr} (hs : ∀ b o, (∀ xs, o ≠ .lst xs) → H b = some o → H' b = some o) : ∀ {o : HO}, ObjOk P w H h a o → ObjOk P w H' h a o
  | .lst _, x => x
  | .tup _, x => x
  | .dK _, x => x
  | .dT kvs, x => by
    obtain ⟨h1, h2, xs, p, q⟩ := x
    exact ⟨h1, h2, xs, L2.Paired.mapP p fun _ _ z => ⟨z.1, hs _ _ (fun _ e => by cases e) z.2.1, z.2.2⟩, q⟩
  | .set _ _, x => x
  | .ins C dx fs, x => by
    obtain ⟨h1, h2⟩ := x
    exact ⟨hs _ _ (fun _ e => by cases e) h1, h2⟩
  | .own _, x => x
  | .xd _, x => x
  | .rng _ _, x => x
  | .frz o u, x => ⟨x.1, ok_part hs x.2⟩
  | .tbl _, x => x
  | .met _ _, x => x
  | .ext _, x => x
theorem hok_rm {P : Program} {w : World} {H : Hp} {h : Heap} {b : Addr} {xs : List V} (hb : H b = some (.lst xs)) (k : HOk P w H h) : HOk P w (rm H b) h := fun a o e => by
  obtain ⟨n, e⟩ := rm_some e
  exact ok_part (fun c u nl hc => by
    rw [rm_ne (fun z => by rw [z, hb] at hc; cases hc; exact nl _ rfl)]; exact hc) (k a o e)
theorem FnOk.frame {P : Program} {w : World} {K : PySem.W.Frag} {mg : Str → Option Value} {base : Heap} {k : Nat} {f : Addr} {fd : FuncData} {ps : List Str} {sp : Sp} (F : FnOk P w K mg base CX0 k f fd ps sp) : FnOk P w K mg base CX0 k f fd ps (spF sp) := by
  refine ⟨fun vs H Q E h => let ⟨b, xs, _, q⟩ := h; F.len _ _ _ _ q, fun A outer s H args us vs Q E hr e0 hb hv h => ?_⟩
  obtain ⟨b, xs, hbx, q⟩ := h
  have nf : b ∉ frs outer := fun z => by rw [e0.frf b z] at hbx; cases hbx
  have hob := e0.hok b _ hbx
  obtain ⟨hz, its, n, hvs, hget⟩ := hob
  have e1 : Env0 P w K mg base A outer s (rm H b) := ⟨e0.frames, e0.mod, fun c o z => ⟨(e0.bs c o z).1, by
      by_cases e : c = b
      · rw [e]; exact rm_at H b
      · rw [rm_ne e]; exact (e0.bs c o z).2⟩, e0.bsz, e0.funs, fun c z => by
      by_cases e : c = b
      · rw [e]; exact rm_at H b
      · rw [rm_ne e]; exact e0.frf c z, hok_rm hbx e0.hok, e0.bare⟩
  refine codeAny_mono (F.run A outer s (rm H b) args us vs _ E hr e1 hb hv q) fun r s' hr' => ?_
  cases r with
  | error e => exact hr'
  | ok fl =>
    cases fl with
    | next => exact hr'
    | brk => exact hr'
    | cont => exact hr'
    | ret u =>
      obtain ⟨v, H', os, bare, un, ok, rv, qq⟩ := hr'
      have nb' : H' b = none := un.free b _ hget (rm_at H b) (by simp)
      have gb' := un.keep b _ hget (rm_at H b) nf (by simp)
      refine ⟨v, upd H' b (.lst xs), os, bare, ⟨fun c o z hc hf hx => ?_, fun c o z hc hf hx => ?_, fun c o z hc hx => ?_, un.there, fun c ys z => ?_, fun c o u z => ?_, fun c ps z => ?_⟩, fun c o z => ?_, rv, qq nb'⟩
      · have ne : c ≠ b := fun e => by rw [e, hbx] at hc; cases hc
        exact un.keep c o z (by rw [rm_ne ne]; exact hc) hf hx
      · have ne : c ≠ b := fun e => by rw [e, hbx] at hc; cases hc
        exact un.slot c o z (by rw [rm_ne ne]; exact hc) hf hx
      · have ne : c ≠ b := fun e => by rw [e, hbx] at hc; cases hc
        rw [upd_ne ne]
        exact un.free c o z (by rw [rm_ne ne]; exact hc) hx
      · have ne : c ≠ b := fun e => by rw [e, hbx] at z; cases z
        rw [upd_ne ne]
        exact un.tups c ys (by rw [rm_ne ne]; exact z)
      · have ne : c ≠ b := fun e => by rw [e, hbx] at z; cases z
        rw [upd_ne ne]
        exact un.frzs c o u (by rw [rm_ne ne]; exact z)
      · have ne : c ≠ b := fun e => by rw [e, hbx] at z; cases z
        obtain ⟨more, q⟩ := un.tbls c ps (by rw [rm_ne ne]; exact z)
        exact ⟨more, by rw [upd_ne ne]; exact q⟩
      · by_cases e : c = b
        · subst e
          rw [upd_same] at z
          cases z
          exact ⟨hz, its, n, hvs, gb'⟩
        · rw [upd_ne e] at z
          exact ok_part (fun d u nl hd => by rw [upd_ne (fun y => by rw [y, nb'] at hd; cases hd)]; exact hd) (ok c o z)
variable {P : Program} {w : World} {K : PySem.W.Frag} {mg : Str → Option Value} {base : Heap} {k : Nat} {x m : Str} {C : Addr} {ps : List Str} {sp : Sp}
theorem Dk.frame (D : Dk P w K mg base CX0 k x ps sp) : Dk P w K mg base CX0 k x ps (spF sp) := let ⟨f, fd, F, r⟩ := D.ex; ⟨f, fd, FnOk.frame F, r⟩
theorem Mm.frame (D : Mm P w K mg base CX0 C k m ps sp) : Mm P w K mg base CX0 C k m ps (spF sp) := let ⟨f, fd, F, r⟩ := D.ex; ⟨f, fd, FnOk.frame F, r⟩
end Ss
namespace Ss
open PySem L2 PyProof.Rows
/-! ### the signs of an own class: + | - ~ * .., in, len -/
theorem inv_fr {X : Cx} {pins : List (Addr × Obj)} {σ : L2.St} {H : Hp} {s : Shared} (I : Inv X pins σ H s) : ∃ m, Fr X.base X.env.locals s.heap m :=
  let ⟨m, n, _⟩ := I.loc
  ⟨m, n, I.bk, Nat.le_trans I.ok.bsz I.ok.above⟩
/-- behind a call of an own def: its value is no mark of a sign that isn't there -/
theorem cmp_back {X : Cx} {pins : List (Addr × Obj)} {σ : L2.St} {Q : VK} {v : Value} {s : Shared} (h : EP X pins σ Q v s) : PySem.W.CmpBack (EP X pins σ Q) v s := by
  obtain ⟨x, H', I, r, q⟩ := id h
  cases x with
  | non => obtain rfl : v = .none := r; exact h
  | bl b => obtain rfl : v = .bool b := r; exact h
  | int i => obtain ⟨t, rfl⟩ := (show ∃ t, v = Value.int i t from r); exact h
  | str z => obtain ⟨t, rfl⟩ := (show ∃ t, v = Value.str z t from r); exact h
  | byt b => obtain ⟨t, rfl⟩ := (show ∃ t, v = Value.bytes b t from r); exact h
  | flt b => obtain ⟨t, rfl⟩ := (show ∃ t, v = Value.float b t from r); exact h
  | ref a => obtain rfl : v = .ref a := r; exact h
  | ty n => obtain rfl : v = .type n := r; exact h
/-- an object of the class at C stands at p -/
def Own (H : Hp) (p C : Addr) : Prop := ∃ dx fs, H p = some (.ins C dx fs)
theorem own_inst {X : Cx} {pins : List (Addr × Obj)} {σ : L2.St} {H : Hp} {s : Shared} {p C : Addr} (I : Inv X pins σ H s) (h : Own H p C) : ∃ dx od, PySem.W.InstAt s.heap p (PySem.W.instObj C dx) C (some od) := by
  obtain ⟨dx, fs, e⟩ := h
  obtain ⟨mA, O, _⟩ := ins_get I.hok e
  obtain ⟨od, J, _⟩ := O.look
  exact ⟨dx, od, J⟩
def rOwn (C : Addr) (sp : Sp) (E : XK) : R2 := fun x y H Q => ∃ p q, x = .ref p ∧ y = .ref q ∧ Own H p C ∧ Own H q C ∧ sp [.ref p, .ref q] H Q E
/-- x op T, T a built-in type's value -/
def rOwnT (C : Addr) (sp : Sp) (E : XK) : R2 := fun x y H Q => ∃ p n, x = .ref p ∧ y = .int n ∧ Own H p C ∧ sp [.ref p, .int n] H Q E
def rUnO (C : Addr) (sp : Sp) (E : XK) : V → Hp → VK → Prop := fun x H Q => ∃ p, x = .ref p ∧ Own H p C ∧ sp [.ref p] H Q E
section
variable {X : Cx} {CX : CXT} {C : Addr} {k j : Nat} {m : Str} {ps : List Str} {sp : Sp} {E : XK} {op : Operator}
theorem op_own (D : Mm X.prog X.w X.K X.mg X.base CX C k m ps sp) (hr : Room j X.A) (hx : Passes CX X E) (sf : PySem.W.selfFirst X.K C = true) (hk : k ≤ j := by decide) (hm : m = PySem.dunder op.info.2 := by first | rfl | decide +kernel) : OpR X (binaryOp op) (rOwn C sp E) := by
  intro pins s σ H x y v u Q I rx ry h
  obtain ⟨p, q, rfl, rfl, hp, hq, hs⟩ := h
  obtain rfl : v = Value.ref p := rx
  obtain rfl : u = Value.ref q := ry
  obtain ⟨f, fd, F, mf, b⟩ := D.ex
  obtain ⟨dx, od, J⟩ := own_inst I hp
  obtain ⟨dy, oe, J2⟩ := own_inst I hq
  obtain ⟨m', fr⟩ := inv_fr I
  subst hm
  exact PySem.W.binop_K fr I.ok.mod.kin J J2.type sf mf.at_ mf.fn (wpAny_mono (run_fn (us := [.ref p, .ref q]) (vs := [.ref p, .ref q]) F (hr.mono hk) b .nil hx I (.cons rfl (.cons rfl .nil)) hs) (fun _ _ z => cmp_back z) fun _ _ z => z)
theorem ow_neg (D : Mm X.prog X.w X.K X.mg X.base CX C k "__neg__" ps sp) (hr : Room j X.A) (hx : Passes CX X E) (hk : k ≤ j := by decide) : UnR X (unaryOp .USub) (rUnO C sp E) := by
  intro pins s σ H x v Q I rx h
  obtain ⟨p, rfl, hp, hs⟩ := h
  obtain rfl : v = Value.ref p := rx
  obtain ⟨f, fd, F, mf, b⟩ := D.ex
  obtain ⟨dx, od, J⟩ := own_inst I hp
  obtain ⟨m', fr⟩ := inv_fr I
  exact PySem.W.ksp_neg fr I.ok.mod.kin J mf.at_ mf.fn (run_fn (us := [.ref p]) (vs := [.ref p]) F (hr.mono hk) b .nil hx I (.cons rfl .nil) hs)
theorem ow_pos (D : Mm X.prog X.w X.K X.mg X.base CX C k "__pos__" ps sp) (hr : Room j X.A) (hx : Passes CX X E) (hk : k ≤ j := by decide) : UnR X (unaryOp .UAdd) (rUnO C sp E) := by
  intro pins s σ H x v Q I rx h
  obtain ⟨p, rfl, hp, hs⟩ := h
  obtain rfl : v = Value.ref p := rx
  obtain ⟨f, fd, F, mf, b⟩ := D.ex
  obtain ⟨dx, od, J⟩ := own_inst I hp
  obtain ⟨m', fr⟩ := inv_fr I
  exact PySem.W.ksp_pos fr I.ok.mod.kin J mf.at_ mf.fn (run_fn (us := [.ref p]) (vs := [.ref p]) F (hr.mono hk) b .nil hx I (.cons rfl .nil) hs)
theorem ow_inv (D : Mm X.prog X.w X.K X.mg X.base CX C k "__invert__" ps sp) (hr : Room j X.A) (hx : Passes CX X E) (hk : k ≤ j := by decide) : UnR X (unaryOp .Invert) (rUnO C sp E) := by
  intro pins s σ H x v Q I rx h
  obtain ⟨p, rfl, hp, hs⟩ := h
  obtain rfl : v = Value.ref p := rx
  obtain ⟨f, fd, F, mf, b⟩ := D.ex
  obtain ⟨dx, od, J⟩ := own_inst I hp
  obtain ⟨m', fr⟩ := inv_fr I
  exact PySem.W.ksp_inv fr I.ok.mod.kin J mf.at_ mf.fn (run_fn (us := [.ref p]) (vs := [.ref p]) F (hr.mono hk) b .nil hx I (.cons rfl .nil) hs)
/-- x in y, y of the own class: __contains__ tells a truth value -/
def rInO (C : Addr) (sp : Sp) (E : XK) (neg : Bool) : R2 := fun x y H Q => ∃ p, y = .ref p ∧ Own H p C ∧ sp [.ref p, x] H (fun v H' => ∃ b, v = .bl b ∧ Q (.bl (b != neg)) H') E
theorem op_inO (D : Mm X.prog X.w X.K X.mg X.base CX C k "__contains__" ps sp) (hr : Room j X.A) (hx : Passes CX X E) (hk : k ≤ j := by decide) : OpR X (compareOp .In) (rInO C sp E false) := by
  intro pins s σ H x y v u Q I rx ry h
  obtain ⟨p, rfl, hp, hs⟩ := h
  obtain rfl : u = Value.ref p := ry
  obtain ⟨f, fd, F, mf, b⟩ := D.ex
  obtain ⟨dx, od, J⟩ := own_inst I hp
  obtain ⟨m', fr⟩ := inv_fr I
  refine PySem.W.in_K fr I.ok.mod.kin J mf.at_ mf.fn (wpAny_mono (run_fn (us := [.ref p, v]) (vs := [.ref p, x]) F (hr.mono hk) b .nil hx I (.cons rfl (.cons rx .nil)) hs) (fun r s' hz => ?_) fun _ _ z => z)
  obtain ⟨z, H', I', rz, t, rfl, q⟩ := hz
  obtain rfl : r = Value.bool t := rz
  refine wpAny_pure ?_
  exact ⟨.bl t, H', I', rfl, by simpa using q⟩
theorem op_notInO (D : Mm X.prog X.w X.K X.mg X.base CX C k "__contains__" ps sp) (hr : Room j X.A) (hx : Passes CX X E) (hk : k ≤ j := by decide) : OpR X (compareOp .NotIn) (rInO C sp E true) := by
  intro pins s σ H x y v u Q I rx ry h
  obtain ⟨p, rfl, hp, hs⟩ := h
  obtain rfl : u = Value.ref p := ry
  obtain ⟨f, fd, F, mf, b⟩ := D.ex
  obtain ⟨dx, od, J⟩ := own_inst I hp
  obtain ⟨m', fr⟩ := inv_fr I
  refine PySem.W.notIn_K fr I.ok.mod.kin J mf.at_ mf.fn (wpAny_mono (run_fn (us := [.ref p, v]) (vs := [.ref p, x]) F (hr.mono hk) b .nil hx I (.cons rfl (.cons rx .nil)) hs) (fun r s' hz => ?_) fun _ _ z => z)
  obtain ⟨z, H', I', rz, t, rfl, q⟩ := hz
  obtain rfl : r = Value.bool t := rz
  refine wpAny_pure ?_
  exact ⟨.bl (!t), H', I', rfl, by simpa using q⟩
/-- a call of an own def from within a built-in one -/
theorem run_in1 {f : Addr} {fd : FuncData} {pins : List (Addr × Obj)} {σ : L2.St} {H : Hp} {s : Shared} {Q : VK} {us : List Value} {vs : List V} (F : FnOk X.prog X.w X.K X.mg X.base CX k f fd ps sp) (hr : Room (k + 1) X.A) (hb : Binds X.K fd ps []) (hx : Passes CX X E)
    (I : Inv X pins σ H s) (r : Vals vs us) (h : sp vs H Q E) : wpAny (model X.prog X.w) X.A.in1 (call (.ref f) us) (EP X pins σ Q) X.xe s := by
  have hl : us.length = ps.length := by rw [← r.length]; exact F.len _ _ _ _ h
  refine wpAny_call (codeAny_mono (F.run X.A.in1 X.stack s H ⟨us, []⟩ us vs Q E hr.in1 I.env0.in1 (by
    have q := hb s us I.kIn (by rw [List.append_nil]; exact hl)
    rwa [List.append_nil] at q) r h) fun r s' hq => ?_)
  cases r with
  | error e => exact hx pins σ H s e s' I hq
  | ok fl =>
    cases fl with
    | ret u => exact I.after hq
    | next => exact False.elim hq
    | brk => exact False.elim hq
    | cont => exact False.elim hq
/-- len(x), x of the own class -/
def rLenO (C : Addr) (sp : Sp) (E : XK) : List V → Hp → VK → Prop := fun xs H Q => ∃ p, xs = [.ref p] ∧ Own H p C ∧ sp [.ref p] H (fun v H' => ∃ n : Nat, v = .int n ∧ n < 2 ^ 63 ∧ Q (.int n) H') E
theorem call_lenO (D : Mm X.prog X.w X.K X.mg X.base CX C k "__len__" ps sp) (hr : Room j X.A) (hx : Passes CX X E) (hk : k + 1 ≤ j := by decide) : CallR X (.builtin "len") (rLenO C sp E) := by
  intro pins s σ H xs us Q I r h
  obtain ⟨p, rfl, hp, hs⟩ := h
  obtain ⟨u, rfl, rx⟩ := vals1 r
  obtain rfl : u = Value.ref p := rx
  obtain ⟨f, fd, F, mf, b⟩ := D.ex
  obtain ⟨dx, od, J⟩ := own_inst I hp
  obtain ⟨m', fr⟩ := inv_fr I
  refine PySem.W.len_K fr I.ok.mod.kin J mf.at_ mf.fn (wpAny_mono (run_in1 (us := [.ref p]) (vs := [.ref p]) F (hr.mono hk) b hx I (.cons rfl .nil) hs) (fun r s' hz => ?_) fun _ _ z => z)
  obtain ⟨z, H', I', rz, n, rfl, hn, q⟩ := hz
  obtain ⟨t, rfl⟩ := (show ∃ t, r = Value.int n t from rz)
  refine ⟨⟨by omega, by omega⟩, .int n, H', I'.kept (t' := s'.toks + 1) fun _ _ z => z, ⟨_, rfl⟩, q⟩
/-- C(e, ..) by the class's own __init__ -/
structure NewD (P : Program) (w : World) (K : PySem.W.Frag) (mg : Str → Option Value) (base : Heap) (CX : CXT) (C : Addr) (k : Nat) (x : Str) (ps : List Str) (sp : Sp) : Prop where
  ex : ∃ (f : Addr) (fd : FuncData), Mk K C f ∧ FnOk P w K mg base CX k f fd ps sp ∧ mg x = some (.ref C) ∧ Binds K fd ps []
theorem pe_mk {x : Str} {p pos : Pos} {e : Expr} {es : List Expr} {t : TA} (D : NewD X.prog X.w X.K X.mg X.base CX C k x ps sp) (hr : Room j X.A) (hx : Passes CX X E) (ha : PA X (e :: es) t) (hk : k + 1 ≤ j := by decide) (hg : Gl X x := by rfl) (hdb : (x == ("__debug__" : Str)) = false := by decide)
    (he : starEach (e :: es) X.env = (false, eval e X.env) :: starEach es X.env := by rfl) (hpl : (backTo pos (starEach es X.env)).any (·.1) = false := by rfl) : PE X (.Call (.Name x p) (e :: es) [] pos) (tMake C sp [] E t) := by
  obtain ⟨f, fd, M, F, mx, b⟩ := D.ex
  exact pe_make M F (hr.mono hk) hg mx b .nil hx ha hdb he hpl
/-- a suite that is never reached -/
def tNo : TS := fun _ _ _ => False
theorem pss_no {ss : List Stmt} : PSs X ss tNo := ⟨fun _ _ _ _ _ _ h => h.elim⟩
end
end Ss
namespace Ss
open PySem L2 PyProof.Rows
/-! ### classes of one's own, read and called by their names -/
/-- the class at C may be read under the name x -/
structure ClsRd (K : PySem.W.Frag) (mg : Str → Option Value) (x : Str) (C : Addr) : Prop where
  mg : mg x = some (.ref C)
  rd : PySem.W.readsIn K C (.type "type") = true
  ga : PySem.W.specialIn K (.ref C) "__getattribute__" = some (some (.builtin "type.__getattribute__"))
section
variable {X : Cx} {CX : CXT} {C f : Addr} {k j : Nat} {x m : Str} {ps : List Str} {sp : Sp} {E : XK} {o e : Expr} {es : List Expr} {ta : TA} {p p1 p2 pos : Pos}
/-- x.m(e, ..), x a class: its def -/
theorem pe_clsfn {pl : Sem Bool} (R : ClsRd X.K X.mg x C) (F : FnR X.prog X.w X.K X.mg X.base CX k f sp) (v : PySem.W.findCls X.K (.ref C) (.type "type") m = some (.val (.ref f))) (kp : PySem.W.keepIn X.K (.ref f) = true) (hr : Room j X.A) (hx : Passes CX X E) (ha : PA X (e :: es) ta) (hk : k ≤ j := by decide)
    (hg : Gl X x := by rfl) (hdb : (x == ("__debug__" : Str)) = false := by decide)
    (hc : eval (.Call (.Attribute (.Name x p1) m p2) (e :: es) [] pos) X.env = (do
      let ov ← eval (.Name x p1) X.env
      standAt p2.atName
      let (f, first) ← holding [ov] (getMethod ov m pl)
      callWith pos f first (backTo pos (starEach (e :: es) X.env)) (backToKw pos (keywordEach [] X.env))) := by rfl)
    (he : starEach (e :: es) X.env = (false, eval e X.env) :: starEach es X.env := by rfl) (hpl : (backTo pos (starEach es X.env)).any (·.1) = false := by rfl) :
    PE X (.Call (.Attribute (.Name x p1) m p2) (e :: es) [] pos) (fun σ H Q => ta σ H fun vs H1 => sp vs H1 Q E) := by
  refine ⟨fun pins s σ H Q I h => PySem.W.methodCall_KW (ld_glob I hg R.mg ?_ hdb) hc⟩
  refine PySem.W.method_cls I.kIn R.ga (PySem.W.cls_value I.kIn R.rd v rfl ?_)
  have I2 := I.tok (s.toks + 1)
  exact PySem.W.callWith_K (h₀ := X.base) I2.ok.mod.kin kp (thn (ha.run pos pins _ σ H _ I2 h) fun us s1 ⟨vs, H1, I1, r, q⟩ => ⟨I1.kIn, wpAny_call (run_fnR (us := us) (vs := vs) F (hr.mono hk) hx I1 r q)⟩) he hpl
/-- x.f, x a class: a constant of it -/
theorem pe_clscon {v : V} {u : Value} {f : Str} (R : ClsRd X.K X.mg x C) (vv : PySem.W.findCls X.K (.ref C) (.type "type") f = some (.val u)) (rv : RelV v u) (hh : PySem.W.handedIn u = true) (hg : Gl X x := by rfl) (hdb : (x == ("__debug__" : Str)) = false := by decide)
    (hb : attributeBase (.Name x p1) f X.env (eval (.Name x p1) X.env) = eval (.Name x p1) X.env := by rfl) : PE X (.Attribute (.Name x p1) f pos) (tC v) := by
  refine ⟨fun pins s σ H Q I h => ?_⟩
  refine attr_of hb (ld_glob I hg R.mg ?_ hdb)
  exact PySem.W.cls_value I.kIn R.rd vv hh ⟨v, H, I.tok _, rv, h⟩
/-- str(o) by the own __str__ -/
def rStrO (C : Addr) (sp : Sp) (E : XK) : List V → Hp → VK → Prop := fun xs H Q => ∃ p, xs = [.ref p] ∧ Own H p C ∧ sp [.ref p] H (fun v H' => ∃ z, v = .str z ∧ Q (.str z) H') E
theorem call_strO (D : Mm X.prog X.w X.K X.mg X.base CX C k "__str__" ps sp) (hr : Room j X.A) (hx : Passes CX X E) (hk : k + 2 ≤ j := by decide) : CallR X (.type "str") (rStrO C sp E) := by
  intro pins s σ H xs us Q I r h
  obtain ⟨p, rfl, hp, hs⟩ := h
  cases r with
  | @cons _ u _ ur r1 r2 =>
    cases r2
    obtain rfl : u = Value.ref p := r1
    obtain ⟨f, fd, F, mf, b⟩ := D.ex
    obtain ⟨dx, od, J⟩ := own_inst I hp
    have hr2 : Room (k + 2) X.A := hr.mono hk
    have hl := F.len _ _ _ _ hs
    refine PySem.W.kso_call hr2.in1.in1.units0 I.kIn J mf.at_ mf.fn ?_
    refine wpAny_call (codeAny_mono (F.run X.A.in1.in1 X.stack s H ⟨[.ref p], []⟩ [.ref p] [.ref p] _ E hr2.in1.in1 I.env0.in1.in1 (by
      have q := b s [.ref p] I.kIn (by rw [List.append_nil]; exact hl)
      rwa [List.append_nil] at q) (.cons rfl .nil) hs) fun r s' hq => ?_)
    cases r with
    | error e => exact hx pins σ H s e s' I hq
    | ok fl =>
      cases fl with
      | ret u =>
        obtain ⟨v, H', I', rv, z, rfl, q⟩ := I.after hq
        obtain ⟨t, rfl⟩ := (show ∃ t, u = Value.str z t from rv)
        exact ⟨.str z, H', I', ⟨t, rfl⟩, q⟩
      | next => exact False.elim hq
      | brk => exact False.elim hq
      | cont => exact False.elim hq
/-- what the right side of an == may be: one of a class, or a tuple -/
def tyLook (h : Heap) (u : Value) (t : Value) : Prop := ∀ M : Model, PySem.W.Looks M h (typeOf u) t
/-- x == y by the own __eq__ of x, y of a type that is not below it -/
def rEqO (K : PySem.W.Frag) (C : Addr) (sp : Sp) (E : XK) : R2 := fun x y H Q => ∃ p, x = .ref p ∧ Own H p C ∧
  ((∃ q D, y = .ref q ∧ Own H q D ∧ PySem.W.notFirst K C (.ref D) = true) ∨ (∃ q xs, y = .ref q ∧ SqT K H q xs ∧ PySem.W.notFirst K C (.type "tuple") = true)) ∧ sp [.ref p, y] H (fun v H' => ∃ b, v = .bl b ∧ Q (.bl b) H') E
theorem tup_look {M : Model} {h : Heap} {a : Addr} {items : Array Value} (t : PyProof.Rows.IsTup h a items) : PySem.W.Looks M h (typeOf (.ref a)) (.type "tuple") := by
  obtain ⟨o, ho, hc, _⟩ := t
  exact hc ▸ (PySem.W.Looks.ld ho).andThen .now
theorem op_eqO (D : Mm X.prog X.w X.K X.mg X.base CX C k "__eq__" ps sp) (hr : Room j X.A) (hx : Passes CX X E) (hk : k ≤ j := by decide) : OpR X (compareOp .Eq) (rEqO X.K C sp E) := by
  intro pins s σ H x y v u Q I rx ry h
  obtain ⟨p, rfl, hp, hy, hs⟩ := h
  obtain rfl : v = Value.ref p := rx
  obtain ⟨f, fd, F, mf, b⟩ := D.ex
  obtain ⟨dx, od, J⟩ := own_inst I hp
  obtain ⟨m', fr⟩ := inv_fr I
  have look : ∃ t, PySem.W.Looks (model X.prog X.w) s.heap (typeOf u) t ∧ PySem.W.notFirst X.K C t = true := by
    rcases hy with ⟨q, D, rfl, hq, nf⟩ | ⟨q, xs, rfl, hq, nf⟩
    · obtain rfl : u = Value.ref q := ry
      obtain ⟨dy, oe, J2⟩ := own_inst I hq
      exact ⟨_, J2.type, nf⟩
    · obtain rfl : u = Value.ref q := ry
      obtain ⟨its, r, ht, hz⟩ := I.tuple hq
      exact ⟨_, tup_look ht, nf⟩
  obtain ⟨t, lt, nf⟩ := look
  show wpAny (model X.prog X.w) X.A (richCompare .Eq (.ref p) u) (EP X pins σ Q) X.xe s
  refine PySem.W.cmp_K (op := .Eq) (tb := t) hr.units0 fr I.ok.mod.kin J lt nf mf.at_ mf.fn (wpAny_mono (run_fn (us := [.ref p, u]) (vs := [.ref p, y]) F (hr.mono hk) b .nil hx I (.cons rfl (.cons ry .nil)) hs) (fun r s' hz => ?_) fun _ _ z => z)
  obtain ⟨z, H', I', rz, c, rfl, q⟩ := hz
  obtain rfl : r = Value.bool c := rz
  exact ⟨.bl c, H', I', rfl, q⟩
end
end Ss
namespace PySem
namespace SsE
open PySem.W PySem.Calls PyProof.Rows PySem.HandSPX
section
variable {M : Model} {A : Around} {E : Value → Shared → Prop} {h : Heap} {g : Array GenState} {d : Drawn} {t : Nat} {os : OsState}
variable {nm q : Str} {C N : Addr} {bs bm bmB : List Value} {hdct : Bool} {sn : List Str} {sub : List Value} {ab : Bool} {col : Option Bool} {dd : Option Addr} {k0 k1 k2 k3 k5 : Option Value} {B newId initId : String}
/-- the look ahead of the maker, with keywords -/
theorem new_look (F : ExcBaseFacts B newId initId bmB) (hT : ∀ X : String, bm.contains (.type X) = bmB.contains (.type X)) {rest : List Value} {kw : List (Str × Value)} {Q : Unit → Shared → Prop}
    (hC : h.get? C = some (excClassObj nm q C N bs bm hdct sn sub ab col dd k0 k1 k2 k3 k5 newId)) (hq : Q () ⟨h, g, d, t, os⟩) : wpAny M A (checkBuiltinCall newId ⟨.ref C :: rest, kw⟩) Q E ⟨h, g, d, t, os⟩ := by
  have e1 : (Value.ref C :: bm).contains (.type B) = true := by rw [List.contains_cons, hT, F.hasB, Bool.or_true]
  have e2 := F.noStar
  simp only [checkBuiltinCall, F.newKind, F.newSplit, F.newRow]
  repeat (first | refine wpAny_loadPart_at hC ?_ | (refine wpAny_isSubtype_exc hC ?_; rw [e1]) | refine wpAny_staticBase_exc hC ?_ | refine wpAny_madeBy_exc hC ?_ | simp only [bne_self_eq_false, Bool.false_eq_true, if_false] | wp_step)
  exact hq
end
section
variable {prog : Program} {w : World} {A : Around} {E : Value → Shared → Prop} {R : Result → Shared → Prop} {h : Heap} {g : Array GenState} {d : Drawn} {t : Nat} {os : OsState}
variable {nm q : Str} {C N : Addr} {bs bm bmB : List Value} {hdct : Bool} {sn : List Str} {sub : List Value} {ab : Bool} {col : Option Bool} {dd : Option Addr} {k0 k1 k2 k3 k5 : Option Value} {B newId initId : String}
theorem new_kw (F : ExcBaseFacts B newId initId bmB) (hT : ∀ X : String, bm.contains (.type X) = bmB.contains (.type X)) {rest : List Value} {kw : List (Str × Value)}
    (hC : h.get? C = some (excClassObj nm q C N bs bm hdct sn sub ab col dd k0 k1 k2 k3 k5 newId))
    (hq : R (.ok (.ret (.ref (h.objs.size + 1)))) ⟨(h.push (W.kdv_tup rest)).push (excO C h.objs.size), g, d, t, os⟩) (hrest : rest.length ≤ sizeLine) :
    codeAny (model prog w) A (.builtin newId ⟨.ref C :: rest, kw⟩) R ⟨h, g, d, t, os⟩ := by
  have e0 := F.ends
  have e1 : (Value.ref C :: bm).contains (.type B) = true := by rw [List.contains_cons, hT, F.hasB, Bool.or_true]
  have e2 : (Value.ref C :: bm).contains (.type "AttributeError") = false := by rw [List.contains_cons, hT, F.noAttr]; rfl
  have e3 : (Value.ref C :: bm).contains (.type "NameError") = false := by rw [List.contains_cons, hT, F.noName]; rfl
  refine codeAny_builtinAt F.entry ?_
  unfold Builtin.«BaseException.__new__»
  refine wpAt_bind ?_
  show wpAt _ _ _ (stack >>= _) _ _ _
  refine wpAt_bind (wpAt_stack fun p below => wpAt_of_wpAny ?_)
  wp_walk
  refine wpAt_of_wpAny ?_
  rw [F.owner]
  repeat (first | with_reducible refine wpAny_madeHere_exc F.canon hC ?_ | with_reducible refine wpAny_loadPart_at hC ?_ | (with_reducible refine wpAny_isSubtype_exc hC ?_; first | rw [e1] | rw [e2] | rw [e3]) | wp_step)
  show R _ _
  rw [Heap.size_push]
  exact hq
theorem type_call_kw (F : ExcBaseFacts B newId initId bmB) (hT : ∀ X : String, bm.contains (.type X) = bmB.contains (.type X)) {rest : List Value} {kw : List (Str × Value)} {fI : Addr} {Q : Fin → Shared → Prop}
    (hC : h.get? C = some (excClassObj nm q C N bs bm hdct sn sub ab col dd k0 k1 k2 k3 k5 newId))
    (hi : W.Looks (model prog w) h (typeLookup (.ref C) "__init__") (some (.ref fI))) (hb : ∀ self, W.Looks (model prog w) h (bindSpecial (.ref fI) self) (.ref fI, [self])) (hrest : rest.length ≤ sizeLine)
    (hq : codeAny (model prog w) A (.call (.ref fI) ⟨.ref (h.objs.size + 1) :: rest, kw⟩)
      (fun r s' => match r with | .ok (.ret v) => v = .none ∧ Q (.done (.ret (.ref (h.objs.size + 1)))) s' | .ok _ => False | .error e => E e s')
      ⟨(h.push (W.kdv_tup rest)).push (excO C h.objs.size), g, d, t, os⟩) :
    wpAny (model prog w) A (Builtin.«type.__call__» ⟨.ref C :: rest, kw⟩) Q E ⟨h, g, d, t, os⟩ := by
  repeat (first | with_reducible refine wpAny_loadPart_at hC ?_ | with_reducible refine wpAny_madeBy_exc hC ?_ | wp_step)
  refine codeAny_call_builtin_code (Code.quiet_builtin _ F.quiet) (new_look F hT hC ?_)
  refine new_kw F hT hC ?_ hrest
  show wpAny _ _ _ _ _ _
  have k : ∀ b o, h.get? b = some o → ((h.push (W.kdv_tup rest)).push (excO C h.objs.size)).get? b = some o := fun b o e => Heap.get?_push_of_some _ (Heap.get?_push_of_some _ e)
  have c1 := k _ _ hC
  have hget : ((h.push (W.kdv_tup rest)).push (excO C h.objs.size)).get? (h.objs.size + 1) = some (excO C h.objs.size) := by heap_get
  have c2 : (Value.ref C :: bm).contains (.ref C) = true := by simp
  have i1 := hi.keeps k
  have b1 := (hb (.ref (h.objs.size + 1))).keeps k
  unfold isInstance
  repeat (first | with_reducible refine wpAny_loadPart_at hget ?_ | (with_reducible refine wpAny_isSubtype_exc c1 ?_; rw [c2]) | wp_step)
  show wpAny _ _ (typeLookup (.ref C) _) _ _ _
  refine i1.at ?_
  refine wpAny_holding (wpAny_bind (b1.at ?_))
  refine wpAny_bind (wpAny_call (codeAny_mono hq fun r s' z => ?_))
  rcases r with e | (v | _ | _ | _) <;> first | exact z | exact z.elim | skip
  obtain ⟨rfl, z⟩ := z
  first
    | exact wpAny_pure (wpAny_pure z)
    | (wp_walk; exact z)
theorem call_kw (F : ExcBaseFacts B newId initId bmB) (hT : ∀ X : String, bm.contains (.type X) = bmB.contains (.type X)) {rest : List Value} {kw : List (Str × Value)} {fI : Addr}
    (hC : h.get? C = some (excClassObj nm q C N bs bm hdct sn sub ab col dd k0 k1 k2 k3 k5 newId))
    (hi : W.Looks (model prog w) h (typeLookup (.ref C) "__init__") (some (.ref fI))) (hb : ∀ self, W.Looks (model prog w) h (bindSpecial (.ref fI) self) (.ref fI, [self])) (hrest : rest.length ≤ sizeLine)
    (hq : codeAny (model prog w) (A.under (.builtin "type.__call__" ⟨.ref C :: rest, kw⟩)) (.call (.ref fI) ⟨.ref (h.objs.size + 1) :: rest, kw⟩) (W.InitBack (h.objs.size + 1) R)
      ⟨(h.push (W.kdv_tup rest)).push (excO C h.objs.size), g, d, t, os⟩) :
    codeAny (model prog w) A (.call (.ref C) ⟨rest, kw⟩) R ⟨h, g, d, t, os⟩ := by
  have f1 := tc_lookup
  have f2 := tc_bind (.ref C)
  have hTy : (⟨h, g, d, t, os⟩ : Shared).TypeIs (.ref C) "type" := ⟨_, hC, rfl⟩
  refine codeAny_of_tree ?_
  show wpAny _ _ (callAny (.ref C) _) _ _ _
  repeat (any_goals (first | assumption | with_reducible refine wpAny_loadPart_at hC ?_ | wp_step))
  refine ⟨rfl, ?_⟩
  refine codeAny_call_builtin_at (Code.quiet_builtin _ (by decide +kernel)) entry_typeCall (wpAny_check_type_call_sub hC (type_call_kw F hT hC hi hb hrest ?_))
  refine codeAny_mono hq fun r s' z => ?_
  rcases r with e | (v | _ | _ | _) <;> exact z
end
end SsE
end PySem
namespace PySem
namespace SsE
open PySem.W PySem.Calls PyProof.Rows PySem.HandSPX
/-- what is asked of the order of an error's classes -/
structure Order (l : List Value) : Prop where
  pass : ∀ self, refuseLoop self "__setattr__" l = pure ()
  obj : l.contains (.type "object") = true
  ne : l.isEmpty = false
theorem Order.cons {l : List Value} (o : Order l) (C : Addr) : Order (.ref C :: l) :=
  ⟨fun self => by rw [refuseLoop_ref]; exact o.pass self, by rw [List.contains_cons, o.obj, Bool.or_true], rfl⟩
theorem order_VE : Order [.type "ValueError", .type "Exception", .type "BaseException", .type "object"] := ⟨F.store_ValueError.passes, by decide +kernel, rfl⟩
theorem order_LE : Order [.type "LookupError", .type "Exception", .type "BaseException", .type "object"] := ⟨F.store_LookupError.passes, by decide +kernel, rfl⟩
theorem order_RE : Order [.type "RuntimeError", .type "Exception", .type "BaseException", .type "object"] := ⟨F.store_RuntimeError.passes, by decide +kernel, rfl⟩
section
open Builtin Builtin.ObjectAttr
variable {prog : Program} {w : World} {A : Around} {R : Result → Shared → Prop} {hp : Heap} {g : Array GenState} {d : Drawn} {t : Nat} {os : OsState}
/-- the first field of an error -/
theorem osa_first {K : Frag} {name : Str} {tk : Tok} {v : Value} {x C : Addr} {fv : Array Value} {cd : ClassData}
    (X : K.In hp) (hx : hp.get? x = some { cls := .ref C, data := .fields fv }) (hcd : clsIn K C = some cd) (hm : Order cd.mro) (hh : cd.hasDict = true) (ha : findIn K (.ref C) name = some none)
    (hq : ∀ h' tk' dx, (∀ b o, b ≠ x → hp.get? b = some o → h'.get? b = some o) → hp.objs.size ≤ dx → dx ≠ x → h'.get? x = some { cls := .ref C, dict := some dx, data := .fields fv } →
      h'.Ns1 dx (fun y => if y = name then some v else none) → R (.ok (.ret .none)) ⟨h', g, d, tk', os⟩) :
    codeAny (model prog w) A (.call (.builtin "object.__setattr__") ⟨[.ref x, .str name tk, v], []⟩) R ⟨hp, g, d, t, os⟩ := by
  have I : InstAt hp x { cls := .ref C, data := .fields fv } C none := ⟨hx, rfl, rfl, trivial⟩
  have SF := F.store_object
  have hxs : x ≠ hp.objs.size := Nat.ne_of_lt (Heap.lt_size hx)
  have sub : Looks (model prog w) hp (isInstance (.ref x) (.type "object")) true := I.type.andThen (looks_mroIn X (by unfold mroIn; rw [hcd, Option.bind_some, if_neg (by rw [hm.ne]; decide), hm.obj]))
  refine codeAny_call_builtin SF.slot.plain SF.entry (@check_slot (model prog w) _ _ ⟨hp, g, d, t, os⟩ "object.__setattr__" "object" "__setattr__" (.ref x) [.str name tk, v] [] _ SF.kind SF.split sub (SF.args (.ref x) (.str name tk) v) ?_)
  have hmr : Looks (model prog w) hp (mroOf (.ref C)) cd.mro := (looks_clsIn X hcd).andThen .now
  have l3 : Looks (model prog w) hp (storeTaker? none) none := .now
  have hcls : Looks (model prog w) hp (classData C) cd := looks_clsIn X hcd
  rw [osa_eq, refuse_eq]
  refine wpAny_bind (wpAny_bind (I.type.at (wpAny_bind (hmr.at ?_))))
  rw [hm.pass]
  refine wpAny_pure (wpAny_bind (I.type.at (wpAny_bind ((looks_findIn X ha).at (wpAny_bind (l3.at ?_))))))
  show wpAny _ _ (storeInOwnDict (.ref x) (.ref C) (.str name tk) name v false) _ _ _
  obtain ⟨nm, bs, mro, ns, qn, hd, sn, sb, ab, col, del⟩ := cd
  dsimp only at hh
  subst hh
  unfold storeInOwnDict ownDictForStores
  repeat (first | with_reducible refine store_in_new ?_ ?_ | with_reducible refine wpAny_loadPart_at hx ?_ | with_reducible refine hcls.at ?_ | wp_step)
  · exact ⟨_, #[], _, (Heap.get?_update_ne _ _ _ _ hxs.symm).trans (Heap.get?_push_at rfl rfl), rfl, fun e he => absurd he (by simp), fun _ => rfl⟩
  · intro h' tk' hn' hs
    have hx1 : (hp.push { cls := .type "dict", data := .dict #[] }).get? x = some { cls := .ref C, data := .fields fv } := Heap.get?_push_of_some _ hx
    refine hq h' tk' hp.objs.size (fun b o hb ho => ?_) (Nat.le_refl _) hxs.symm ?_ hn'
    · exact (hs.2 b (Nat.ne_of_lt (Heap.lt_size ho))).trans ((Heap.get?_update_ne _ _ _ _ hb).trans (Heap.get?_push_of_some _ ho))
    · exact (hs.2 x hxs).trans (Heap.get?_update_self _ hx1 rfl)
/-- a further field -/
theorem osa_more {K : Frag} {name : Str} {tk : Tok} {v : Value} {x C dx : Addr} {fv : Array Value} {cd : ClassData} {m0 : Str → Option Value} {nl : List Str}
    (X : K.In hp) (hx : hp.get? x = some { cls := .ref C, dict := some dx, data := .fields fv }) (hns : hp.Ns1 dx m0) (hw : Within m0 nl) (hz : nl.length ≤ 1000) (hcd : clsIn K C = some cd) (hm : Order cd.mro) (hh : cd.hasDict = true)
    (ha : findIn K (.ref C) name = some none)
    (hq : ∀ h' tk', (∀ b o, b ≠ dx → hp.get? b = some o → h'.get? b = some o) → h'.Ns1 dx (fun y => if y = name then some v else m0 y) → R (.ok (.ret .none)) ⟨h', g, d, tk', os⟩) :
    codeAny (model prog w) A (.call (.builtin "object.__setattr__") ⟨[.ref x, .str name tk, v], []⟩) R ⟨hp, g, d, t, os⟩ := by
  obtain ⟨oD, esD, epD, hoD, hdD, _⟩ := hns.count hw
  have I : InstAt hp x { cls := .ref C, dict := some dx, data := .fields fv } C (some oD) := ⟨hx, rfl, rfl, hoD⟩
  have SF := F.store_object
  have sub : Looks (model prog w) hp (isInstance (.ref x) (.type "object")) true := I.type.andThen (looks_mroIn X (by unfold mroIn; rw [hcd, Option.bind_some, if_neg (by rw [hm.ne]; decide), hm.obj]))
  refine codeAny_call_builtin SF.slot.plain SF.entry (@check_slot (model prog w) _ _ ⟨hp, g, d, t, os⟩ "object.__setattr__" "object" "__setattr__" (.ref x) [.str name tk, v] [] _ SF.kind SF.split sub (SF.args (.ref x) (.str name tk) v) ?_)
  have hmr : Looks (model prog w) hp (mroOf (.ref C)) cd.mro := (looks_clsIn X hcd).andThen .now
  have l3 : Looks (model prog w) hp (storeTaker? none) none := .now
  have hcls : Looks (model prog w) hp (classData C) cd := looks_clsIn X hcd
  rw [osa_eq, refuse_eq]
  refine wpAny_bind (wpAny_bind (I.type.at (wpAny_bind (hmr.at ?_))))
  rw [hm.pass]
  refine wpAny_pure (wpAny_bind (I.type.at (wpAny_bind ((looks_findIn X ha).at (wpAny_bind (l3.at ?_))))))
  show wpAny _ _ (storeInOwnDict (.ref x) (.ref C) (.str name tk) name v false) _ _ _
  obtain ⟨nm, bs, mro, ns, qn, hd, sn, sb, ab, col, del⟩ := cd
  dsimp only at hh
  subst hh
  unfold storeInOwnDict ownDictForStores
  repeat (first | with_reducible refine OEX.store_in_old hns hw hz ?_ | with_reducible refine wpAny_loadPart_at hx ?_ | with_reducible refine hcls.at ?_ | wp_step)
  intro h' tk' hn' hs
  exact hq h' tk' (fun b o hb ho => (hs.2 b hb).trans ho) hn'
end
end SsE
end PySem
namespace Ss
open PySem L2 PySem.Spec PyProof.Rows
/-- an error class of the text at C; its built-in base's __init__ is ini -/
structure EC (K : PySem.W.Frag) (C : Addr) (ini : String) : Prop where
  cls : ∃ B newId bmB nm q N bs bm sn sub ab col dd k0 k1 k2 k3 k5, ExcBaseFacts B newId ini bmB ∧ K.lookup C = some (excClassObj nm q C N bs bm true sn sub ab col dd k0 k1 k2 k3 k5 newId) ∧
    (∀ Y : String, bm.contains (.type Y) = bmB.contains (.type Y)) ∧ SsE.Order bm
  sa : PySem.W.findIn K (.ref C) "__setattr__" = some (some (.builtin "object.__setattr__"))
  ga : PySem.W.findIn K (.ref C) "__getattribute__" = some (some (.builtin "BaseException.__getattribute__"))
  gg : PySem.W.findIn K (.ref C) "__getattr__" = some none
  exC : PySem.W.subIn K (.ref C) (.type "BaseException") = some true
  tyC : PySem.W.typeIn K (.ref C) = some (.type "type")
  hdC : PySem.W.hasDictIn K C = true
  kC : PySem.W.keepIn K (.ref C) = true
  ha : PySem.W.findIn K (.ref C) "__class__" = some (some (.builtin "object.__class__"))
  hn : PySem.W.specialIn K (.builtin "object.__class__") "__get__" = some (some (.builtin "getset_descriptor.__get__"))
  ht : PySem.W.takesIn K (.builtin "object.__class__") = some true
  hm : PySem.W.mroIn K C (.type "object") = some true
section
variable {X : Cx} {pins : List (Addr × Obj)} {σ : L2.St} {H : Hp} {s : Shared} {a C dx : Addr} {f : Str} {y : V} {u : Value} {fs : List (Str × V)} {A : Around} {ini : String}
/-- self.f = y, the first one -/
theorem est_new {Q : Unit → Shared → Prop} {E : Value → Shared → Prop} (T : EC X.K C ini) (I : Inv X pins σ H s) (e : H a = some (exo a C none)) (hno : PySem.W.findIn X.K (.ref C) f = some none) (ry : RelV y u)
    (h : ∀ dx s', H dx = none → dx ≠ a → Inv X pins σ (upd (upd H dx (exd dx [(f, y)])) a (exo a C (some dx))) s' → Q () s') : wpAny (model X.prog X.w) A (setAttr (.ref a) f u) Q E s := by
  obtain ⟨B, newId, bmB, nm, q, N, bs, bm, sn, sub, ab, col, dd, k0, k1, k2, k3, k5, F, hC, hT, hbm⟩ := T.cls
  have hcl : PySem.W.clsIn X.K C = some { name := nm, bases := bs, mro := .ref C :: bm, ns := N, qualname := q, hasDict := true, slotNames := sn, subclasses := sub, abstract := ab, collection := col, hasDel := false } := by unfold PySem.W.clsIn; rw [hC] <;> rfl
  obtain ⟨t1, ho⟩ := exo_at I.hok e
  obtain ⟨hp, g, d, t, os⟩ := s
  refine PySem.W.set_plain I.kIn (ox := { cls := .ref C, dict := none, data := .fields #[.ref t1, .none, .none, .none, .bool false, .none] }) (od := none) ⟨ho, rfl, rfl, trivial⟩ T.sa ?_
  refine SsE.osa_first I.kIn ho hcl (hbm.cons C) rfl hno (fun h' tk' dx k dn dne hx hn => ?_)
  have hnd : H dx = none := I.hok.fresh dn
  have nd : ∀ {b : Addr} {o : Obj}, hp.get? b = some o → b ≠ dx := fun {b o} q => Nat.ne_of_lt (Nat.lt_of_lt_of_le (Heap.lt_size q) dn)
  have na : ∀ {b : Addr}, H b = none → b ≠ a := fun {b} n z => by
    rw [z, e] at n
    cases n
  have Un1 : Un X.fs [] H (upd (upd H dx (exd dx [(f, y)])) a (exo a C (some dx))) hp h' := {
    keep := fun b o q n _ _ => k b o (na n) q
    slot := fun b o q n _ _ => ⟨o.slots, k b o (na n) q⟩
    free := fun b o q n _ => by rw [upd_ne (na n), upd_ne (nd q)]; exact n
    there := fun b o q _ => by
      by_cases hb : b = a
      · exact ⟨_, by rw [hb]; exact hx⟩
      · exact ⟨o, k b o hb q⟩
    tups := fun b xs q => by rw [upd_ne (at_ne e q exo_tup), upd_ne (ne_of_none q hnd)]; exact q
    frzs := fun b o v q => by rw [upd_ne (at_ne e q exo_frz), upd_ne (ne_of_none q hnd)]; exact q
    tbls := fun b ps q => ⟨#[], by rw [upd_ne (at_ne e q exo_tbl), upd_ne (ne_of_none q hnd), q]; simp⟩ }
  refine h dx _ hnd dne (I.un (t' := tk') Un1 fun b o q => ?_)
  by_cases hb : b = a
  · subst hb
    rw [upd_same] at q
    cases q
    exact exo_ok hx
  · rw [upd_ne hb] at q
    by_cases hd : b = dx
    · subst hd
      rw [upd_same] at q
      cases q
      exact exd_ok hn (relO_put (fs := []) ry fun g => True.intro)
    · rw [upd_ne hd] at q
      exact (I.hok b o q).stay (fun c v hc z => k c v (by
          rcases hc with hc | hc
          · rw [hc]
            exact hb
          · exact at_ne e hc exo_own) z)
        (fun c hc => by rw [upd_ne (at_ne e hc exo_own), upd_ne (ne_of_none hc hnd)]; exact hc) (fun c xs hc => by rw [upd_ne (at_ne e hc exo_tup), upd_ne (ne_of_none hc hnd)]; exact hc)
/-- self.f = y, a further one -/
theorem est_old {Q : Unit → Shared → Prop} {E : Value → Shared → Prop} (T : EC X.K C ini) (I : Inv X pins σ H s) (e : H a = some (exo a C (some dx))) (ed : H dx = some (exd dx fs)) (hl : fs.length ≤ 900) (hno : PySem.W.findIn X.K (.ref C) f = some none) (ry : RelV y u)
    (h : ∀ s', Inv X pins σ (upd H dx (exd dx ((f, y) :: fs))) s' → Q () s') : wpAny (model X.prog X.w) A (setAttr (.ref a) f u) Q E s := by
  obtain ⟨B, newId, bmB, nm, q, N, bs, bm, sn, sub, ab, col, dd, k0, k1, k2, k3, k5, F, hC, hT, hbm⟩ := T.cls
  have hcl : PySem.W.clsIn X.K C = some { name := nm, bases := bs, mro := .ref C :: bm, ns := N, qualname := q, hasDict := true, slotNames := sn, subclasses := sub, abstract := ab, collection := col, hasDel := false } := by unfold PySem.W.clsIn; rw [hC] <;> rfl
  obtain ⟨t1, ho⟩ := exo_at I.hok e
  obtain ⟨mA, hns, rel⟩ := exd_at I.hok ed
  have hw := within_of rel
  obtain ⟨hp, g, d, t, os⟩ := s
  obtain ⟨oD, _, _, hoD, _, _⟩ := hns.count hw
  refine PySem.W.set_plain I.kIn (ox := { cls := .ref C, dict := some dx, data := .fields #[.ref t1, .none, .none, .none, .bool false, .none] }) (od := some oD) ⟨ho, rfl, rfl, hoD⟩ T.sa ?_
  refine SsE.osa_more I.kIn ho hns hw (by rw [List.length_map]; omega) hcl (hbm.cons C) rfl hno (fun h' tk' k hn => ?_)
  have hd : ∃ o, h'.get? dx = some o := by
    obtain ⟨o, _, _, e', _⟩ := hn
    exact ⟨o, e'⟩
  exact h _ (I.write (t' := tk') (x := dx) (e := dx) (o := exd dx ((f, y) :: fs)) (by rw [ed]; exact True.intro) (.inl rfl) k hd (exd_ok hn (relO_put ry rel)))
/-- the base's __init__ of an error that is being made: nothing of it is told -/
theorem einit_ok {us : List Value} {Q : Value → Shared → Prop} {E : Value → Shared → Prop} (T : EC X.K C ini) (I : Inv X pins σ H s) (e : H a = some (exo a C none)) (hl : us.length ≤ sizeLine) (h : ∀ s', Inv X pins σ H s' → Q .none s') :
    wpAny (model X.prog X.w) A (call (.builtin ini) (.ref a :: us)) Q E s := by
  obtain ⟨B, newId, bmB, nm, q, N, bs, bm, sn, sub, ab, col, dd, k0, k1, k2, k3, k5, F, hC, hT, hbm⟩ := T.cls
  obtain ⟨t1, ho⟩ := exo_at I.hok e
  obtain ⟨hp, g, d, t, os⟩ := s
  refine wpAny_call (PySem.HandSPX.init_base F hT (I.kIn _ _ hC) ho hl fun h' t2 k hx => ?_)
  have J := I.write (t' := t) (x := a) (e := a) (o := exo a C none) (by rw [e]; exact True.intro) (.inl rfl) k ⟨_, hx⟩ (exo_ok hx)
  have eu : upd H a (exo a C none) = H := by
    funext b
    by_cases hb : b = a
    · rw [hb, upd_same, e]
    · rw [upd_ne hb]
  rw [eu] at J
  exact h _ J
end
/-- base.__init__(self, ..) -/
def tEI (K : PySem.W.Frag) (ini : String) (ta : TA) : TE := fun σ H Q => ta σ H fun vs H1 => ∃ (a C : Addr) (ws : List V), vs = .ref a :: ws ∧ ws.length ≤ 1000 ∧ EC K C ini ∧ H1 a = some (exo a C none) ∧ Q .non H1
/-- self.f = e -/
def tEst (K : PySem.W.Frag) (ini : String) (f : Str) (to te : TE) : TS := fun D σ H => te σ H fun y H1 => to σ H1 fun x H2 => ∃ a C : Addr, x = .ref a ∧ EC K C ini ∧ PySem.W.findIn K (.ref C) f = some none ∧
  ((H2 a = some (exo a C none) ∧ ∀ dx, H2 dx = none → dx ≠ a → D.nx σ (upd (upd H2 dx (exd dx [(f, y)])) a (exo a C (some dx)))) ∨
    ∃ (dx : Addr) (fs : List (Str × V)), H2 a = some (exo a C (some dx)) ∧ H2 dx = some (exd dx fs) ∧ fs.length ≤ 900 ∧ D.nx σ (upd H2 dx (exd dx ((f, y) :: fs))))
section
variable {X : Cx} {o e : Expr} {es : List Expr} {to te : TE} {ta tk : TA} {f x : Str} {p p' p1 p2 pos : Pos} {ini : String}
/-- base.__init__(self, ..), base a class of the text -/
theorem pe_einitO {pl : Sem Bool} {S : Addr} (hg : Gl X x) (hm : X.mg x = some (.ref S)) (rd : PySem.W.readsIn X.K S (.type "type") = true) (ga : PySem.W.specialIn X.K (.ref S) "__getattribute__" = some (some (.builtin "type.__getattribute__")))
    (vV : PySem.W.findCls X.K (.ref S) (.type "type") "__init__" = some (.val (.builtin ini))) (hh : PySem.W.handedIn (.builtin ini) = true) (ha : PA X (e :: es) ta) (hdb : (x == ("__debug__" : Str)) = false := by decide)
    (hc : eval (.Call (.Attribute (.Name x p1) "__init__" p2) (e :: es) [] pos) X.env = (do
      let ov ← eval (.Name x p1) X.env
      standAt p2.atName
      let (f, first) ← holding [ov] (getMethod ov "__init__" pl)
      callWith pos f first (backTo pos (starEach (e :: es) X.env)) (backToKw pos (keywordEach [] X.env))) := by rfl)
    (he : starEach (e :: es) X.env = (false, eval e X.env) :: starEach es X.env := by rfl) (hpl : (backTo pos (starEach es X.env)).any (·.1) = false := by rfl) :
    PE X (.Call (.Attribute (.Name x p1) "__init__" p2) (e :: es) [] pos) (tEI X.K ini ta) := by
  refine ⟨fun pins s σ H Q I h => ?_⟩
  refine PySem.W.methodCall_KW (ld_glob I hg hm ?_ hdb) hc
  refine PySem.W.method_cls I.kIn ga (PySem.W.cls_value I.kIn rd vV hh ?_)
  show wpAny _ _ (callWith pos (Value.builtin ini) [] (backTo pos (starEach (e :: es) X.env)) []) _ _ _
  refine PyProof.Rows.callWith_method1 (thn (ha.run pos pins _ σ H _ (I.tok _) h) fun us s1 ⟨vs, H1, I1, r1, a, C, ws, ev, hl, T, ea, q⟩ => ?_) he hpl
  subst ev
  cases r1 with
  | @cons _ u0 _ ur ra rw' =>
    obtain rfl : u0 = Value.ref a := ra
    have hlen : ur.length ≤ sizeLine := by
      rw [← Paired.length rw', sizeLine_eq]
      omega
    exact einit_ok T I1 ea hlen fun s' J => ⟨.non, H1, J, rfl, q⟩
/-- .., base a built-in class -/
theorem pe_einitB {pl : Sem Bool} {B : String} (hg : Gl X x) (hm : X.mg x = none) (hv : bootBuiltins x = some (.type B)) (ty : typeOf (.type B) = pure (.type "type")) (hs : Manifest.isStub B = false)
    (vV : PySem.W.findCls X.K (.type B) (.type "type") "__init__" = some (.val (.builtin ini))) (hh : PySem.W.handedIn (.builtin ini) = true) (ha : PA X (e :: es) ta) (hn : x ≠ "__name__" := by decide) (hdb : (x == ("__debug__" : Str)) = false := by decide)
    (hc : eval (.Call (.Attribute (.Name x p1) "__init__" p2) (e :: es) [] pos) X.env = (do
      let ov ← eval (.Name x p1) X.env
      standAt p2.atName
      let (f, first) ← holding [ov] (getMethod ov "__init__" pl)
      callWith pos f first (backTo pos (starEach (e :: es) X.env)) (backToKw pos (keywordEach [] X.env))) := by rfl)
    (he : starEach (e :: es) X.env = (false, eval e X.env) :: starEach es X.env := by rfl) (hpl : (backTo pos (starEach es X.env)).any (·.1) = false := by rfl) :
    PE X (.Call (.Attribute (.Name x p1) "__init__" p2) (e :: es) [] pos) (tEI X.K ini ta) := by
  refine ⟨fun pins s σ H Q I h => ?_⟩
  refine PySem.W.methodCall_KW (ld_blt I hg hm hv ?_ hn hdb) hc
  obtain ⟨m, fr⟩ := I.fr
  refine PySem.W.method_type fr I.ok.mod.kin ty hs vV hh ?_
  show wpAny _ _ (callWith pos (Value.builtin ini) [] (backTo pos (starEach (e :: es) X.env)) []) _ _ _
  refine PyProof.Rows.callWith_method1 (thn (ha.run pos pins _ σ H _ (I.tok _) h) fun us s1 ⟨vs, H1, I1, r1, a, C, ws, ev, hl, T, ea, q⟩ => ?_) he hpl
  subst ev
  cases r1 with
  | @cons _ u0 _ ur ra rw' =>
    obtain rfl : u0 = Value.ref a := ra
    have hlen : ur.length ≤ sizeLine := by
      rw [← Paired.length rw', sizeLine_eq]
      omega
    exact einit_ok T I1 ea hlen fun s' J => ⟨.non, H1, J, rfl, q⟩
theorem ps_est (ini : String) (ho : PE X o to) (he : PE X e te) (hs : swapsWith e (some (.Attribute o f p')) pos.line X.env = pure false := by rfl) : PS X (.Assign [.Attribute o f p'] e pos) (tEst X.K ini f to te) := by
  refine ⟨fun pins s σ H D I h => ?_⟩
  refine plainObj_wpAny_Assign_Attribute (thn (he.run pins s σ H _ I h) fun v s1 ⟨y, H1, I1, r1, q1⟩ => thn (ho.run pins s1 σ H1 _ I1 q1) fun u s2 ⟨x, H2, I2, r2, a, C, ex, T, hno, q⟩ => ?_) hs
  subst ex
  obtain rfl : u = Value.ref a := r2
  rcases q with ⟨ea, q⟩ | ⟨dx, fs, ea, ed, hl, q⟩
  · exact est_new T I2 ea hno r1 fun dx s' n ne J => ⟨σ, _, J, q dx n ne⟩
  · exact est_old T I2 ea ed hl hno r1 fun s' J => ⟨σ, _, J, q⟩
end
end Ss
namespace Ss
open PySem L2 PySem.Spec PyProof.Rows
/-- n values by position, then the keywords ks in the order of the parameters left -/
structure NB (fd : FuncData) (ps : List Str) (n : Nat) (ks : List Str) : Prop where
  to : ∀ (s : Shared) (us ws : List Value), us.length = n → ws.length = ks.length → BindsTo s fd ⟨us, ks.zip ws⟩ (ps.zip (us ++ ws))
/-- an error class whose own __init__ keeps sp -/
structure EMk (P : Program) (w : World) (K : PySem.W.Frag) (mg : Str → Option Value) (base : Heap) (CX : CXT) (C : Addr) (ini : String) (k : Nat) (ps : List Str) (sp : Sp) (fd : FuncData) : Prop where
  ec : EC K C ini
  ex : ∃ (fI : Addr), PySem.W.findIn K (.ref C) "__init__" = some (some (.ref fI)) ∧ PySem.W.typeIn K (.ref fI) = some (.type "function") ∧ FnOk P w K mg base CX k fI fd ps sp
/-- C(e, .., k = v, ..) as a value: n values, m keywords -/
def tEMk (C : Addr) (n m : Nat) (sp : Sp) (E : XK) (ta tk : TA) : TE := fun σ H Q => ta σ H fun vs H1 => tk σ H1 fun zs H2 => vs.length = n ∧ zs.length = m ∧
  ∀ a, H2 a = none → sp (.ref a :: (vs ++ zs)) (upd H2 a (exo a C none)) (fun v H3 => v = .non ∧ Q (.ref a) H3) E
section
variable {X : Cx} {CX : CXT} {C : Addr} {ini : String} {k j n : Nat} {ps ks : List Str} {sp : Sp} {fd : FuncData} {E : XK} {x : Str} {p pos : Pos} {e : Expr} {es : List Expr} {kws : List Keyword} {ta tk : TA}
theorem run_emk {pins : List (Addr × Obj)} {σ : L2.St} {H : Hp} {s : Shared} {Q : VK} {us ws : List Value} {vs zs : List V} (M : EMk X.prog X.w X.K X.mg X.base CX C ini k ps sp fd) (hr : Room (k + 1) X.A) (hb : NB fd ps (n + 1) ks) (hx : Passes CX X E)
    (hn : n ≤ 1000) (I : Inv X pins σ H s) (r : Vals vs us) (rz : Vals zs ws) (l1 : vs.length = n) (l2 : zs.length = ks.length)
    (h : ∀ a, H a = none → sp (.ref a :: (vs ++ zs)) (upd H a (exo a C none)) (fun v H3 => v = .non ∧ Q (.ref a) H3) E) : wpAny (model X.prog X.w) X.A (call (.ref C) us (ks.zip ws)) (EP X pins σ Q) X.xe s := by
  obtain ⟨fI, iC, tI, F1⟩ := M.ex
  obtain ⟨B, newId, bmB, nm, q, N, bs, bm, sn, sub, ab, col, dd, k0, k1, k2, k3, k5, F, hC, hT, hbm⟩ := M.ec.cls
  obtain ⟨hp, g, dr, tk, os⟩ := s
  have hsz : hp.objs.size ≤ hp.objs.size + 1 := Nat.le_succ _
  have hq := h (hp.objs.size + 1) (I.hok.fresh hsz)
  have kk : ∀ b o, hp.get? b = some o → ((hp.push (PySem.W.kdv_tup us)).push (PySem.HandSPX.excO C hp.objs.size)).get? b = some o := fun b o e => Heap.get?_push_of_some _ (Heap.get?_push_of_some _ e)
  have hget : ((hp.push (PySem.W.kdv_tup us)).push (PySem.HandSPX.excO C hp.objs.size)).get? (hp.objs.size + 1) = some (PySem.HandSPX.excO C hp.objs.size) := by heap_get
  have I2 : Inv X pins σ (upd H (hp.objs.size + 1) (exo (hp.objs.size + 1) C none)) ⟨(hp.push (PySem.W.kdv_tup us)).push (PySem.HandSPX.excO C hp.objs.size), g, dr, tk, os⟩ :=
    I.laid (t' := tk) (a := hp.objs.size + 1) (o := exo (hp.objs.size + 1) C none) (h' := (hp.push (PySem.W.kdv_tup us)).push (PySem.HandSPX.excO C hp.objs.size)) kk hsz (exo_ok hget)
  have r2 : Vals (V.ref (hp.objs.size + 1) :: (vs ++ zs)) (Value.ref (hp.objs.size + 1) :: (us ++ ws)) := .cons rfl (r.append rz)
  have e1 : (Value.ref (hp.objs.size + 1) :: us).length = n + 1 := congrArg Nat.succ (r.length.symm.trans l1)
  have e2 : ws.length = ks.length := rz.length.symm.trans l2
  have hus : us.length ≤ sizeLine := by
    rw [← r.length, l1, sizeLine_eq]
    omega
  refine wpAny_call (SsE.call_kw F hT (I.kIn _ _ hC) (PySem.W.looks_findIn I.kIn iC) (fun self => PySem.W.bind_fn I.kIn self tI) hus
    (codeAny_mono (F1.run _ X.stack _ _ ⟨Value.ref (hp.objs.size + 1) :: us, ks.zip ws⟩ (Value.ref (hp.objs.size + 1) :: us ++ ws) _ _ E (hr.make C us (ks.zip ws)) (I2.env0.make C us (ks.zip ws)) (hb.to _ _ _ e1 e2) r2 hq) fun r s' hq' => ?_))
  cases r with
  | error er => exact hx pins σ _ _ er s' I2 hq'
  | ok fl =>
    cases fl with
    | ret u =>
      obtain ⟨v, H', I3, rv, ev, q3⟩ := I2.after hq'
      subst ev
      exact ⟨rv, ⟨V.ref (hp.objs.size + 1), H', I3, rfl, q3⟩⟩
    | next => exact False.elim hq'
    | brk => exact False.elim hq'
    | cont => exact False.elim hq'
/-- C(e, ..) -/
theorem pe_emk (M : EMk X.prog X.w X.K X.mg X.base CX C ini k ps sp fd) (hm : X.mg x = some (.ref C)) (hr : Room j X.A) (hb : NB fd ps (n + 1) []) (hx : Passes CX X E) (ha : PA X (e :: es) ta) (hk : k + 1 ≤ j := by decide) (hn : n ≤ 1000 := by decide) (hg : Gl X x := by rfl)
    (hdb : (x == ("__debug__" : Str)) = false := by decide) (he : starEach (e :: es) X.env = (false, eval e X.env) :: starEach es X.env := by rfl) (hpl : (backTo pos (starEach es X.env)).any (·.1) = false := by rfl) :
    PE X (.Call (.Name x p) (e :: es) [] pos) (tEMk C n 0 sp E ta tNil) := by
  refine ⟨fun pins s σ H Q I h => ?_⟩
  refine wpAny_Call_Name_kw (ld_glob I hg hm ?_ hdb)
  refine PySem.W.callWith_K (h₀ := X.base) I.ok.mod.kin M.ec.kC (thn (ha.run pos pins s σ H _ I h) fun us s1 ⟨vs, H1, I1, r, l1, l2, q⟩ => ⟨I1.kIn, ?_⟩) he hpl
  exact run_emk (ks := []) (ws := []) (zs := []) M (hr.mono hk) hb hx hn I1 r .nil l1 rfl q
/-- C() -/
theorem pe_emk0 (M : EMk X.prog X.w X.K X.mg X.base CX C ini k ps sp fd) (hm : X.mg x = some (.ref C)) (hr : Room j X.A) (hb : NB fd ps 1 []) (hx : Passes CX X E) (hk : k + 1 ≤ j := by decide) (hg : Gl X x := by rfl)
    (hdb : (x == ("__debug__" : Str)) = false := by decide) : PE X (.Call (.Name x p) [] [] pos) (tEMk C 0 0 sp E tNil tNil) := by
  refine ⟨fun pins s σ H Q I h => ?_⟩
  refine wpAny_Call_Name_kw (ld_glob I hg hm ?_ hdb)
  obtain ⟨l1, l2, q⟩ := h
  exact PySem.W.callWith_K0 I.kIn M.ec.kC (run_emk (ks := []) (ws := []) (zs := []) (us := []) (vs := []) M (hr.mono hk) hb hx (Nat.zero_le _) I .nil .nil rfl rfl q)
/-- C(e, .., k = v) -/
theorem pe_emkK (M : EMk X.prog X.w X.K X.mg X.base CX C ini k ps sp fd) (hm : X.mg x = some (.ref C)) (hr : Room j X.A) (hb : NB fd ps (n + 1) ks) (hx : Passes CX X E) (ha : PA X (e :: es) ta) (hkw : PK X kws tk) (hk : k + 1 ≤ j := by decide) (hn : n ≤ 1000 := by decide) (hg : Gl X x := by rfl)
    (hall : (backToKw pos (keywordEach kws X.env)).all (·.1.isSome) = true := by rfl) (hks : (backToKw pos (keywordEach kws X.env)).filterMap (·.1) = ks := by rfl) (hdb : (x == ("__debug__" : Str)) = false := by decide)
    (he : starEach (e :: es) X.env = (false, eval e X.env) :: starEach es X.env := by rfl)
    (hpl : ((backTo pos (starEach (e :: es) X.env)).any (·.1) || (backToKw pos (keywordEach kws X.env)).any (·.1.isNone)) = false := by rfl) :
    PE X (.Call (.Name x p) (e :: es) kws pos) (tEMk C n ks.length sp E ta tk) := by
  refine ⟨fun pins s σ H Q I h => ?_⟩
  refine wpAny_Call_Name_kw (ld_glob I hg hm ?_ hdb)
  refine PySem.W.callWith_KW (h₀ := X.base) I.ok.mod.kin M.ec.kC hall (thn (ha.run pos pins s σ H _ I h) fun us s1 ⟨vs, H1, I1, r, q⟩ => ?_) hpl he
  refine thn (hkw.run pos pins s1 σ H1 _ I1 q) fun ws s2 ⟨zs, H2, I2, rz, l1, l2, q2⟩ => ⟨I2.kIn, ?_⟩
  rw [hks]
  exact run_emk M (hr.mono hk) hb hx hn I2 r rz l1 l2 q2
end
section
variable {X : Cx} {CX : CXT} {C : Addr} {ini : String} {k j n : Nat} {ps ks : List Str} {sp : Sp} {fd : FuncData} {E : XK} {x : Str} {p pos : Pos} {kws : List Keyword} {tk : TA}
/-- C(k = v) -/
theorem pe_emkK0 (M : EMk X.prog X.w X.K X.mg X.base CX C ini k ps sp fd) (hm : X.mg x = some (.ref C)) (hr : Room j X.A) (hb : NB fd ps 1 ks) (hx : Passes CX X E) (hkw : PK X kws tk) (hk : k + 1 ≤ j := by decide) (hg : Gl X x := by rfl)
    (hall : (backToKw pos (keywordEach kws X.env)).all (·.1.isSome) = true := by rfl) (hks : (backToKw pos (keywordEach kws X.env)).filterMap (·.1) = ks := by rfl) (hdb : (x == ("__debug__" : Str)) = false := by decide)
    (hpl : ((backTo pos (starEach [] X.env)).any (·.1) || (backToKw pos (keywordEach kws X.env)).any (·.1.isNone)) = false := by rfl) :
    PE X (.Call (.Name x p) [] kws pos) (tEMk C 0 ks.length sp E tNil tk) := by
  refine ⟨fun pins s σ H Q I h => ?_⟩
  refine wpAny_Call_Name_kw (ld_glob I hg hm ?_ hdb)
  refine PySem.W.callWith_KW0 (h₀ := X.base) I.ok.mod.kin M.ec.kC hall ?_ hpl
  refine thn (hkw.run pos pins s σ H _ I h) fun ws s2 ⟨zs, H2, I2, rz, l1, l2, q2⟩ => ⟨I2.kIn, ?_⟩
  rw [hks]
  exact run_emk (us := []) (vs := []) M (hr.mono hk) hb hx (Nat.zero_le _) I2 .nil rz rfl l2 q2
end
/-! ### an error's field, its class -/
/-- e.f, e an error that stands as a value -/
def tEF (K : PySem.W.Frag) (f : Str) (ta : TE) : TE := fun σ H Q => ta σ H fun x H1 => ∃ (a C d : Addr) (ini : String) (fs : List (Str × V)) (v : V), x = .ref a ∧ H1 a = some (exo a C (some d)) ∧ H1 d = some (exd d fs) ∧ EC K C ini ∧ PySem.W.findIn K (.ref C) f = some none ∧ fs.lookup f = some v ∧ Q v H1
theorem pe_ef {X : Cx} {e : Expr} {te : TE} {f : Str} {pos : Pos} (he : PE X e te) (hb : attributeBase e f X.env (eval e X.env) = eval e X.env := by rfl) : PE X (.Attribute e f pos) (tEF X.K f te) := by
  refine ⟨fun pins s σ H Q I h => ?_⟩
  refine attr_of hb (thn (he.run pins s σ H _ I h) fun u s1 hh => ?_)
  obtain ⟨x, H1, I1, rx, a, C, d, ini, fs, v, ex, ea, ed, T, hno, l, q⟩ := hh
  subst ex
  obtain rfl : u = Value.ref a := rx
  obtain ⟨t1, ha⟩ := exo_at I1.hok ea
  obtain ⟨mA, hns, hr⟩ := exd_at I1.hok ed
  obtain ⟨od, ho, hl⟩ := lookIn_ns hns
  obtain ⟨u, hu, ru⟩ := RelO.some_of (v := v) (o := mA f) (by rw [← l]; exact hr f)
  have J : PySem.W.InstAt s1.heap a { cls := .ref C, dict := some d, data := .fields #[.ref t1, .none, .none, .none, .bool false, .none] } C (some od) := ⟨ha, rfl, rfl, ho⟩
  exact HandSPX.exc_get I1.kIn J T.ga T.gg T.exC (PySem.W.findObj_own T.hdC hno rfl (by rw [hl, hu])) (handed_of ru) ⟨v, H1, I1.tok _, ru, q⟩
end Ss
namespace PySem.W
open PySem PySem.Spec PySem.Calls PyProof.Rows
section
variable {prog : Program} {w : World} {A : Around} {E : Value → Shared → Prop} {s : Shared} {K : Frag} {x D : Addr} {ox : Obj} {od : Option Obj}
theorem ssFindData {C : Addr} {name : Str} {a g : Value} (hc : (clsIn K C).isSome = true) (ha : findIn K (.ref C) name = some (some a)) (hg : specialIn K a "__get__" = some (some g)) (ht : takesIn K a = some true) : findObj K C od name = some (.bind g a) := by
  obtain ⟨cd, hc⟩ := Option.isSome_iff_exists.mp hc
  unfold findObj
  rw [hc, Option.bind_some, ha, Option.bind_some]
  simp [hg, ht]
theorem ssClassOf {Q : Option Value → Shared → Prop} (hga : findIn K (.ref D) "__getattribute__" = some (some (.builtin "BaseException.__getattribute__"))) (hgt : findIn K (.ref D) "__getattr__" = some none) (hsub : subIn K (.ref D) (.type "BaseException") = some true)
    (hdct : hasDictIn K D = true) (ha : findIn K (.ref D) "__class__" = some (some (.builtin "object.__class__")))
    (hn : specialIn K (.builtin "object.__class__") "__get__" = some (some (.builtin "getset_descriptor.__get__"))) (htk : takesIn K (.builtin "object.__class__") = some true) (hm : mroIn K D (.type "object") = some true)
    (X : K.In s.heap) (I : InstAt s.heap x ox D od) (h : Q (some (.ref D)) { s with toks := s.toks + 1 }) : wpAny (model prog w) A (getAttr? (.ref x) "__class__") Q E s := by
  have hf : findObj K D od "__class__" = some (.bind (.builtin "getset_descriptor.__get__") (.builtin "object.__class__")) := ssFindData (by obtain ⟨cd, hc, _⟩ := any_some hdct; rw [hc]; rfl) ha hn htk
  obtain ⟨hp, g, d, t, os⟩ := s
  have L0 := I.type (M := model prog w)
  have L1 := looks_findIn (M := model prog w) X hga
  have L2 := looks_findIn (M := model prog w) X hgt
  have L3 := looks_find (M := model prog w) X I hf
  have sub : Looks (model prog w) hp (isInstance (.ref x) (.type "BaseException")) true := L0.andThen (looks_subIn X hsub)
  have z0 : (false && onTheHeap (Value.builtin "BaseException.__getattribute__")) = false := rfl
  have z2 : (Value.builtin "BaseException.__getattribute__" == Value.builtin "object.__getattribute__") = false := by decide +kernel
  have z1 : (onTheHeap (Value.ref D) && Value.builtin "BaseException.__getattribute__" == Value.builtin "object.__getattribute__") = false := by rw [z2]; rfl
  unfold getAttr? getAttrBy? getAttrBy
  refine wpAny_bind (wpAny_mkText (wpAny_bind (wpAny_attempt (wpAny_holding (wpAny_bind (L0.at (wpAny_bind (L1.at ?_))))))))
  show wpAny _ _ (if (onTheHeap (Value.ref D) && Value.builtin "BaseException.__getattribute__" == Value.builtin "object.__getattribute__") = true then _ else _) _ _ _
  rw [z1, if_neg Bool.false_ne_true]
  unfold getAttrByItsOwn hookBefore
  refine wpAny_bind ?_
  rw [if_pos (show onTheHeap (Value.ref D) = true from rfl)]
  refine L2.at ?_
  refine wpAny_bind (wpAny_attempt (wpAny_holding ?_))
  unfold callGetattribute
  rw [z0, if_neg Bool.false_ne_true]
  unfold boundAndCalled
  rw [PySem.F.excAttr_ValueError.ga.bind (.ref x)]
  refine wpAny_bind (wpAny_pure ?_)
  show wpAny _ _ (call (.builtin "BaseException.__getattribute__") [.ref x, .str "__class__" t]) _ _ _
  refine wpAny_call (codeAny_call_builtin PySem.F.excAttr_ValueError.ga.plain PySem.F.entry_bexc_ga ?_)
  refine @check_slot (model prog w) _ _ ⟨hp, g, d, t + 1, os⟩ "BaseException.__getattribute__" "BaseException" "__getattribute__" (.ref x) [.str "__class__" t] [] _ (by decide +kernel) (by decide +kernel) sub (PySem.F.args_bexc_ga (.ref x) (.str "__class__" t)) ?_
  unfold Builtin.«object.__getattribute__»
  refine wpAny_bind (wpAny_of_eq (a := ((Value.ref x : Value), [Value.str "__class__" t])) (by first | rfl | (simp only [slotArgs]; rfl)) ?_)
  refine wpAny_bind (wpAny_pure (wpAny_bind (L0.at (wpAny_bind (L3.at ?_)))))
  show wpAny _ _ (holding [Value.builtin "object.__class__"] (call (.builtin "getset_descriptor.__get__") [.builtin "object.__class__", .ref x, .ref D]) >>= ret) _ _ _
  refine wpAny_bind (wpAny_holding (wpAny_call (class_get (s := ⟨hp, g, d, t + 1, os⟩) (ox := ox) (od := od) X I hm ?_)))
  refine wpAny_pure ?_
  show wpAny _ _ (handedOut (.ref D)) _ _ _
  rw [handedOut_of (v := .ref D) rfl]
  first
    | exact wpAny_pure (wpAny_pure h)
    | exact wpAny_pure h
    | exact wpAny_pure (wpAny_bind (wpAny_pure (wpAny_pure h)))
theorem ssKit (hga : findIn K (.ref D) "__getattribute__" = some (some (.builtin "BaseException.__getattribute__"))) (hgt : findIn K (.ref D) "__getattr__" = some none) (hsub : subIn K (.ref D) (.type "BaseException") = some true) (hdct : hasDictIn K D = true) (ha : findIn K (.ref D) "__class__" = some (some (.builtin "object.__class__")))
    (hn : specialIn K (.builtin "object.__class__") "__get__" = some (some (.builtin "getset_descriptor.__get__"))) (htk : takesIn K (.builtin "object.__class__") = some true) (hm : mroIn K D (.type "object") = some true) :
    KitX K (.ref x) (.ref D) (fun h => ∃ od, InstAt h x ox D od) where
  ty := fun _ _ _ I => let ⟨_, I⟩ := I; I.type
  it := fun _ _ X _ => by
    obtain ⟨cdD, hcD, _⟩ := any_some hdct
    unfold clsIn at hcD
    split at hcD
    · rename_i c' d' cd' sl' ho
      intro A' Q' E' s' k q
      unfold isType loadHead
      exact wpAny_bind (wpAny_loadPart (k _ _ (X _ _ ho)) (wpAny_pure q))
    · cases hcD
  ne := fun h tp dd its n sl X htp => by
    obtain ⟨cdD, hcD, _⟩ := any_some hdct
    refine Bool.eq_false_iff.mpr fun q => ?_
    have e : D = tp := Value.ref.inj (beq_iff_eq.mp q)
    subst e
    unfold clsIn at hcD
    split at hcD
    · rename_i c' d' cd' sl' ho
      have z := (X _ _ ho).symm.trans htp
      cases z
    · cases hcD
  ca := fun X I k => let ⟨_, I⟩ := I; ssClassOf hga hgt hsub hdct ha hn htk hm X I k
end
end PySem.W
namespace Ss
open PySem L2 PySem.Spec PyProof.Rows
/-- isinstance(x, c), x an error that stands as a value -/
def rIsX (K : PySem.W.Frag) : List V → Hp → VK → Prop := fun xs H Q => ∃ (a C : Addr) (dd : Option Addr) (ini : String) (c : V) (cv : Value) (b : Bool), xs = [.ref a, c] ∧ H a = some (exo a C dd) ∧ (∀ d, dd = some d → ∃ fs, H d = some (exd d fs)) ∧ EC K C ini ∧ ClsV c cv ∧ PySem.W.kitOne K (.ref C) cv = some b ∧ Q (.bl b) H
theorem call_isx {X : Cx} : CallR X (.builtin "isinstance") (rIsX X.K) := by
  intro pins s σ H xs us Q I r h
  obtain ⟨a, C, dd, ini, c, cv, b, rfl, ea, ed, T, k, e, q⟩ := h
  obtain ⟨u1, u2, rfl, r1, r2⟩ := vals2 r
  have e2 := k.eq r2
  subst e2
  cases (show u1 = Value.ref a from r1)
  obtain ⟨t1, ha⟩ := exo_at I.hok ea
  have J : ∃ od, PySem.W.InstAt s.heap a { cls := .ref C, dict := dd, data := .fields #[.ref t1, .none, .none, .none, .bool false, .none] } C od := by
    cases dd with
    | none => exact ⟨none, ha, rfl, rfl, trivial⟩
    | some d =>
      obtain ⟨fs, ed⟩ := ed d rfl
      obtain ⟨mA, hns, hr⟩ := exd_at I.hok ed
      obtain ⟨od, ho, hl⟩ := lookIn_ns hns
      exact ⟨some od, ha, rfl, rfl, ho⟩
  exact PySem.W.kia_one (PySem.W.ssKit T.ga T.gg T.exC T.hdC T.ha T.hn T.ht T.hm) I.kIn J e (fun z => nomatch z) fun tk => ⟨.bl b, H, I.kept (t' := tk) fun _ _ z => z, rfl, q⟩
end Ss
namespace Ss
open PySem L2 PySem.Spec PyProof.Rows
/-! ### a text made of a value: some bounded text -/
def leafOk : V → Prop
  | .non => True
  | .bl _ => True
  | .int i => i.natAbs.log2 < 1920
  | .str y => y.length ≤ 1000 ∧ ∀ c ∈ y.cps.toList, c < 16 ^ 8
  | _ => False
def leafTx : V → Str
  | .non => "None"
  | .bl b => if b then "True" else "False"
  | .int i => toString i
  | .str y => reprText y
  | _ => ""
theorem leaf_len {x : V} (h : leafOk x) : (leafTx x).length ≤ 10002 := by
  cases x with
  | non => decide +kernel
  | bl b => cases b <;> decide +kernel
  | int i =>
    have e := int_text_length_le (k := 1920) (by decide) (show i.natAbs.log2 < 1920 from h)
    show (Str.ofString (toString i)).length ≤ _
    rw [PySem.ofString_length]
    omega
  | str y =>
    have e := StrLaws.reprText_len y h.2
    have e2 : y.length ≤ 1000 := h.1
    show (reprText y).length ≤ _
    omega
  | _ => exact False.elim h
theorem leaf_repr {prog : Program} {w : World} {x : V} {u : Value} (h : leafOk x) (r : RelV x u) : ReprIs prog w u (leafTx x) := by
  have hl := leaf_len h
  have hz : (leafTx x).length ≤ sizeLine := Nat.le_trans hl (by decide)
  cases x with
  | non => cases r; exact ReprIs.none
  | bl b => cases r; exact ReprIs.bool b
  | int i => obtain ⟨t, rfl⟩ := r; exact ReprIs.int t h
  | str y => obtain ⟨t, rfl⟩ := r; exact ReprIs.str y t hz
  | _ => exact False.elim h
theorem leaf_all {prog : Program} {w : World} : ∀ {l : List V} {us : List Value}, Vals l us → (∀ y ∈ l, leafOk y) → ReprAll prog w us (l.map leafTx)
  | _, _, .nil, _ => .nil
  | _, _, .cons r rr, h => .cons (leaf_repr (h _ List.mem_cons_self) r) (leaf_all rr fun y hy => h y (List.mem_cons_of_mem _ hy))
theorem leaf_piled : ∀ {l : List V}, (∀ y ∈ l, leafOk y) → piled (l.map leafTx) ≤ 10004 * l.length
  | [], _ => Nat.zero_le _
  | x :: l, h => by
    have h1 := leaf_len (h x List.mem_cons_self)
    have h2 := leaf_piled (l := l) fun y hy => h y (List.mem_cons_of_mem _ hy)
    rw [List.map_cons, piled_cons, List.length_cons]
    omega
/-- such values may stand in an error's text -/
def Shown (K : PySem.W.Frag) (H : Hp) (x : V) : Prop := leafOk x ∨ ∃ (a : Addr) (l : List V), x = .ref a ∧ SqT K H a l ∧ (∀ y ∈ l, leafOk y) ∧ l.length ≤ 100
/-- {x!r}, {x!s} -/
def tFmtX (K : PySem.W.Frag) (te : TE) : TE := fun σ H Q => te σ H fun x H1 => Shown K H1 x ∧ ∀ m : Str, m.length ≤ 1100000 → Q (.str m) H1
section
variable {X : Cx} {e : Expr} {te : TE} {pos : Pos} {k : Nat}
theorem fmt_mem {prog : Program} {w : World} {A : Around} {E : Value → Shared → Prop} {s : Shared} {a : Addr} {o : Obj} {items : Array Value} {n : Nat} {ts : List Str} {Q : Value → Shared → Prop} (hu : A.units < cLine) (ha : s.heap.get? a = some o) (hc : o.cls = .type "tuple") (hd : o.data = .seq items n)
    (hT : ReprAll prog w items.toList ts) (hsz : (tupleText ts).length ≤ sizeLine) (h : ∀ (m : Str) (u tk : Tok), m.length ≤ (tupleText ts).length + 5 → Q (.str m u) { s with toks := tk }) : wpAny (model prog w) A (pyReprObj (.ref a)) Q E s :=
  wpAny_pyReprObj_slot hu ⟨o, ha, hc⟩ F.slot_tuple_repr (fmt_tuple_repr ha hc hd hT hsz fun m u tk hm => ⟨m, u, rfl, h m u tk hm⟩)
theorem pe_fmtX (hr : Room k X.A) (he : PE X e te) : PE X (.FormattedValue e 114 none pos) (tFmtX X.K te) := by
  refine ⟨fun pins s σ H Q I h => ?_⟩
  refine wpAny_FormattedValue_repr (thn (he.run pins s σ H _ I h) fun v s1 hv => ?_)
  obtain ⟨x, H1, I1, r1, sh, q⟩ := hv
  have fin : ∀ (m : Str) (u tk : Tok), m.length ≤ 1100000 → wpAny (model X.prog X.w) X.A (formatField (.str m u) Str.empty) (EP X pins σ Q) X.xe { s1 with toks := tk } := fun m u tk hm =>
    wpAny_formatField_str ⟨.str m, H1, I1.tok _, ⟨_, rfl⟩, q m hm⟩ ⟨.str m, H1, I1.tok _, ⟨_, rfl⟩, q m hm⟩ (Nat.le_trans hm (by decide))
  rcases sh with sh | ⟨a, l, rfl, ht, hl, hn⟩
  · have hz : (leafTx x).length ≤ 1100000 := Nat.le_trans (leaf_len sh) (by decide)
    have hz2 : (leafTx x).length ≤ sizeLine := Nat.le_trans hz (by decide)
    cases x with
    | non => cases r1; exact pyReprObj_none (fin _ _ _ hz)
    | bl b => cases r1; exact pyReprObj_bool (fin _ _ _ hz)
    | int i => obtain ⟨t, rfl⟩ := r1; exact pyReprObj_int sh (fin _ _ _ hz)
    | str y => obtain ⟨t, rfl⟩ := r1; exact pyReprObj_str (fin _ _ _ hz) hz2
    | _ => exact False.elim sh
  · cases r1
    obtain ⟨its, rv, ⟨o, ho, hcl, n, hd⟩, _⟩ := I1.tuple ht
    have hp := leaf_piled hl
    have htx := fmt_text (l.map leafTx)
    have hb : (tupleText (l.map leafTx)).length + 5 ≤ 1100000 := by omega
    exact fmt_mem hr.units0 ho hcl hd (leaf_all rv hl) (Nat.le_trans (Nat.le_trans (Nat.le_add_right _ 5) hb) (by decide)) fun m u tk hm => fin m u tk (Nat.le_trans hm hb)
theorem pe_fmtS (hr : Room k X.A) (he : PE X e te) : PE X (.FormattedValue e 115 none pos) (tFmtX X.K te) := by
  refine ⟨fun pins s σ H Q I h => ?_⟩
  refine wpAny_FormattedValue_s (thn (he.run pins s σ H _ I h) fun v s1 hv => ?_)
  obtain ⟨x, H1, I1, r1, sh, q⟩ := hv
  have fin : ∀ (m : Str) (u tk : Tok), m.length ≤ 1100000 → wpAny (model X.prog X.w) X.A (formatField (.str m u) Str.empty) (EP X pins σ Q) X.xe { s1 with toks := tk } := fun m u tk hm =>
    wpAny_formatField_str ⟨.str m, H1, I1.tok _, ⟨_, rfl⟩, q m hm⟩ ⟨.str m, H1, I1.tok _, ⟨_, rfl⟩, q m hm⟩ (Nat.le_trans hm (by decide))
  rcases sh with sh | ⟨a, l, rfl, ht, hl, hn⟩
  · have hz : (leafTx x).length ≤ 1100000 := Nat.le_trans (leaf_len sh) (by decide)
    cases x with
    | non => cases r1; exact pyStrObj_none (fin _ _ _ hz)
    | bl b => cases r1; exact pyStrObj_bool (fin _ _ _ hz)
    | int i => obtain ⟨t, rfl⟩ := r1; exact pyStrObj_int sh (fin _ _ _ hz)
    | str y =>
      obtain ⟨t, rfl⟩ := r1
      have hy : y.length ≤ 1100000 := Nat.le_trans sh.1 (by decide)
      show wpAny _ _ (habitSame "fstring-hands-on-the-str" (.str y t)) _ _ _
      exact wpAny_habitSame_str (fin _ _ _ hy) (fin _ _ _ hy) (Nat.le_trans hy (by decide))
    | _ => exact False.elim sh
  · cases r1
    obtain ⟨its, rv, ⟨o, ho, hcl, n, hd⟩, _⟩ := I1.tuple ht
    have hp := leaf_piled hl
    have htx := fmt_text (l.map leafTx)
    have hb : (tupleText (l.map leafTx)).length + 5 ≤ 1100000 := by omega
    have hu := hr.units
    exact convS_slot (fun _ _ => nofun) (by omega) ⟨o, ho, hcl⟩ F.slot_tuple_str F.slot_tuple_repr
      (fmt_tuple_repr ho hcl hd (leaf_all rv hl) (Nat.le_trans (Nat.le_trans (Nat.le_add_right _ 5) hb) (by decide)) fun m u tk hm => ⟨m, u, rfl, fin m u tk (Nat.le_trans hm hb)⟩)
end
/-! ### an error's text: written parts and values one behind the other -/
/-- a part: a written text, or a value -/
def PartOk (K : PySem.W.Frag) (σ : L2.St) (H : Hp) (t : TE) : Prop := ∀ Q : VK, (∀ m : Str, m.length ≤ 1100000 → Q (.str m) H) → t σ H Q
theorem part_c {K : PySem.W.Frag} {σ : L2.St} {H : Hp} {z : Str} (h : z.length ≤ 1100000) : PartOk K σ H (tC (.str z)) := fun _ q => q z h
theorem part_v {K : PySem.W.Frag} {σ : L2.St} {H : Hp} {i : Nat} {x : V} (hx : σ[i]? = some (some x)) (h : Shown K H x) : PartOk K σ H (tFmtX K (tVar i)) := fun _ q => ⟨x, hx, h, fun m hm => q m hm⟩
theorem parts_run {K : PySem.W.Frag} {σ : L2.St} {H : Hp} : ∀ {ts : List TE} {acc : Str} {n : Nat} {Q : Str → Hp → Prop}, (∀ t ∈ ts, PartOk K σ H t) → acc.length ≤ 1100000 * n → n + ts.length ≤ 12 → (∀ z, Q z H) → tJs ts acc σ H Q
  | [], _, _, _, _, _, _, q => q _
  | t :: ts, acc, n, Q, h, ha, hn, q => by
    refine h t List.mem_cons_self _ fun m hm => ?_
    have e : (acc ++ m).length = acc.length + m.length := strLen_append acc m
    have hn : n + (ts.length + 1) ≤ 12 := hn
    refine ⟨m, rfl, ?_, parts_run (n := n + 1) (fun t ht => h t (List.mem_cons_of_mem _ ht)) ?_ (by omega) q⟩
    · rw [e]; exact Nat.le_trans (show _ ≤ 1100000 * 12 by omega) (by decide)
    · rw [e]; omega
end Ss
namespace Ss
open PySem L2 PySem.Spec PyProof.Rows
/-! ### data -/
mutual
theorem Dp.mono {K : PySem.W.Frag} {H H' : Hp} (s : Same H H') : ∀ {v : V} {d : PyData}, Dp K H v d → Dp K H' v d
  | _, _, .non => .non
  | _, _, .bl b => .bl b
  | _, _, .int i => .int i
  | _, _, .str x => .str x
  | _, _, .lst h a => .lst (s.seq h) (DpAll.mono s a)
  | _, _, .tup h a => .tup (Evl.ex_t s h) (DpAll.mono s a)
theorem DpAll.mono {K : PySem.W.Frag} {H H' : Hp} (s : Same H H') : ∀ {vs : List V} {ds : List PyData}, DpAll K H vs ds → DpAll K H' vs ds
  | _, _, .nil => .nil
  | _, _, .cons h t => .cons (Dp.mono s h) (DpAll.mono s t)
end
theorem DpAll.get {K : PySem.W.Frag} {H : Hp} : ∀ {vs : List V} {ds : List PyData} {i : Nat} {v : V}, DpAll K H vs ds → vs[i]? = some v → ∃ d, ds[i]? = some d ∧ Dp K H v d
  | _, _, _, _, .nil, e => by simp at e
  | _, _, 0, _, .cons h _, e => by
    simp at e
    subst e
    exact ⟨_, rfl, h⟩
  | _, _, i + 1, _, .cons _ t, e => by
    obtain ⟨d, h1, h2⟩ := DpAll.get (i := i) t (by simpa using e)
    exact ⟨d, by simpa using h1, h2⟩
theorem DpAll.len {K : PySem.W.Frag} {H : Hp} : ∀ {vs : List V} {ds : List PyData}, DpAll K H vs ds → vs.length = ds.length
  | _, _, .nil => rfl
  | _, _, .cons _ t => by rw [List.length_cons, List.length_cons, DpAll.len t]
theorem DpAll.snoc {K : PySem.W.Frag} {H : Hp} {v : V} {d : PyData} : ∀ {vs : List V} {ds : List PyData}, DpAll K H vs ds → Dp K H v d → DpAll K H (vs ++ [v]) (ds ++ [d])
  | _, _, .nil, h => .cons h .nil
  | _, _, .cons a t, h => .cons a (DpAll.snoc t h)
/-- tuples within each other at most n deep, of at most a thousand items each -/
def tupD : Nat → PyData → Bool
  | _, .none => true
  | _, .bool _ => true
  | _, .int _ => true
  | _, .str _ => true
  | n + 1, .tuple ds => decide (ds.length ≤ 1000) && ds.all (tupD n)
  | _, _ => false
/-- the type of a value that is data -/
def tyD : PyData → String
  | .none => "NoneType"
  | .bool _ => "bool"
  | .int _ => "int"
  | .str _ => "str"
  | .list _ => "list"
  | .tuple _ => "tuple"
  | .dict _ => "dict"
theorem dp_ty {K : PySem.W.Frag} {H : Hp} {v : V} {d : PyData} (h : Dp K H v d) (hl : ∀ ds, d ≠ .list ds) : TyX K H v (.type (tyD d)) := by
  cases h with
  | non => exact .base .non
  | bl b => exact .base (.bl b)
  | int i => exact .base (.int i)
  | str x => exact .base (.str x)
  | lst h a => exact absurd rfl (hl _)
  | tup h a =>
    rcases h with (h | ⟨o, h⟩) | ⟨o, its, n, lk, c, dd, r⟩
    · exact .base (.tup h)
    · exact .fTuple h
    · exact .kTuple lk c
theorem tupD_all {n : Nat} {ds : List PyData} (h : tupD (n + 1) (.tuple ds) = true) : ds.length ≤ 1000 ∧ ∀ d ∈ ds, tupD n d = true := by
  have h : (decide (ds.length ≤ 1000) && ds.all (tupD n)) = true := h
  rw [Bool.and_eq_true] at h
  exact ⟨of_decide_eq_true h.1, List.all_eq_true.mp h.2⟩
theorem DpAll.imp {K : PySem.W.Frag} {H H' : Hp} {p : PyData → Prop} (f : ∀ d v, p d → Dp K H v d → Dp K H' v d) : ∀ {vs : List V} {ds : List PyData}, DpAll K H vs ds → (∀ d ∈ ds, p d) → DpAll K H' vs ds
  | _, _, .nil, _ => .nil
  | _, _, .cons h t, hp => .cons (f _ _ (hp _ List.mem_cons_self) h) (DpAll.imp f t fun d hd => hp d (List.mem_cons_of_mem _ hd))
/-- no tuple -/
def NotTup : Option HO → Prop
  | some (.tup _) => False
  | some (.frz _ (.tup _)) => False
  | _ => True
/-- what is no tuple, and changes, is no part of such data -/
theorem Dp.off {K : PySem.W.Frag} {H H' : Hp} {b : Addr} (s : Off b H H') (hb : NotTup (H b)) : ∀ (n : Nat) (d : PyData) (v : V), tupD n d = true → Dp K H v d → Dp K H' v d := by
  intro n
  induction n with
  | zero =>
    intro d v ht h
    cases h with
    | non => exact .non
    | bl b => exact .bl b
    | int i => exact .int i
    | str x => exact .str x
    | lst _ _ => exact Bool.noConfusion ht
    | tup _ _ => exact Bool.noConfusion ht
  | succ n ih =>
    intro d v ht h
    cases h with
    | non => exact .non
    | bl b => exact .bl b
    | int i => exact .int i
    | str x => exact .str x
    | lst _ _ => exact Bool.noConfusion ht
    | @tup a xs ds hs ha =>
      have hall := (tupD_all ht).2
      refine .tup (xs := xs) ?_ ?_
      · rcases hs with (hs | ⟨q, hs⟩) | hs
        · exact .inl (.inl (s _ _ (fun z => by rw [← z, hs] at hb; exact hb) hs))
        · exact .inl (.inr ⟨q, s _ _ (fun z => by rw [← z, hs] at hb; exact hb) hs⟩)
        · exact .inr hs
      · exact DpAll.imp (p := fun d => tupD n d = true) (fun d v hd h => ih d v hd h) ha hall
theorem DpAll.off {K : PySem.W.Frag} {H H' : Hp} {b : Addr} {n : Nat} (s : Off b H H') (hb : NotTup (H b)) {vs : List V} {ds : List PyData} (h : ∀ d ∈ ds, tupD n d = true) (a : DpAll K H vs ds) : DpAll K H' vs ds :=
  DpAll.imp (p := fun d => tupD n d = true) (fun d v hd h => Dp.off s hb n d v hd h) a h
theorem Shown.mono {K : PySem.W.Frag} {H H' : Hp} {x : V} (s : Same H H') (h : Shown K H x) : Shown K H' x := by
  rcases h with h | ⟨a, l, e, ht, r⟩
  · exact .inl h
  · exact .inr ⟨a, l, e, Evl.ex_t s ht, r⟩
theorem Shown.off {K : PySem.W.Frag} {H H' : Hp} {b : Addr} (s : Off b H H') (hb : NotTup (H b)) {x : V} (h : Shown K H x) : Shown K H' x := by
  rcases h with h | ⟨a, l, e, hs, r⟩
  · exact .inl h
  · refine .inr ⟨a, l, e, ?_, r⟩
    rcases hs with (hs | ⟨q, hs⟩) | hs
    · exact .inl (.inl (s _ _ (fun z => by rw [← z, hs] at hb; exact hb) hs))
    · exact .inl (.inr ⟨q, s _ _ (fun z => by rw [← z, hs] at hb; exact hb) hs⟩)
    · exact .inr hs
/-- kept(value): the same data -/
def spKept (K : PySem.W.Frag) (n : Nat) : Sp := fun vs H Q _ => ∃ (v : V) (d : PyData), vs = [v] ∧ Dp K H v d ∧ tupD n d = true ∧ ∀ (v' : V) (H' : Hp), Same H H' → Dp K H' v' d → Q v' H'
/-- a def whose calls are never reached -/
theorem Dk.never {P : Program} {w : World} {K : PySem.W.Frag} {mg : Str → Option Value} {base : Heap} {x : Str} {st : Stmt} {ps : List Str} (D : DefAt K mg x st) (b : ∀ f fd, Fun K x x st f fd → Binds K fd ps []) : Dk P w K mg base CX0 0 x ps (fun _ _ _ _ => False) := by
  obtain ⟨f, fd, F, mf⟩ := D.ex
  exact ⟨f, fd, ⟨fun _ _ _ _ h => h.elim, fun _ _ _ _ _ _ _ _ _ _ _ _ _ h => h.elim⟩, mf, F.kp, b f fd F⟩
/-! ### an error's fields, one after another -/
/-- since H0 the error at a, which was being made, has got the fields fs (the last one first) -/
def Part (K : PySem.W.Frag) (H0 H' : Hp) (a C : Addr) (n : Nat) (fs : List (Str × PyData)) : Prop := Off a H0 H' ∧ NotTup (H0 a) ∧
  ((fs = [] ∧ H' a = some (exo a C none)) ∨ ∃ (dx : Addr) (vs : List (Str × V)), H' a = some (exo a C (some dx)) ∧ H' dx = some (exd dx vs) ∧ H0 dx = none ∧ dx ≠ a ∧ vs.length = fs.length ∧ ∀ f d, fs.lookup f = some d → tupD n d = true ∧ ∃ v, vs.lookup f = some v ∧ Dp K H' v d)
theorem nt_exo {a C : Addr} {d : Option Addr} : NotTup (some (exo a C d)) := trivial
theorem nt_exd {a : Addr} {fs : List (Str × V)} : NotTup (some (exd a fs)) := trivial
theorem lookup_hd {α : Type} (f g : Str) (y : α) (fs : List (Str × α)) : ((f, y) :: fs).lookup g = if g = f then some y else fs.lookup g := by
  by_cases h : g = f
  · subst h
    simp [List.lookup]
  · have e : (g == f) = false := by simpa using h
    rw [if_neg h]
    simp [List.lookup, e]
/-- self.f = kept(x) -/
theorem est_turn {K : PySem.W.Frag} {H0 H' : Hp} {a C : Addr} {n i : Nat} {ini : String} {f : Str} {fs : List (Str × PyData)} {σ : L2.St} {D : Ends} {x : V} {d : PyData} (T : EC K C ini) (hno : PySem.W.findIn K (.ref C) f = some none)
    (h0 : σ[0]? = some (some (.ref a))) (hi : σ[i]? = some (some x)) (hp : Part K H0 H' a C n fs) (hd : Dp K H0 x d) (ht : tupD n d = true) (hl : fs.length ≤ 900) (k : ∀ H'', Part K H0 H'' a C n ((f, d) :: fs) → D.nx σ H'') :
    tEst K ini f (tVar 0) (tCall (spKept K n) [] E0 (tCons (tVar i) tNil)) D σ H' := by
  obtain ⟨hO, hN, hc⟩ := hp
  refine ⟨x, hi, x, d, rfl, Dp.off hO hN n d x ht hd, ht, fun x' H1 s1 hx' => ?_⟩
  refine ⟨_, h0, a, C, rfl, T, hno, ?_⟩
  rcases hc with ⟨rfl, ha⟩ | ⟨dx, vs, ha, hdx, h0x, hne, hvl, hv⟩
  · refine .inl ⟨s1 _ _ ha, fun dx ndx ne => k _ ⟨fun b o nb hb => ?_, hN, .inr ⟨dx, [(f, x')], upd_same, ?_, ?_, ne, rfl, ?_⟩⟩⟩
    · have q := s1 _ _ (hO b o nb hb)
      rw [upd_ne nb, upd_ne (ne_of_none q ndx)]
      exact q
    · rw [upd_ne ne, upd_same]
    · cases q : H0 dx with
      | none => rfl
      | some o =>
        have z := s1 _ _ (hO dx o ne q)
        rw [ndx] at z
        cases z
    · intro g e hg
      rw [lookup_hd] at hg
      by_cases hgf : g = f
      · rw [if_pos hgf] at hg
        cases hg
        refine ⟨ht, x', by rw [lookup_hd, if_pos hgf], ?_⟩
        have o1 : Off a H1 (upd (upd H1 dx (exd dx [(f, x')])) a (exo a C (some dx))) := ((Off.refl a H1).new ndx).upd
        exact Dp.off o1 (by rw [s1 _ _ ha]; exact nt_exo) n d x' ht hx'
      · rw [if_neg hgf] at hg
        cases hg
  · refine .inr ⟨dx, vs, s1 _ _ ha, s1 _ _ hdx, by omega, k _ ⟨fun b o nb hb => ?_, hN, .inr ⟨dx, (f, x') :: vs, ?_, upd_same, h0x, hne, by rw [List.length_cons, List.length_cons, hvl], ?_⟩⟩⟩
    · have nbd : b ≠ dx := fun z => by rw [z, h0x] at hb; cases hb
      rw [upd_ne nbd]
      exact s1 _ _ (hO b o nb hb)
    · have nad : a ≠ dx := fun z => hne z.symm
      rw [upd_ne nad]
      exact s1 _ _ ha
    · have o1 : Off dx H1 (upd H1 dx (exd dx ((f, x') :: vs))) := (Off.refl dx H1).upd
      have n1 : NotTup (H1 dx) := by rw [s1 _ _ hdx]; exact nt_exd
      intro g e hg
      rw [lookup_hd] at hg
      by_cases hgf : g = f
      · rw [if_pos hgf] at hg
        cases hg
        exact ⟨ht, x', by rw [lookup_hd, if_pos hgf], Dp.off o1 n1 n d x' ht hx'⟩
      · rw [if_neg hgf] at hg
        obtain ⟨t1, v, h1, h2⟩ := hv g e hg
        exact ⟨t1, v, by rw [lookup_hd, if_neg hgf]; exact h1, Dp.off o1 n1 n e v t1 (Dp.mono s1 h2)⟩
end Ss
namespace Ss
open PySem L2 PySem.Spec PyProof.Rows
/-- the error class x of the text: its own __init__ keeps sp -/
structure EDef (P : Program) (w : World) (K : PySem.W.Frag) (mg : Str → Option Value) (base : Heap) (k : Nat) (x : Str) (C : Addr) (ini : String) (ps : List Str) (sp : Sp) : Prop where
  ex : ∃ (fd : FuncData), EMk P w K mg base CX0 C ini k ps sp fd ∧ mg x = some (.ref C) ∧ ∀ n, n + 1 ≤ ps.length → NB fd ps (n + 1) (ps.drop (n + 1))
section
variable {X : Cx} {C : Addr} {ini : String} {k j n : Nat} {ps ks : List Str} {sp : Sp} {x : Str} {p pos : Pos} {e : Expr} {es : List Expr} {kws : List Keyword} {ta tk : TA}
theorem pe_en (n : Nat) (D : EDef X.prog X.w X.K X.mg X.base k x C ini ps sp) (hr : Room j X.A) (ha : PA X (e :: es) ta) (hd : ps.drop (n + 1) = [] := by rfl) (hl : n + 1 ≤ ps.length := by decide) (hk : k + 1 ≤ j := by decide) (hn : n ≤ 1000 := by decide) (hg : Gl X x := by rfl)
    (hdb : (x == ("__debug__" : Str)) = false := by decide) (he : starEach (e :: es) X.env = (false, eval e X.env) :: starEach es X.env := by rfl) (hpl : (backTo pos (starEach es X.env)).any (·.1) = false := by rfl) :
    PE X (.Call (.Name x p) (e :: es) [] pos) (tEMk C n 0 sp E0 ta tNil) := by
  obtain ⟨fd, M, hm, nb⟩ := D.ex
  exact pe_emk M hm hr (by have q := nb n hl; rw [hd] at q; exact q) pass0 ha hk hn hg hdb he hpl
theorem pe_en0 (D : EDef X.prog X.w X.K X.mg X.base k x C ini ps sp) (hr : Room j X.A) (hd : ps.drop 1 = [] := by rfl) (hl : 1 ≤ ps.length := by decide) (hk : k + 1 ≤ j := by decide) (hg : Gl X x := by rfl)
    (hdb : (x == ("__debug__" : Str)) = false := by decide) : PE X (.Call (.Name x p) [] [] pos) (tEMk C 0 0 sp E0 tNil tNil) := by
  obtain ⟨fd, M, hm, nb⟩ := D.ex
  exact pe_emk0 M hm hr (by have q := nb 0 hl; rw [hd] at q; exact q) pass0 hk hg hdb
theorem pe_enK (n : Nat) (D : EDef X.prog X.w X.K X.mg X.base k x C ini ps sp) (hr : Room j X.A) (ha : PA X (e :: es) ta) (hkw : PK X kws tk) (hl : n + 1 ≤ ps.length := by decide) (hk : k + 1 ≤ j := by decide) (hn : n ≤ 1000 := by decide) (hg : Gl X x := by rfl)
    (hall : (backToKw pos (keywordEach kws X.env)).all (·.1.isSome) = true := by rfl) (hks : (backToKw pos (keywordEach kws X.env)).filterMap (·.1) = ps.drop (n + 1) := by rfl) (hdb : (x == ("__debug__" : Str)) = false := by decide)
    (he : starEach (e :: es) X.env = (false, eval e X.env) :: starEach es X.env := by rfl)
    (hpl : ((backTo pos (starEach (e :: es) X.env)).any (·.1) || (backToKw pos (keywordEach kws X.env)).any (·.1.isNone)) = false := by rfl) :
    PE X (.Call (.Name x p) (e :: es) kws pos) (tEMk C n (ps.drop (n + 1)).length sp E0 ta tk) := by
  obtain ⟨fd, M, hm, nb⟩ := D.ex
  exact pe_emkK M hm hr (nb n hl) pass0 ha hkw hk hn hg hall hks hdb he hpl
theorem pe_enK0 (D : EDef X.prog X.w X.K X.mg X.base k x C ini ps sp) (hr : Room j X.A) (hkw : PK X kws tk) (hl : 1 ≤ ps.length := by decide) (hk : k + 1 ≤ j := by decide) (hg : Gl X x := by rfl)
    (hall : (backToKw pos (keywordEach kws X.env)).all (·.1.isSome) = true := by rfl) (hks : (backToKw pos (keywordEach kws X.env)).filterMap (·.1) = ps.drop 1 := by rfl) (hdb : (x == ("__debug__" : Str)) = false := by decide)
    (hpl : ((backTo pos (starEach [] X.env)).any (·.1) || (backToKw pos (keywordEach kws X.env)).any (·.1.isNone)) = false := by rfl) :
    PE X (.Call (.Name x p) [] kws pos) (tEMk C 0 (ps.drop 1).length sp E0 tNil tk) := by
  obtain ⟨fd, M, hm, nb⟩ := D.ex
  exact pe_emkK0 M hm hr (nb 0 hl) pass0 hkw hk hg hall hks hdb hpl
end
/-- the values xs are the data ds, and may stand in an error's text -/
def EDat (K : PySem.W.Frag) (H : Hp) (n : Nat) (xs : List V) (ds : List PyData) : Prop := xs.length = ds.length ∧ ∀ (i : Nat) (x : V), xs[i]? = some x → ∃ d, ds[i]? = some d ∧ Dp K H x d ∧ tupD n d = true ∧ Shown K H x
/-- C.__init__(self, ..): an error with its fields -/
def spErr (K : PySem.W.Frag) (C : Addr) (fs : List Str) (n : Nat) : Sp := fun vs H Q _ => ∃ (a : Addr) (xs : List V) (ds : List PyData), vs = .ref a :: xs ∧ xs.length = fs.length ∧ H a = some (exo a C none) ∧ EDat K H n xs ds ∧
  ∀ H', Part K H H' a C n ((fs.zip ds).reverse) → Q .non H'
theorem one_of {α : Type} {xs : List α} (h : xs.length = 1) : ∃ x, xs = [x] := by
  match xs, h with
  | [x], _ => exact ⟨x, rfl⟩
theorem two_of {α : Type} {xs : List α} (h : xs.length = 2) : ∃ x y, xs = [x, y] := by
  match xs, h with
  | [x, y], _ => exact ⟨x, y, rfl⟩
theorem three_of {α : Type} {xs : List α} (h : xs.length = 3) : ∃ x y z, xs = [x, y, z] := by
  match xs, h with
  | [x, y, z], _ => exact ⟨x, y, z, rfl⟩
theorem nil_of {α : Type} {xs : List α} (h : xs.length = 0) : xs = [] := by
  match xs, h with
  | [], _ => rfl
/-- SlipError, whose __init__ is that of ValueError -/
structure SlipB (K : PySem.W.Frag) (mg : Str → Option Value) (S : Addr) : Prop where
  gS : mg "SlipError" = some (.ref S)
  rd : PySem.W.readsIn K S (.type "type") = true
  ga : PySem.W.specialIn K (.ref S) "__getattribute__" = some (some (.builtin "type.__getattribute__"))
  vV : PySem.W.findCls K (.ref S) (.type "type") "__init__" = some (.val (.builtin "ValueError.__init__"))
structure LookB (K : PySem.W.Frag) (mg : Str → Option Value) : Prop where
  gL : mg "LookupError" = none
  vL : PySem.W.findCls K (.type "LookupError") (.type "type") "__init__" = some (.val (.builtin "LookupError.__init__"))
structure RunB (K : PySem.W.Frag) (mg : Str → Option Value) : Prop where
  gR : mg "RuntimeError" = none
  vR : PySem.W.findCls K (.type "RuntimeError") (.type "type") "__init__" = some (.val (.builtin "RuntimeError.__init__"))
theorem typ_LE : typeOf (.type "LookupError") = pure (.type "type") := by kernel_rfl
theorem typ_RE : typeOf (.type "RuntimeError") = pure (.type "type") := by kernel_rfl
/-- the error's class, as the text's top has written it, with its __init__ -/
structure EAtop (K : PySem.W.Frag) (mg : Str → Option Value) (x qual : Str) (C : Addr) (ini : String) (fs : List Str) (st : Stmt) : Prop where
  ec : EC K C ini
  mg : mg x = some (.ref C)
  ex : ∃ (fI : Addr) (fd : FuncData), PySem.W.findIn K (.ref C) "__init__" = some (some (.ref fI)) ∧ PySem.W.typeIn K (.ref fI) = some (.type "function") ∧ Fun K "__init__" qual st fI fd
  no : ∀ f ∈ fs, PySem.W.findIn K (.ref C) f = some none
theorem part0 {K : PySem.W.Frag} {H : Hp} {a C : Addr} {n : Nat} (ha : H a = some (exo a C none)) : Part K H H a C n [] := ⟨Off.refl a H, by rw [ha]; exact nt_exo, .inl ⟨rfl, ha⟩⟩
end Ss
namespace Ss
open PySem L2 PySem.Spec PyProof.Rows
def eNames : List Str := ["BadCount", "BadBook", "Ambiguous", "Unwritable", "Unused", "BadRule", "NoPlace", "NoCase", "Uneven", "Unwritten", "Clash", "Unknown", "TooFew", "NothingToUndo", "Refused", "TooDeep"]
/-- the sixteen error classes: which is which -/
structure ETab (K : PySem.W.Frag) (mg : Str → Option Value) (Cf : Nat → Addr) (S : Addr) : Prop where
  g : ∀ i x, eNames[i]? = some x → mg x = some (.ref (Cf i))
  gS : mg "SlipError" = some (.ref S)
  ec : ∀ i, i < 16 → ∃ ini, EC K (Cf i) ini
  own : ∀ i j, i < 16 → j < 16 → PySem.W.kitOne K (.ref (Cf i)) (.ref (Cf j)) = some (decide (i = j))
  slip : ∀ i, i < 16 → PySem.W.kitOne K (.ref (Cf i)) (.ref S) = some (decide (i < 11))
  val : ∀ i, i < 16 → PySem.W.kitOne K (.ref (Cf i)) (.type "ValueError") = some (decide (i < 11))
  look : ∀ i, i < 16 → PySem.W.kitOne K (.ref (Cf i)) (.type "LookupError") = some (decide (11 ≤ i ∧ i < 14))
  run : ∀ i, i < 16 → PySem.W.kitOne K (.ref (Cf i)) (.type "RuntimeError") = some (decide (14 ≤ i))
  bv : mg "ValueError" = none
  bl : mg "LookupError" = none
  br : mg "RuntimeError" = none
/-- at a: an error of the i-th class -/
def IsE (Cf : Nat → Addr) (H : Hp) (a : Addr) (i : Nat) : Prop := i < 16 ∧ ∃ dd, H a = some (exo a (Cf i) dd) ∧ ∀ d, dd = some d → ∃ fs, H d = some (exd d fs)
theorem IsE.mono {Cf : Nat → Addr} {H H' : Hp} {a : Addr} {i : Nat} (h : IsE Cf H a i) (s : Same H H') : IsE Cf H' a i := by
  obtain ⟨hi, dd, ha, hd⟩ := h
  exact ⟨hi, dd, s _ _ ha, fun d e => let ⟨fs, q⟩ := hd d e; ⟨fs, s _ _ q⟩⟩
section
variable {K : PySem.W.Frag} {mg : Str → Option Value} {Cf : Nat → Addr} {S : Addr} {H : Hp} {a : Addr} {i j : Nat}
theorem rc_isx (Z : ETab K mg Cf S) (h : IsE Cf H a i) {c : V} {cv : Value} {b : Bool} (k : ClsV c cv) (e : PySem.W.kitOne K (.ref (Cf i)) cv = some b) : Evl.RC (rIsX K) [.ref a, c] H (.bl b) := fun H1 s Q q => by
  obtain ⟨hi, dd, ha, hd⟩ := h.mono s
  obtain ⟨ini, T⟩ := Z.ec i hi
  exact ⟨a, Cf i, dd, ini, c, cv, b, rfl, ha, hd, T, k, e, q H1 (Evl.Ex.refl H1)⟩
theorem ev_isx (Z : ETab K mg Cf S) {σ : L2.St} (h0 : σ[0]? = some (some (.ref a))) (h : IsE Cf H a i) (j : Nat) (hj : j < 16) : Evl.Ev (tCB (rIsX K) (tCons (tVar 0) (tCons (tC (.ref (Cf j))) tNil))) σ H (.bl (decide (i = j))) :=
  Evl.ev_cb (Evl.ea_cons (Evl.ev_var h0) (Evl.ea_cons Evl.ev_c Evl.ea_nil)) (rc_isx Z h (.own _) (Z.own i j h.1 hj))
end
theorem el_cat {σ : L2.St} {H : Hp} {ta tb : TE} {l : Addr} {xs ys : List V} (ha : Evl.Ev ta σ H (.ref l)) (hl : H l = some (.lst xs)) (hb : Evl.EvL tb σ H ys) (hz : xs.length + ys.length ≤ 100000) : Evl.EvL (tOp rCat ta tb) σ H (xs ++ ys) := fun H1 e Q q =>
  ha H1 e _ fun H2 e2 => hb H2 (e.trans e2) _ fun p H3 hp e3 h3 => ⟨l, p, xs, ys, rfl, rfl, e3 _ _ (e2 _ _ (e _ _ hl)), h3, Evl.sz_of hz, fun r hr => q r _ (Evl.fresh_back (e2.trans e3) hr) ((e2.trans e3).trans (Evl.Ex.new hr)) upd_same⟩
/-- sixteen answers, the i-th one alone is yes -/
def bl16 (i : Nat) : List V := (List.range 16).map fun k => V.bl (decide (i = k))
/-- lists of truth values as data -/
theorem dp_bools {K : PySem.W.Frag} {H : Hp} : ∀ (bs : List Bool), DpAll K H (bs.map V.bl) (bs.map PyData.bool)
  | [] => .nil
  | b :: bs => .cons (.bl b) (dp_bools bs)
theorem lay_bools : ∀ bs : List Bool, PyData.canLayAll0 (bs.map PyData.bool) = true
  | [] => rfl
  | b :: bs => by
    rw [List.map_cons]
    show (PyData.canLay0 (.bool b) && PyData.canLayAll0 (bs.map PyData.bool)) = true
    rw [lay_bools bs]
    rfl
theorem deep_bools : ∀ bs : List Bool, PyData.depthAll (bs.map PyData.bool) = 0
  | [] => rfl
  | b :: bs => by
    rw [List.map_cons]
    show max (PyData.depth (.bool b)) (PyData.depthAll (bs.map PyData.bool)) = 0
    rw [deep_bools bs]
    rfl
theorem shaped_bools (bs : List Bool) : SeqAt.shaped (.list (bs.map PyData.bool)) = true := by
  show (PyData.canLayAll0 (bs.map PyData.bool) && decide (PyData.depthAll (bs.map PyData.bool) + 1 ≤ 64)) = true
  rw [lay_bools, deep_bools]
  rfl
theorem same_data {d : PyData} (h : SeqAt.shaped d = true) : PyData.eqv d d = true := SeqAt.eqv_refl d (SeqAt.canLay_of_shaped h)
/-- two lists of the same truth values are equal -/
theorem rv_eqb {K : PySem.W.Frag} {H : Hp} {p q : Addr} {bs : List Bool} (h1 : H p = some (.lst (bs.map V.bl))) (h2 : H q = some (.lst (bs.map V.bl))) : Evl.RV (rEqD K) (.ref p) (.ref q) H (.bl true) := fun H1 e Q k =>
  ⟨_, _, .lst (SqL.of (e _ _ h1)) (dp_bools bs), .lst (SqL.of (e _ _ h2)) (dp_bools bs), shaped_bools bs, shaped_bools bs, by rw [same_data (shaped_bools bs)]; exact k H1 (Evl.Ex.refl H1)⟩
theorem rv_neb {K : PySem.W.Frag} {H : Hp} {p q : Addr} {bs : List Bool} (h1 : H p = some (.lst (bs.map V.bl))) (h2 : H q = some (.lst (bs.map V.bl))) : Evl.RV (rNeD K) (.ref p) (.ref q) H (.bl false) := fun H1 e Q k =>
  ⟨_, _, .lst (SqL.of (e _ _ h1)) (dp_bools bs), .lst (SqL.of (e _ _ h2)) (dp_bools bs), shaped_bools bs, shaped_bools bs, by rw [same_data (shaped_bools bs)]; exact k H1 (Evl.Ex.refl H1)⟩
def b16 (i : Nat) : List Bool := (List.range 16).map fun k => decide (i = k)
theorem b16_bl (i : Nat) : (b16 i).map V.bl = bl16 i := by
  unfold b16 bl16
  rw [List.map_map]
  rfl
theorem given_b16 (i : Nat) : Evl.given 16 (fun _ => true) (fun k => V.bl (decide ((V.int (k : Int)) = V.int (i : Int)))) = (b16 i).map V.bl := by
  unfold Evl.given b16
  rw [List.filter_eq_self.mpr (fun _ _ => rfl), List.map_map]
  refine List.map_congr_left fun k _ => ?_
  show V.bl _ = V.bl _
  congr 1
  show decide ((V.int (k : Int)) = V.int (i : Int)) = decide (i = k)
  by_cases h : i = k
  · subst h; simp
  · rw [decide_eq_false h]
    refine decide_eq_false fun e => h ?_
    have q := V.int.inj e
    omega
def spClasses (Cf : Nat → Addr) : Sp := fun vs H Q _ => ∃ (a : Addr) (i : Nat), vs = [.ref a] ∧ IsE Cf H a i ∧ ∀ p H', H p = none → Same H H' → H' p = some (.lst ((b16 i).map V.bl)) → Q (.ref p) H'
def spIs (Cf : Nat → Addr) : Sp := fun vs H Q _ => ∃ (a : Addr) (i : Nat), vs = [.ref a, .int i] ∧ IsE Cf H a i ∧ ∀ H', Same H H' → Q (.bl true) H'
end Ss
namespace Ss
open PySem L2 PySem.Spec PyProof.Rows
theorem EDat.mono {K : PySem.W.Frag} {H H' : Hp} {n : Nat} {xs : List V} {ds : List PyData} (h : EDat K H n xs ds) (s : Same H H') : EDat K H' n xs ds :=
  ⟨h.1, fun i x e => let ⟨d, h1, h2, h3, h4⟩ := h.2 i x e; ⟨d, h1, Dp.mono s h2, h3, Shown.mono s h4⟩⟩
/-- at a: an error of the class at C with the fields fs -/
def Has (K : PySem.W.Frag) (H : Hp) (a C : Addr) (fs : List (Str × PyData)) : Prop := ∃ (dx : Addr) (vs : List (Str × V)), H a = some (exo a C (some dx)) ∧ H dx = some (exd dx vs) ∧ ∀ f d, fs.lookup f = some d → ∃ v, vs.lookup f = some v ∧ Dp K H v d
theorem Has.mono {K : PySem.W.Frag} {H H' : Hp} {a C : Addr} {fs : List (Str × PyData)} (h : Has K H a C fs) (s : Same H H') : Has K H' a C fs := by
  obtain ⟨dx, vs, h1, h2, h3⟩ := h
  exact ⟨dx, vs, s _ _ h1, s _ _ h2, fun f d e => let ⟨v, q1, q2⟩ := h3 f d e; ⟨v, q1, Dp.mono s q2⟩⟩
theorem Has.isE {K : PySem.W.Frag} {H : Hp} {a : Addr} {Cf : Nat → Addr} {i : Nat} {fs : List (Str × PyData)} (h : Has K H a (Cf i) fs) (hi : i < 16) : IsE Cf H a i := by
  obtain ⟨dx, vs, h1, h2, h3⟩ := h
  exact ⟨hi, some dx, h1, fun d e => by cases e; exact ⟨vs, h2⟩⟩
/-! ### what evaluates to data, to an error -/
def EvD (K : PySem.W.Frag) (te : TE) (σ : L2.St) (H : Hp) (d : PyData) : Prop := ∀ H1, Evl.Ex H H1 → ∀ Q : VK, (∀ v H2, Evl.Ex H1 H2 → Dp K H2 v d → Q v H2) → te σ H1 Q
def EvX (K : PySem.W.Frag) (te : TE) (σ : L2.St) (H : Hp) (C : Addr) (fs : List (Str × PyData)) : Prop := ∀ H1, Evl.Ex H H1 → ∀ Q : VK, (∀ a H2, Evl.Ex H1 H2 → Has K H2 a C fs → Q (.ref a) H2) → te σ H1 Q
section
variable {K : PySem.W.Frag} {σ : L2.St} {H : Hp} {te ta tb : TE} {C : Addr} {fs : List (Str × PyData)} {d : PyData}
theorem evd_var {i : Nat} {x : V} (h : σ[i]? = some (some x)) (hd : Dp K H x d) : EvD K (tVar i) σ H d := fun H1 e Q q => ⟨x, h, q x H1 (Evl.Ex.refl H1) (Dp.mono e hd)⟩
theorem evx_var {i : Nat} {a : Addr} (h : σ[i]? = some (some (.ref a))) (hd : Has K H a C fs) : EvX K (tVar i) σ H C fs := fun H1 e Q q => ⟨.ref a, h, q a H1 (Evl.Ex.refl H1) (hd.mono e)⟩
theorem evx_make {ta tk : TA} {n m : Nat} {names : List Str} {vs zs : List V} {ds : List PyData} (hv : Evl.EvA ta σ H vs) (hz : Evl.EvA tk σ H zs) (l1 : vs.length = n) (l2 : zs.length = m) (hl : (vs ++ zs).length = names.length) (hp : names ≠ []) (hd : EDat K H 1 (vs ++ zs) ds) :
    EvX K (tEMk C n m (spErr K C names 1) E0 ta tk) σ H C ((names.zip ds).reverse) := fun H1 e1 Q q => hv H1 e1 _ fun H2 e2 => hz H2 (e1.trans e2) _ fun H3 e3 => ⟨l1, l2, fun a ha => by
      have s3 : Same H H3 := (e1.trans e2).trans e3
      have s4 : Same H (upd H3 a (exo a C none)) := Same.new s3 ha
      refine ⟨a, _, ds, rfl, hl, upd_same, hd.mono s4, fun H4 hP => ⟨rfl, ?_⟩⟩
      obtain ⟨hO, hN, hc⟩ := hP
      have s5 : Same H3 H4 := fun b o hb => hO b o (ne_of_none hb ha) (by rw [upd_ne (ne_of_none hb ha)]; exact hb)
      refine q a H4 ((e2.trans e3).trans s5) ?_
      rcases hc with ⟨hnil, _⟩ | ⟨dx, vs', h1, h2, _, _, _, h3⟩
      · have hz0 : (names.zip ds).length = 0 := by
          have := congrArg List.length hnil
          rwa [List.length_reverse] at this
        rw [List.length_zip] at hz0
        have e1 := hd.1
        have : names.length ≠ 0 := fun z => hp (List.eq_nil_of_length_eq_zero z)
        omega
      · exact ⟨dx, vs', h1, h2, fun f d e => (h3 f d e).2⟩⟩
theorem evd_ef {f : Str} {ini : String} (h : EvX K te σ H C fs) (T : EC K C ini) (hno : PySem.W.findIn K (.ref C) f = some none) (hl : fs.lookup f = some d) : EvD K (tEF K f te) σ H d := fun H1 e Q q =>
  h H1 e _ fun a H2 e2 hh => by
    obtain ⟨dx, vs, h1, h2, h3⟩ := hh
    obtain ⟨v, q1, q2⟩ := h3 f d hl
    exact ⟨a, C, dx, ini, vs, v, rfl, h1, h2, T, hno, q1, q v H2 e2 q2⟩
theorem et_ned (h1 : EvD K ta σ H d) (h2 : EvD K tb σ H d) (hs : SeqAt.shaped d = true) : Evl.EvT (tTest (tOp (rNeD K) ta tb)) σ H false := fun H1 e Q q =>
  h1 H1 e _ fun v H2 e2 hv => h2 H2 (e.trans e2) _ fun w H3 e3 hw => ⟨d, d, Dp.mono e3 hv, hw, hs, hs, by rw [same_data hs]; exact ⟨false, rfl, q H3 (e2.trans e3)⟩⟩
theorem ev_eqd (h1 : EvD K ta σ H d) (h2 : EvD K tb σ H d) (hs : SeqAt.shaped d = true) : Evl.Ev (tOp (rEqD K) ta tb) σ H (.bl true) := fun H1 e Q q =>
  h1 H1 e _ fun v H2 e2 hv => h2 H2 (e.trans e2) _ fun w H3 e3 hw => ⟨d, d, Dp.mono e3 hv, hw, hs, hs, by rw [same_data hs]; exact q H3 (e2.trans e3)⟩
theorem q_asgX {D : Ends} {tz : TS} {i : Nat} (h : EvX K te σ H C fs) (k : ∀ a H1, Evl.Ex H H1 → Has K H1 a C fs → tz D (σ.set i (some (.ref a))) H1) : tSeq (tAsg te (gName i)) tz D σ H := h H (Evl.Ex.refl H) _ fun a H1 e hh => k a H1 e hh
theorem ev_is {Cf : Nat → Addr} {a : Addr} {i : Nat} {E : XK} (h0 : σ[j]? = some (some (.ref a))) (h : IsE Cf H a i) : Evl.Ev (tCall (spIs Cf) [] E (tCons (tVar j) (tCons (tC (.int (i : Int))) tNil))) σ H (.bl true) :=
  Evl.ev_call (Evl.ea_cons (Evl.ev_var h0) (Evl.ea_cons Evl.ev_c Evl.ea_nil)) fun H1 e Q q _ => ⟨a, i, rfl, h.mono e, fun H2 s => q H2 s⟩
end
/-- a value that may be put into an error, as data d -/
structure Wth (K : PySem.W.Frag) (H : Hp) (v : V) (d : PyData) : Prop where
  dp : Dp K H v d
  tu : tupD 1 d = true
  sd : SeqAt.shaped d = true
  sn : Shown K H v
theorem Wth.mono {K : PySem.W.Frag} {H H' : Hp} {v : V} {d : PyData} (h : Wth K H v d) (s : Same H H') : Wth K H' v d := ⟨Dp.mono s h.dp, h.tu, h.sd, Shown.mono s h.sn⟩
theorem edat1 {K : PySem.W.Frag} {H : Hp} {v : V} {d : PyData} (h : Wth K H v d) : EDat K H 1 [v] [d] := ⟨rfl, fun i x e => by
  match i with
  | 0 => cases e; exact ⟨d, rfl, h.dp, h.tu, h.sn⟩
  | i + 1 => simp at e⟩
theorem edat2 {K : PySem.W.Frag} {H : Hp} {v v' : V} {d d' : PyData} (h : Wth K H v d) (h' : Wth K H v' d') : EDat K H 1 [v, v'] [d, d'] := ⟨rfl, fun i x e => by
  match i with
  | 0 => cases e; exact ⟨d, rfl, h.dp, h.tu, h.sn⟩
  | 1 => cases e; exact ⟨d', rfl, h'.dp, h'.tu, h'.sn⟩
  | i + 2 => simp at e⟩
theorem edat3 {K : PySem.W.Frag} {H : Hp} {v v' v2 : V} {d d' d2 : PyData} (h : Wth K H v d) (h' : Wth K H v' d') (h2 : Wth K H v2 d2) : EDat K H 1 [v, v', v2] [d, d', d2] := ⟨rfl, fun i x e => by
  match i with
  | 0 => cases e; exact ⟨d, rfl, h.dp, h.tu, h.sn⟩
  | 1 => cases e; exact ⟨d', rfl, h'.dp, h'.tu, h'.sn⟩
  | 2 => cases e; exact ⟨d2, rfl, h2.dp, h2.tu, h2.sn⟩
  | i + 3 => simp at e⟩
/-- the i-th error class, ready: its class, its __init__, its fields -/
structure Er (P : Program) (w : World) (K : PySem.W.Frag) (mg : Str → Option Value) (base : Heap) (Cf : Nat → Addr) (i : Nat) (x : Str) (ini : String) (names : List Str) : Prop where
  d : EDef P w K mg base 3 x (Cf i) ini ("self" :: names) (spErr K (Cf i) names 1)
  ec : EC K (Cf i) ini
  no : ∀ f ∈ names, PySem.W.findIn K (.ref (Cf i)) f = some none
end Ss
namespace Ss
open PySem L2 PySem.Spec PyProof.Rows
theorem lk1 {α : Type} {f : Str} {d : α} : [(f, d)].lookup f = some d := by rw [lookup_hd, if_pos rfl]
theorem lk2a {α : Type} {f g : Str} {d e : α} : [(g, e), (f, d)].lookup g = some e := by rw [lookup_hd, if_pos rfl]
theorem lk2b {α : Type} {f g : Str} {d e : α} (h : ¬ f = g) : [(g, e), (f, d)].lookup f = some d := by rw [lookup_hd, if_neg h]; exact lk1
theorem lk3a {α : Type} {f g k : Str} {d e c : α} : [(k, c), (g, e), (f, d)].lookup k = some c := by rw [lookup_hd, if_pos rfl]
theorem lk3b {α : Type} {f g k : Str} {d e c : α} (h : ¬ g = k) : [(k, c), (g, e), (f, d)].lookup g = some e := by rw [lookup_hd, if_neg h]; exact lk2a
theorem lk3c {α : Type} {f g k : Str} {d e c : α} (h : ¬ f = k) (h2 : ¬ f = g) : [(k, c), (g, e), (f, d)].lookup f = some d := by rw [lookup_hd, if_neg h]; exact lk2b h2
theorem ev_isN {K : PySem.W.Frag} {Cf : Nat → Addr} {σ : L2.St} {H : Hp} {E : XK} {i : Nat} (hi : i < 16) : Evl.Ev (tCall (spIs Cf) [] E (tCons (tEMk (Cf i) 0 0 (spErr K (Cf i) [] 1) E0 tNil tNil) (tCons (tC (.int (i : Int))) tNil))) σ H (.bl true) := fun H1 e Q q =>
  ⟨rfl, rfl, fun a ha => ⟨a, [], [], rfl, rfl, upd_same, ⟨rfl, fun i x e => by simp at e⟩, fun H2 hP => ⟨rfl, a, i, rfl, by
    obtain ⟨hO, hN, hc⟩ := hP
    have s5 : Same H1 H2 := fun b o hb => hO b o (ne_of_none hb ha) (by rw [upd_ne (ne_of_none hb ha)]; exact hb)
    refine ⟨?_, fun H3 s3 => q H3 (s5.trans s3)⟩
    rcases hc with ⟨_, h1⟩ | ⟨dx, vs', h1, h2, _, _, _, h3⟩
    · exact ⟨hi, none, h1, fun d e => by cases e⟩
    · exact ⟨hi, some dx, h1, fun d e => by cases e; exact ⟨vs', h2⟩⟩⟩⟩⟩
end Ss
namespace Ss
open PySem L2 PySem.Spec PyProof.Rows
/-- data lean on tuples alone -/
theorem Dp.tups {K : PySem.W.Frag} {H H' : Hp} (h1 : ∀ b xs, H b = some (.tup xs) → H' b = some (.tup xs)) (h2 : ∀ b o xs, H b = some (.frz o (.tup xs)) → H' b = some (.frz o (.tup xs))) : ∀ (n : Nat) (d : PyData) (v : V), tupD n d = true → Dp K H v d → Dp K H' v d := by
  intro n
  induction n with
  | zero =>
    intro d v ht h
    cases h with
    | non => exact .non
    | bl b => exact .bl b
    | int i => exact .int i
    | str x => exact .str x
    | lst _ _ => exact Bool.noConfusion ht
    | tup _ _ => exact Bool.noConfusion ht
  | succ n ih =>
    intro d v ht h
    cases h with
    | non => exact .non
    | bl b => exact .bl b
    | int i => exact .int i
    | str x => exact .str x
    | lst _ _ => exact Bool.noConfusion ht
    | @tup a xs ds hs ha =>
      have hall := (tupD_all ht).2
      refine .tup (xs := xs) ?_ (DpAll.imp (p := fun d => tupD n d = true) (fun d v hd h => ih d v hd h) ha hall)
      rcases hs with (hs | ⟨q, hs⟩) | hs
      · exact .inl (.inl (h1 _ _ hs))
      · exact .inl (.inr ⟨q, h2 _ _ _ hs⟩)
      · exact .inr hs
/-- raise C(e, ..), C's own __init__ keeping sp: n values -/
def tEMkR (C : Addr) (n : Nat) (sp : Sp) (ta : TA) : L2.St → Hp → XK → Prop := fun σ H Q => ta σ H fun vs H1 => vs.length = n ∧ ∀ a, H1 a = none → sp (.ref a :: vs) (upd H1 a (exo a C none))
  (fun v H2 => v = .non ∧ ∃ (d : Addr) (fs : List (Str × V)), H2 a = some (exo a C (some d)) ∧ H2 d = some (exd d fs) ∧ H1 d = none ∧ Q (.ref C) (some d) (upd (del H2 a) d (.xd fs))) (fun _ _ _ => False)
theorem pmk_ec {X : Cx} {x : Str} {C : Addr} {ini : String} {k j n : Nat} {ps : List Str} {sp : Sp} {e : Expr} {es : List Expr} {ta : TA} {p pos : Pos} (D : EDef X.prog X.w X.K X.mg X.base k x C ini ps sp) (hr : Room j X.A) (ha : PA X (e :: es) ta) (hd : ps.drop (n + 1) = []) (hl : n + 1 ≤ ps.length)
    (hk : k + 1 ≤ j := by decide) (hn : n ≤ 1000 := by decide) (hg : Gl X x := by rfl) (hdb : (x == ("__debug__" : Str)) = false := by decide) (he : starEach (e :: es) X.env = (false, eval e X.env) :: starEach es X.env := by rfl) (hpl : (backTo pos (starEach es X.env)).any (·.1) = false := by rfl) :
    PMk X (.Call (.Name x p) (e :: es) [] pos) (tEMkR C n sp ta) := by
  obtain ⟨fd, M, hm, nb⟩ := D.ex
  have hb : NB fd ps (n + 1) [] := by have q := nb n hl; rw [hd] at q; exact q
  obtain ⟨fI, iC, tI, F1⟩ := M.ex
  intro pins s σ H Q I h
  obtain ⟨B, newId, bmB, nm, q, N, bs, bm, sn, sub, ab, col, dd, k0, k1, k2, k3, k5, F, hC, hT, hbm⟩ := M.ec.cls
  refine wpAny_Call_Name_kw (ld_glob I hg hm ?_ hdb)
  refine PySem.W.callWith_K (h₀ := X.base) I.ok.mod.kin M.ec.kC (thn (ha.run pos pins s σ H _ I h) fun us s1 ⟨vs, H1, I1, r1, hz, q1⟩ => ⟨I1.kIn, ?_⟩) he hpl
  show wpAny _ _ (call (.ref C) us) _ _ _
  obtain ⟨hp, g, dr, tk, os⟩ := s1
  have hsz : hp.objs.size ≤ hp.objs.size + 1 := Nat.le_succ _
  have hq := q1 (hp.objs.size + 1) (I1.hok.fresh hsz)
  have kk : ∀ b o, hp.get? b = some o → ((hp.push (PySem.W.kdv_tup us)).push (PySem.HandSPX.excO C hp.objs.size)).get? b = some o := fun b o e => Heap.get?_push_of_some _ (Heap.get?_push_of_some _ e)
  have hget : ((hp.push (PySem.W.kdv_tup us)).push (PySem.HandSPX.excO C hp.objs.size)).get? (hp.objs.size + 1) = some (PySem.HandSPX.excO C hp.objs.size) := by heap_get
  have I2 : Inv X pins σ (upd H1 (hp.objs.size + 1) (exo (hp.objs.size + 1) C none)) ⟨(hp.push (PySem.W.kdv_tup us)).push (PySem.HandSPX.excO C hp.objs.size), g, dr, tk, os⟩ :=
    I1.laid (t' := tk) (a := hp.objs.size + 1) (o := exo (hp.objs.size + 1) C none) (h' := (hp.push (PySem.W.kdv_tup us)).push (PySem.HandSPX.excO C hp.objs.size)) kk hsz (exo_ok hget)
  have r2 : Vals (V.ref (hp.objs.size + 1) :: vs) (Value.ref (hp.objs.size + 1) :: (us ++ [])) := by rw [List.append_nil]; exact .cons rfl r1
  have e1 : (Value.ref (hp.objs.size + 1) :: us).length = n + 1 := congrArg Nat.succ (r1.length.symm.trans hz)
  have hus : us.length ≤ sizeLine := by
    rw [← r1.length, hz, sizeLine_eq]
    omega
  refine wpAny_call (SsE.call_kw F hT (I1.kIn _ _ hC) (PySem.W.looks_findIn I1.kIn iC) (fun self => PySem.W.bind_fn I1.kIn self tI) hus
    (codeAny_mono (F1.run _ X.stack _ _ ⟨Value.ref (hp.objs.size + 1) :: us, []⟩ (Value.ref (hp.objs.size + 1) :: us ++ []) _ _ (fun _ _ _ => False) ((hr.mono hk).make C us []) (I2.env0.make C us []) (hb.to _ _ [] e1 rfl) r2 hq) fun r s' hq' => ?_))
  cases r with
  | error er => exact False.elim hq'
  | ok fl =>
    cases fl with
    | ret u =>
      obtain ⟨v, H2, os2, bare2, un2, hok2, rv, ev, d, fs, ea, ed, hd1, q2⟩ := hq'
      subst ev
      obtain ⟨h2, g2, d2, t2, os'⟩ := s'
      exact ⟨rv, mk_end (raises_own M.ec.exC M.ec.tyC) I1 hsz kk un2 hok2 os2 bare2 ea ed hd1 q2⟩
    | next => exact False.elim hq'
    | brk => exact False.elim hq'
    | cont => exact False.elim hq'
/-- isinstance(e, c), e the error that the suite holds at a: its class cls, its dict d -/
def rIsS (K : PySem.W.Frag) (a : Addr) (cls : Value) (d : Option Addr) : List V → Hp → VK → Prop := fun xs H Q => ∃ (C : Addr) (ini : String) (dd : Addr) (fs : List (Str × V)) (c : V) (cv : Value) (b : Bool), xs = [.ref a, c] ∧ cls = .ref C ∧ d = some dd ∧ H dd = some (.xd fs) ∧ EC K C ini ∧
  ClsV c cv ∧ PySem.W.kitOne K (.ref C) cv = some b ∧ Q (.bl b) H
theorem call_isS {X : Cx} {a : Addr} {oe : Obj} {cls : Value} {d : Option Addr} {pn : List (Addr × Obj)} (hz : Zc cls d oe) (hf : ∃ vs, oe.data = .fields vs) : CallR (X.suite a ((a, oe) :: pn)) (.builtin "isinstance") (rIsS X.K a cls d) := by
  intro pins s σ H xs us Q I r h
  obtain ⟨C, ini, dd, fs, c, cv, b, rfl, rfl, rfl, ed, T, k, e, q⟩ := h
  obtain ⟨u1, u2, rfl, r1, r2⟩ := vals2 r
  have e2 := k.eq r2
  subst e2
  cases (show u1 = Value.ref a from r1)
  obtain ⟨hget, _⟩ := I.pin (a, oe) (List.mem_append.mpr (.inl List.mem_cons_self))
  obtain ⟨vs, hv⟩ := hf
  obtain ⟨mA, hns, hr⟩ := (show ObjOk X.prog X.w H s.heap dd (.xd fs) from I.hok dd _ ed)
  obtain ⟨od, ho, hl⟩ := lookIn_ns hns
  have J : ∃ od, PySem.W.InstAt s.heap a oe C od := ⟨some od, hget, hz.1, by unfold PySem.W.notCls; rw [hv] <;> rfl, by rw [hz.2]; exact ho⟩
  exact PySem.W.kia_one (PySem.W.ssKit T.ga T.gg T.exC T.hdC T.ha T.hn T.ht T.hm) I.kIn J e (fun z => nomatch z) fun tk => ⟨.bl b, H, I.kept (t' := tk) fun _ _ z => z, rfl, q⟩
theorem EC.xf {K : PySem.W.Frag} {C : Addr} {ini : String} (T : EC K C ini) : XfC K C := ⟨T.ga, T.gg, T.exC, T.hdC⟩
/-- behind the making of a raised error with one field: what was tracked stands, the field holds the data -/
theorem emkr_one {K : PySem.W.Frag} {σ : L2.St} {H : Hp} {C : Addr} {f : Str} {i : Nat} {v : V} {d : PyData} {Q : XK} (hi : σ[i]? = some (some v)) (hw : Wth K H v d)
    (k : ∀ (dd : Addr) (fs : List (Str × V)) (v' : V) (H' : Hp), Same H H' → H' dd = some (.xd fs) → fs.lookup f = some v' → Dp K H' v' d → Q (.ref C) (some dd) H') : tEMkR C 1 (spErr K C [f] 1) (tCons (tVar i) tNil) σ H Q := by
  refine ⟨v, hi, rfl, fun a ha => ?_⟩
  have s4 : Same H (upd H a (exo a C none)) := Same.new (Same.refl H) ha
  refine ⟨a, [v], [d], rfl, rfl, upd_same, edat1 (hw.mono s4), fun H2 hP => ⟨rfl, ?_⟩⟩
  obtain ⟨hO, hN, hc⟩ := hP
  rcases hc with ⟨hnil, _⟩ | ⟨dx, vs', h1, h2, h0, hne, _, h3⟩
  · cases hnil
  have h0x : H dx = none := by rw [upd_ne hne] at h0; exact h0
  obtain ⟨_, v', q1, q2⟩ := h3 f d lk1
  refine ⟨dx, vs', h1, h2, h0x, k dx vs' v' _ (fun b o hb => ?_) upd_same q1 ?_⟩
  · have nba := ne_of_none hb ha
    have nbd := ne_of_none hb h0x
    rw [upd_ne nbd, del_ne nba]
    exact hO b o nba (by rw [upd_ne nba]; exact hb)
  · refine Dp.tups (H := H2) (fun b xs hb => ?_) (fun b o xs hb => ?_) 1 d v' hw.tu q2
    · rw [upd_ne (fun z => by rw [z, h2] at hb; cases hb), del_ne (fun z => by rw [z, h1] at hb; cases hb)]
      exact hb
    · rw [upd_ne (fun z => by rw [z, h2] at hb; cases hb), del_ne (fun z => by rw [z, h1] at hb; cases hb)]
      exact hb
end Ss
namespace Ss
open PySem L2 PyProof.Rows
/-- raise C(e), e any expression whose value may stand in an error -/
theorem emkr_oneE {K : PySem.W.Frag} {σ : L2.St} {H : Hp} {C : Addr} {f : Str} {te : TE} {v : V} {d : PyData} {Q : XK} (he : Evl.Ev te σ H v) (hw : Wth K H v d)
    (k : ∀ (dd : Addr) (fs : List (Str × V)) (v' : V) (H' : Hp), Same H H' → H' dd = some (.xd fs) → fs.lookup f = some v' → Dp K H' v' d → Q (.ref C) (some dd) H') : tEMkR C 1 (spErr K C [f] 1) (tCons te tNil) σ H Q := by
  refine he H (Evl.Ex.refl H) _ fun H1 s1 => ?_
  have q := emkr_one (K := K) (σ := [some v]) (i := 0) (C := C) (f := f) (Q := Q) rfl (hw.mono s1) fun dd fs v' H' s h1 h2 h3 => k dd fs v' H' (s1.trans s) h1 h2 h3
  obtain ⟨v2, e2, q⟩ := q
  cases e2
  exact q
/-! ### tokens -/
def sgC (c : Nat) : Bool := decide (33 ≤ c) && decide (c ≤ 126) && decide (c ≠ 37)
def tokOk (z : Str) : Bool := decide (1 ≤ z.length) && decide (z.length ≤ 4) && z.cps.toList.all sgC
theorem sg_iff : ∀ c : Nat, sgC c = true ↔ c ∈ SGN := by
  intro c
  have h1 : ∀ c, c < 200 → (sgC c = decide (c ∈ SGN)) := by decide +kernel
  by_cases h : c < 200
  · rw [h1 c h, decide_eq_true_eq]
  · constructor
    · intro z
      unfold sgC at z
      simp only [Bool.and_eq_true, decide_eq_true_eq] at z
      omega
    · intro z
      have q : ∀ d ∈ SGN, d < 200 := by decide +kernel
      exact absurd (q c z) h
theorem tok_mk {t : List Nat} (h1 : 1 ≤ t.length) (h2 : t.length ≤ 4) (h : ∀ c ∈ t, c ∈ SGN) : tokOk (mkS t) = true := by
  unfold tokOk
  rw [mkS_len, mkS_cps, decide_eq_true h1, decide_eq_true h2]
  exact List.all_eq_true.mpr fun c hc => (sg_iff c).mpr (h c hc)
def spIsTok : Sp := fun vs H Q _ => ∃ z : Str, vs = [.str z] ∧ z.length ≤ 1000000 ∧ ∀ H', Same H H' → Q (.bl (tokOk z)) H'
/-- a sign in its place -/
theorem le1 (a b : Nat) : (!decide ((⟨#[b]⟩ : Str).cps.toList < (⟨#[a]⟩ : Str).cps.toList)) = decide (a ≤ b) := by
  show (!decide ([b] < [a])) = decide (a ≤ b)
  by_cases h : a ≤ b
  · rw [decide_eq_true h, decide_eq_false]; · rfl
    intro z
    rcases List.cons_lt_cons_iff.mp z with q | ⟨_, q⟩
    · omega
    · exact absurd q (by simp)
  · rw [decide_eq_false h, decide_eq_true]; · rfl
    exact List.cons_lt_cons_iff.mpr (.inl (by omega))
theorem ev_chain {r r' : R2} {σ : L2.St} {H : Hp} {ta tb tc : TE} {x y z : V} {a b : Bool} (ha : Evl.Ev ta σ H x) (hb : Evl.Ev tb σ H y) (h1 : Evl.RV r x y H (.bl a)) (hc : a = true → Evl.Ev tc σ H z ∧ Evl.RV r' y z H (.bl b)) : Evl.Ev (tChain r r' ta tb tc) σ H (.bl (a && b)) := fun H1 e Q q =>
  ha H1 e _ fun H2 e2 => hb H2 (e.trans e2) _ fun H3 e3 => h1 H3 ((e.trans e2).trans e3) _ fun H4 e4 => ⟨a, rfl, by
    have e14 := (e2.trans e3).trans e4
    cases a with
    | true =>
      rw [if_pos rfl]
      obtain ⟨h2, h3⟩ := hc rfl
      exact h2 H4 (e.trans e14) _ fun H5 e5 => h3 H5 ((e.trans e14).trans e5) _ fun H6 e6 => q H6 ((e14.trans e5).trans e6)
    | false => exact q H4 e14⟩
theorem rv_leS {H : Hp} {x y : Str} {a b : Nat} (hx : x = ⟨#[a]⟩) (hy : y = ⟨#[b]⟩) : Evl.RV (fun x y H Q => ∃ i j, x = .str i ∧ y = .str j ∧ Q (.bl (!decide (j.cps.toList < i.cps.toList))) H) (.str x) (.str y) H (.bl (decide (a ≤ b))) := fun H1 _ Q q => by
  subst hx; subst hy
  exact ⟨_, _, rfl, rfl, by rw [le1]; exact q H1 (Evl.Ex.refl H1)⟩
/-! ### rules -/
inductive RK | out | twice | swapped | taken
  deriving DecidableEq
def RK.word : RK → Str
  | .out => "out"
  | .twice => "twice"
  | .swapped => "swapped"
  | .taken => "taken"
def RK.many : RK → Nat
  | .out => 1
  | .twice => 1
  | .swapped => 2
  | .taken => 2
def RK.rem : RK → List Str → List Str
  | .out, [a] => [a]
  | .twice, [a] => [a]
  | .swapped, [a, b] => [a, b]
  | .taken, [a, _] => [a]
  | _, _ => []
def RK.ins : RK → List Str → List Str
  | .out, [_] => []
  | .twice, [a] => [a, a]
  | .swapped, [a, b] => [b, a]
  | .taken, [_, b] => [b]
  | _, _ => []
theorem RK.word_inj : ∀ {a b : RK}, a.word = b.word → a = b := by
  intro a b
  cases a <;> cases b <;> first | exact fun _ => rfl | (intro h; exact absurd h (by decide +kernel))
/-- what is wrong with the tokens of a rule -/
def badOf : List Str → Option Str
  | [a] => if tokOk a = true then none else some a
  | [a, b] => if tokOk a = true then (if tokOk b = true then (if a = b then some a else none) else some b) else some a
  | _ => none
/-- a rule of the class at C -/
def RuleAt (H : Hp) (C p : Addr) (k : RK) (toks : List Str) : Prop := ∃ dx t r i, H p = some (.ins C dx [("tokens", .ref t), ("removed", .ref r), ("inserted", .ref i)]) ∧ H t = some (.tup (toks.map V.str)) ∧
  H r = some (.tup ((k.rem toks).map V.str)) ∧ H i = some (.tup ((k.ins toks).map V.str))
theorem RuleAt.mono {H H' : Hp} {C p : Addr} {k : RK} {toks : List Str} (h : RuleAt H C p k toks) (s : Same H H') : RuleAt H' C p k toks := by
  obtain ⟨dx, t, r, i, h1, h2, h3, h4⟩ := h
  exact ⟨dx, t, r, i, s _ _ h1, s _ _ h2, s _ _ h3, s _ _ h4⟩
theorem RuleAt.own {H : Hp} {C p : Addr} {k : RK} {toks : List Str} (h : RuleAt H C p k toks) : Own H p C := let ⟨dx, t, r, i, h1, _⟩ := h; ⟨dx, _, h1⟩
/-- what the classes of rules have -/
structure RCl (K : PySem.W.Frag) (C : Addr) (w : Str) : Prop where
  cl : Cls K C
  t : NoAttr K C "tokens"
  r : NoAttr K C "removed"
  i : NoAttr K C "inserted"
  word : ∃ u, Con K C "word" (.str w) u
  cla : PySem.W.findIn K (.ref C) "__class__" = some (some (.builtin "object.__class__"))
  hn : PySem.W.specialIn K (.builtin "object.__class__") "__get__" = some (some (.builtin "getset_descriptor.__get__"))
  htk : PySem.W.takesIn K (.builtin "object.__class__") = some true
  clm : PySem.W.mroIn K C (.type "object") = some true
/-- a text that may stand in an error -/
def wordOk (z : Str) : Prop := z.length ≤ 100 ∧ ∀ c ∈ z.cps.toList, c < 1000
theorem wth_str {K : PySem.W.Frag} {H : Hp} {z : Str} (h : wordOk z) : Wth K H (.str z) (.str z) := by
  have e := mkS_of z
  refine ⟨.str z, rfl, ?_, .inl ?_⟩
  · show (PyData.canLay0 (.str z) && decide (0 ≤ 64)) = true
    have q : PyData.canLay0 (.str z) = true := by
      show z.cps.all (fun c => decide (c < 0x110000)) = true
      rw [← Array.all_toList]
      exact List.all_eq_true.mpr fun c hc => decide_eq_true (Nat.lt_of_lt_of_le (h.2 c hc) (by decide))
    rw [q]; rfl
  · exact ⟨by have := h.1; omega, fun c hc => Nat.lt_of_lt_of_le (h.2 c hc) (by decide)⟩
/-- the error of a bad token, behind H -/
def Bad (Cb : Addr) (H : Hp) (z : Str) (E : XK) : Prop := ∀ (dd : Addr) (fs : List (Str × V)) (H' : Hp), Same H H' → H' dd = some (.xd fs) → fs.lookup ("worth" : Str) = some (V.str z) → E (.ref Cb) (some dd) H'
theorem Bad.mono {Cb : Addr} {H H' : Hp} {z : Str} {E : XK} (h : Bad Cb H z E) (s : Same H H') : Bad Cb H' z E := fun dd fs H2 s2 e1 e2 => h dd fs H2 (s.trans s2) e1 e2
/-- Rule.__init__(self, *tokens): t the tuple of the tokens -/
def spRI (Cb : Addr) (K : PySem.W.Frag) : Sp := fun vs H Q E => ∃ (p t C dx : Addr) (toks : List Str), vs = [.ref p, .ref t] ∧ H t = some (.tup (toks.map V.str)) ∧ H p = some (.ins C dx []) ∧ Cls K C ∧ NoAttr K C "tokens" ∧ (toks.length = 1 ∨ toks.length = 2) ∧ (∀ z ∈ toks, wordOk z) ∧
  (badOf toks = none → ∀ H', Same H H' → Q .non (upd H' p (.ins C dx [("tokens", .ref t)]))) ∧ (∀ z, badOf toks = some z → Bad Cb H z E)
/-- the promise of an __init__ of a class of rules -/
def spNew (Cb C : Addr) (k : RK) : Sp := fun vs H Q E => ∃ (p dx : Addr) (toks : List Str), vs = .ref p :: toks.map V.str ∧ toks.length = k.many ∧ H p = some (.ins C dx []) ∧ (∀ z ∈ toks, wordOk z) ∧
  (badOf toks = none → ∀ H', Off p H H' → RuleAt H' C p k toks → Q .non H') ∧ (∀ z, badOf toks = some z → Bad Cb H z E)
theorem putF_tok (x : V) : putF "tokens" x [] = ([("tokens", x)] : List (Str × V)) := rfl
theorem putF_rem (x y : V) : putF "removed" y [("tokens", x)] = ([("tokens", x), ("removed", y)] : List (Str × V)) := by
  unfold putF; rw [if_neg (by decide +kernel)]; rfl
theorem putF_ins (x y z : V) : putF "inserted" z [("tokens", x), ("removed", y)] = ([("tokens", x), ("removed", y), ("inserted", z)] : List (Str × V)) := by
  unfold putF; rw [if_neg (by decide +kernel)]; unfold putF; rw [if_neg (by decide +kernel)]; rfl
/-- the two last stores of an __init__ -/
theorem rule_end {H0 H1 : Hp} {C p dx t r i : Addr} {k : RK} {toks : List Str} {fs0 : List (Str × V)} (hp : H0 p = some (.ins C dx fs0)) (s : Off p H0 H1) (ht : H1 t = some (.tup (toks.map V.str))) (hp1 : H1 p = some (.ins C dx [("tokens", .ref t)])) (hr : H1 r = none)
    (hi : upd (upd H1 r (.tup ((k.rem toks).map V.str))) p (.ins C dx [("tokens", .ref t), ("removed", .ref r)]) i = none) :
    Off p H0 (upd (upd (upd (upd H1 r (.tup ((k.rem toks).map V.str))) p (.ins C dx [("tokens", .ref t), ("removed", .ref r)])) i (.tup ((k.ins toks).map V.str))) p (.ins C dx [("tokens", .ref t), ("removed", .ref r), ("inserted", .ref i)])) ∧
    RuleAt (upd (upd (upd (upd H1 r (.tup ((k.rem toks).map V.str))) p (.ins C dx [("tokens", .ref t), ("removed", .ref r)])) i (.tup ((k.ins toks).map V.str))) p (.ins C dx [("tokens", .ref t), ("removed", .ref r), ("inserted", .ref i)])) C p k toks := by
  have nrp : p ≠ r := ne_of_none hp1 hr
  have ntp : t ≠ p := fun e => by rw [e, hp1] at ht; cases ht
  have ntr : t ≠ r := ne_of_none ht hr
  have nip : i ≠ p := fun e => by rw [e, upd_same] at hi; cases hi
  have nir : i ≠ r := fun e => by rw [e, upd_ne nrp.symm, upd_same] at hi; cases hi
  have nit : t ≠ i := fun e => by rw [← e, upd_ne ntp, upd_ne ntr, ht] at hi; cases hi
  refine ⟨fun a o na ha => ?_, dx, t, r, i, upd_same, ?_, ?_, ?_⟩
  · have h1 := s a o na ha
    have nar : a ≠ r := ne_of_none h1 hr
    have nai : a ≠ i := fun e => by rw [← e, upd_ne na, upd_ne nar, h1] at hi; cases hi
    rw [upd_ne na, upd_ne nai, upd_ne na, upd_ne nar]; exact h1
  · rw [upd_ne ntp, upd_ne nit, upd_ne ntp, upd_ne ntr]; exact ht
  · rw [upd_ne nrp.symm, upd_ne nir.symm, upd_ne nrp.symm, upd_same]
  · rw [upd_ne nip, upd_same]
end Ss
namespace Ss
open PySem L2 PyProof.Rows
/-! ### tuples and lists of texts, compared -/
theorem eqvAll_strs : ∀ a b : List Str, PyData.eqvAll (a.map PyData.str) (b.map PyData.str) = decide (a = b)
  | [], [] => rfl
  | [], _ :: _ => rfl
  | _ :: _, [] => rfl
  | x :: a, y :: b => by
    show ((x == y) && PyData.eqvAll (a.map PyData.str) (b.map PyData.str)) = _
    rw [eqvAll_strs a b]
    by_cases h : x = y
    · subst h
      by_cases q : a = b
      · subst q; simp
      · have e : decide (x :: a = x :: b) = false := decide_eq_false fun z => q (List.cons.inj z).2
        rw [decide_eq_false q, e, Bool.and_false]
    · have e : decide (x :: a = y :: b) = false := decide_eq_false fun z => h (List.cons.inj z).1
      rw [beq_eq_false_iff_ne.mpr h, e, Bool.false_and]
theorem shapedT_strs {ts : List Str} (h : ts.all okS = true) : SeqAt.shaped (.tuple (ts.map PyData.str)) = true := by
  show (PyData.canLayAll0 (ts.map PyData.str) && decide (PyData.depthAll (ts.map PyData.str) + 1 ≤ 64)) = true
  rw [lay_strs ts h, deep_strs]
  rfl
theorem rv_eqT {K : PySem.W.Frag} {H : Hp} {p q : Addr} {a b : List Str} (ha : a.all okS = true) (hb : b.all okS = true) (h1 : SqT K H p (a.map V.str)) (h2 : SqT K H q (b.map V.str)) : Evl.RV (rEqD K) (.ref p) (.ref q) H (.bl (decide (a = b))) := fun H1 e Q k =>
  ⟨_, _, .tup (Evl.ex_t e h1) (dp_strs a), .tup (Evl.ex_t e h2) (dp_strs b), shapedT_strs ha, shapedT_strs hb, by
    show Q (.bl (PyData.eqvAll _ _)) H1
    rw [eqvAll_strs]; exact k H1 (Evl.Ex.refl H1)⟩
theorem rv_neT {K : PySem.W.Frag} {H : Hp} {p q : Addr} {a b : List Str} (ha : a.all okS = true) (hb : b.all okS = true) (h1 : SqT K H p (a.map V.str)) (h2 : SqT K H q (b.map V.str)) : Evl.RV (rNeD K) (.ref p) (.ref q) H (.bl (!decide (a = b))) := fun H1 e Q k =>
  ⟨_, _, .tup (Evl.ex_t e h1) (dp_strs a), .tup (Evl.ex_t e h2) (dp_strs b), shapedT_strs ha, shapedT_strs hb, by
    show Q (.bl (!PyData.eqvAll _ _)) H1
    rw [eqvAll_strs]; exact k H1 (Evl.Ex.refl H1)⟩
theorem rv_neLs {K : PySem.W.Frag} {H : Hp} {p q : Addr} {a b : List Str} (ha : a.all okS = true) (hb : b.all okS = true) (h1 : SqL K H p (a.map V.str)) (h2 : SqL K H q (b.map V.str)) : Evl.RV (rNeD K) (.ref p) (.ref q) H (.bl (!decide (a = b))) := fun H1 e Q k =>
  ⟨_, _, .lst (Evl.ex_l e h1) (dp_strs a), .lst (Evl.ex_l e h2) (dp_strs b), shaped_strs ha, shaped_strs hb, by
    show Q (.bl (!PyData.eqvAll _ _)) H1
    rw [eqvAll_strs]; exact k H1 (Evl.Ex.refl H1)⟩
theorem okS_word {z : Str} (h : wordOk z) : okS z = true := by
  show z.cps.all (fun c => decide (c < 0x110000)) = true
  rw [← Array.all_toList]
  exact List.all_eq_true.mpr fun c hc => decide_eq_true (Nat.lt_of_lt_of_le (h.2 c hc) (by decide))
theorem okS_words {ts : List Str} (h : ∀ z ∈ ts, wordOk z) : ts.all okS = true := List.all_eq_true.mpr fun z hz => okS_word (h z hz)
theorem RK.word_ok (k : RK) : wordOk k.word := by cases k <;> exact ⟨by decide +kernel, by decide +kernel⟩
/-! ### the classes of rules beside each other -/
def RK.cls : RK → Str
  | .out => "Out"
  | .twice => "Twice"
  | .swapped => "Swapped"
  | .taken => "Taken"
structure RTab (K : PySem.W.Frag) (mg : Str → Option Value) (Cf : RK → Addr) (R : Addr) : Prop where
  cl : ∀ k, RCl K (Cf k) k.word
  g : ∀ k, mg k.cls = some (.ref (Cf k))
  gR : mg "Rule" = some (.ref R)
  own : ∀ a b, PySem.W.kitOne K (.ref (Cf a)) (.ref (Cf b)) = some (decide (a = b))
  base : ∀ a, PySem.W.kitOne K (.ref (Cf a)) (.ref R) = some true
  tup : PySem.W.kitOne K (.type "tuple") (.ref R) = some false
  nf : ∀ a b, PySem.W.notFirst K (Cf a) (.ref (Cf b)) = true
  nt : ∀ a, PySem.W.notFirst K (Cf a) (.type "tuple") = true
section
variable {K : PySem.W.Frag} {mg : Str → Option Value} {Cf : RK → Addr} {R : Addr} {H : Hp} {p : Addr} {k : RK} {toks : List Str} {σ : L2.St} {te : TE}
theorem rc_isR (Z : RTab K mg Cf R) (h : RuleAt H (Cf k) p k toks) {D : Addr} {b : Bool} (e : PySem.W.kitOne K (.ref (Cf k)) (.ref D) = some b) : Evl.RC (rIsi K) [.ref p, .ref D] H (.bl b) := fun H1 s Q q => by
  obtain ⟨dx, t, r, i, h1, _⟩ := h.mono s
  have c := Z.cl k
  exact ⟨.ref p, .ref D, .ref (Cf k), .ref D, b, rfl, .own D, .base (.ins h1 c.cl c.cla c.hn c.htk c.clm), e, q H1 (Evl.Ex.refl H1)⟩
theorem lk_word (t r i : V) : ([("tokens", t), ("removed", r), ("inserted", i)] : List (Str × V)).lookup ("word" : Str) = none := by
  rw [lookup_hd, if_neg (by decide +kernel), lookup_hd, if_neg (by decide +kernel), lookup_hd, if_neg (by decide +kernel)]
  rfl
/-- r.word, r.tokens -/
theorem ev_word (Z : RTab K mg Cf R) (h : RuleAt H (Cf k) p k toks) (he : Evl.Ev te σ H (.ref p)) : Evl.Ev (tCon K te "word") σ H (.str k.word) := fun H1 s Q q => he H1 s _ fun H2 s2 => by
  obtain ⟨dx, t, r, i, h1, _⟩ := h.mono (s.trans s2)
  obtain ⟨u, cu⟩ := (Z.cl k).word
  exact ⟨p, Cf k, dx, _, _, u, rfl, h1, (Z.cl k).cl, cu, by
    show (([("tokens", V.ref t), ("removed", V.ref r), ("inserted", V.ref i)] : List (Str × V))).lookup ("word" : Str) = none
    rw [lookup_hd, if_neg (by decide +kernel), lookup_hd, if_neg (by decide +kernel), lookup_hd, if_neg (by decide +kernel)]
    rfl, q H2 s2⟩
end
/-- a call of what raises nothing here -/
theorem passN {X : Cx} : Passes (L2.CX X.prog X.w) X (fun _ _ _ => False) := fun _ _ _ _ _ _ _ h => by
  obtain ⟨a, B, H', cls, d, h1, h2, h3, h4, h5, h6, h7, h8⟩ := h
  exact h8.elim
/-- the constant of a class of rules, read by the class's name -/
structure RNm (K : PySem.W.Frag) (mg : Str → Option Value) (k : RK) (C : Addr) : Prop where
  rd : ClsRd K mg k.cls C
  ex : ∃ u, PySem.W.findCls K (.ref C) (.type "type") "word" = some (.val u) ∧ RelV (.str k.word) u ∧ PySem.W.handedIn u = true
/-- a drawn rule: of tokens of the list at p -/
def spRule (K : PySem.W.Frag) : Sp := fun vs H Q _ => ∃ (b p : Addr) (n : Nat) (ws : List Str), vs = [.ref b, .ref p] ∧ Bag H b n ∧ n ≤ 800000000 ∧ p ≠ b ∧ SqL K H p (ws.map V.str) ∧ 2 ≤ ws.length ∧ ws.length ≤ 1000 ∧ ws.Nodup ∧
  ∀ (q : Addr) (k : RK) (toks : List Str) (H' : Hp), Off b H H' → Bag H' b (n + 3) → H q = none → H' q = some (.tup ((k.word :: toks).map V.str)) → toks.length = k.many → (∀ z ∈ toks, z ∈ ws) → toks.Nodup → Q (.ref q) H'
def spIsR (K : PySem.W.Frag) : Sp := fun vs H Q _ => ∃ (q : Addr) (k : RK) (toks : List Str), vs = [.ref q] ∧ H q = some (.tup ((k.word :: toks).map V.str)) ∧ toks.length = k.many ∧ (∀ z ∈ toks, wordOk z) ∧ badOf toks = none ∧ ∀ H', Same H H' → Q (.bl true) H'
def spOdd : Sp := fun vs H Q _ => ∃ (token more bad other : Str), vs = [.str token, .str more, .str bad, .str other] ∧ wordOk token ∧ wordOk more ∧ wordOk bad ∧ wordOk other ∧ tokOk token = true ∧ tokOk more = true ∧ tokOk bad = false ∧ token ≠ more ∧ ∀ H', Same H H' → Q (.bl true) H'
/-- str of a rule -/
def strR (k : RK) (toks : List Str) : Str := Txt.join " " (k.word :: toks)
theorem sum_small {ts : List Str} (h : ∀ z ∈ ts, wordOk z) : (ts.map (·.length)).sum ≤ 100 * ts.length := by
  induction ts with
  | nil => exact Nat.le_refl _
  | cons t ts ih =>
    have h1 := (h t List.mem_cons_self).1
    have h2 := ih fun z hz => h z (List.mem_cons_of_mem _ hz)
    rw [List.map_cons, List.sum_cons, List.length_cons]
    omega
def spRStr (Cf : RK → Addr) : Sp := fun vs H Q _ => ∃ (p : Addr) (k : RK) (toks : List Str), vs = [.ref p] ∧ RuleAt H (Cf k) p k toks ∧ toks.length ≤ 2 ∧ (∀ z ∈ toks, wordOk z) ∧ ∀ H', Same H H' → Q (.str (strR k toks)) H'
def spREq (K : PySem.W.Frag) (Cf : RK → Addr) : Sp := fun vs H Q _ => ∃ (p q : Addr) (k : RK) (toks : List Str), vs = [.ref p, .ref q] ∧ RuleAt H (Cf k) p k toks ∧ (∀ z ∈ toks, wordOk z) ∧
  ((∃ (k2 : RK) (toks2 : List Str), RuleAt H (Cf k2) q k2 toks2 ∧ (∀ z ∈ toks2, wordOk z) ∧ ∀ H', Same H H' → Q (.bl (decide (k = k2 ∧ toks = toks2))) H') ∨ (∃ xs, H q = some (.tup xs) ∧ ∀ H', Same H H' → Q (.bl false) H'))
/-- the law's way to a rule -/
def spRuled (K : PySem.W.Frag) (Cb : Addr) (Cf : RK → Addr) : Sp := fun vs H Q E => ∃ (q : Addr) (k : RK) (toks : List Str), vs = [.ref q] ∧ SqT K H q ((k.word :: toks).map V.str) ∧ toks.length = k.many ∧ (∀ z ∈ toks, wordOk z) ∧
  (badOf toks = none → ∀ (p : Addr) (H' : Hp), Same H H' → H p = none → RuleAt H' (Cf k) p k toks → Q (.ref p) H') ∧ (∀ z, badOf toks = some z → Bad Cb H z E)
def spWrong (K : PySem.W.Frag) : Sp := fun vs H Q _ => ∃ (q : Addr) (k : RK) (toks : List Str), vs = [.ref q] ∧ SqT K H q ((k.word :: toks).map V.str) ∧ toks.length = k.many ∧ (∀ z ∈ toks, wordOk z) ∧
  ∀ H', Same H H' → Q (match badOf toks with | none => V.non | some z => .str z) H'
section
variable {K : PySem.W.Frag} {σ : L2.St} {H : Hp} {ta : TA} {te : TE} {k : RK} {toks : List Str} {E : XK}
/-- what the law's try answers -/
def wrongV (toks : List Str) : V := match badOf toks with | none => V.non | some z => .str z
theorem ev_wrong (ha : Evl.EvA ta σ H ((k.word :: toks).map V.str)) (hl : toks.length = k.many) (hw : ∀ z ∈ toks, wordOk z) : Evl.Ev (tCall (spWrong K) [] E (tCons (tTup ta) tNil)) σ H (wrongV toks) := fun H1 s1 Q q =>
  (Evl.eu_tup ha (by rw [List.length_map, List.length_cons, hl]; cases k <;> decide)) H1 s1 (fun x H2 => spWrong K [x] H2 Q E) fun p H2 np s2 hp => ⟨p, k, toks, rfl, SqT.of hp, hl, hw, fun H' s' => q H' (s2.trans s')⟩
theorem ev_notN {x : V} (h : Evl.Ev te σ H x) : Evl.Ev (tNotN te) σ H (.bl (!decide (x = .non))) := fun H1 s Q q => h H1 s _ fun H2 s2 => q H2 s2
/-- != of texts -/
theorem et_neS {tb : TE} {a b : Str} {c : Bool} (h1 : Evl.Ev te σ H (.str a)) (h2 : Evl.Ev tb σ H (.str b)) (e : (!decide (a = b)) = c) : Evl.EvT (tTest (tOp rNe te tb)) σ H c :=
  Evl.et_is (Evl.et_test (Evl.ev_op h1 h2 (Evl.rv_ne rfl))) (by rw [← e]; congr 1; exact decide_eq_decide.mpr ⟨fun z => by injection z, fun z => by rw [z]⟩)
end
/-- == and str, whichever class of rules -/
theorem op_eqF {X : Cx} {CX : CXT} {Cf : RK → Addr} {k j : Nat} {ps : List Str} {sp : Sp} {E : XK} (D : ∀ c, Mm X.prog X.w X.K X.mg X.base CX (Cf c) k "__eq__" ps sp) (hr : Room j X.A) (hx : Passes CX X E) (hk : k ≤ j := by decide) : OpR X (compareOp .Eq) (fun x y H Q => ∃ c, rEqO X.K (Cf c) sp E x y H Q) := by
  intro pins s σ H x y v u Q I rx ry h
  obtain ⟨c, h⟩ := h
  exact op_eqO (D c) hr hx hk pins s σ H x y v u Q I rx ry h
theorem call_strF {X : Cx} {CX : CXT} {Cf : RK → Addr} {k j : Nat} {ps : List Str} {sp : Sp} {E : XK} (D : ∀ c, Mm X.prog X.w X.K X.mg X.base CX (Cf c) k "__str__" ps sp) (hr : Room j X.A) (hx : Passes CX X E) (hk : k + 2 ≤ j := by decide) : CallR X (.type "str") (fun xs H Q => ∃ c, rStrO (Cf c) sp E xs H Q) := by
  intro pins s σ H xs us Q I r h
  obtain ⟨c, h⟩ := h
  exact call_strO (D c) hr hx hk pins s σ H xs us Q I r h
theorem ix_tupK {X : Cx} {K : PySem.W.Frag} (h : X.K = K) : IxR X (rIxT K) := by subst h; exact ix_tup
theorem bad_1 {a : Str} (h : tokOk a = false) : badOf [a] = some a := by show (if tokOk a = true then none else some a) = _; rw [h]; rfl
theorem bad_1n {a : Str} (h : tokOk a = true) : badOf [a] = none := by show (if tokOk a = true then none else some a) = _; rw [h]; rfl
theorem bad_2a {a b : Str} (h : tokOk a = false) : badOf [a, b] = some a := by show (if tokOk a = true then _ else some a) = _; rw [h]; rfl
theorem bad_2b {a b : Str} (h : tokOk a = true) (g : tokOk b = false) : badOf [a, b] = some b := by show (if tokOk a = true then (if tokOk b = true then _ else some b) else some a) = _; rw [h, g]; rfl
theorem bad_2e {a : Str} (h : tokOk a = true) : badOf [a, a] = some a := by show (if tokOk a = true then (if tokOk a = true then (if a = a then some a else none) else some a) else some a) = _; rw [h, if_pos rfl, if_pos rfl, if_pos rfl]
theorem bad_2n {a b : Str} (h : tokOk a = true) (g : tokOk b = true) (n : a ≠ b) : badOf [a, b] = none := by show (if tokOk a = true then (if tokOk b = true then (if a = b then some a else none) else some b) else some a) = _; rw [h, g, if_pos rfl, if_pos rfl, if_neg n]
theorem wrong_s {toks : List Str} {z : Str} (h : badOf toks = some z) : wrongV toks = .str z := by unfold wrongV; rw [h]
theorem wrong_n {toks : List Str} (h : badOf toks = none) : wrongV toks = .non := by unfold wrongV; rw [h]
/-- a drawn token -/
def TokS (z : Str) : Prop := ∃ t : List Nat, z = mkS t ∧ 1 ≤ t.length ∧ t.length ≤ 4 ∧ ∀ c ∈ t, c ∈ SGN
theorem TokS.ok {z : Str} (h : TokS z) : tokOk z = true := by
  obtain ⟨t, rfl, h1, h2, h3⟩ := h
  exact tok_mk h1 h2 h3
theorem wordOk_mk {t : List Nat} (h1 : t.length ≤ 100) (h : ∀ c ∈ t, c < 1000) : wordOk (mkS t) := ⟨by rw [mkS_len]; exact h1, by rw [mkS_cps]; exact h⟩
theorem sgn_lt : ∀ c ∈ SGN, c < 1000 := by decide +kernel
theorem TokS.word {z : Str} (h : TokS z) : wordOk z := by
  obtain ⟨t, rfl, h1, h2, h3⟩ := h
  exact wordOk_mk (by omega) fun c hc => sgn_lt c (h3 c hc)
/-- a drawn rule at q -/
structure RT (H : Hp) (q : Addr) (k : RK) (toks : List Str) : Prop where
  at_ : H q = some (.tup ((k.word :: toks).map V.str))
  len : toks.length = k.many
  tok : ∀ z ∈ toks, TokS z
  nd : toks.Nodup
theorem RT.mono {H H' : Hp} {q : Addr} {k : RK} {toks : List Str} (h : RT H q k toks) (e : H' q = H q) : RT H' q k toks := ⟨e.trans h.at_, h.len, h.tok, h.nd⟩
theorem RT.off {H H' : Hp} {q b : Addr} {k : RK} {toks : List Str} {n : Nat} (h : RT H q k toks) (B : Bag H b n) (o : Off b H H') : RT H' q k toks := ⟨o q _ (fun e => by
  obtain ⟨d, m, c, hb, _⟩ := B
  rw [← e, h.at_] at hb; cases hb) h.at_, h.len, h.tok, h.nd⟩
theorem RT.same {H H' : Hp} {q : Addr} {k : RK} {toks : List Str} (h : RT H q k toks) (s : Same H H') : RT H' q k toks := ⟨s _ _ h.at_, h.len, h.tok, h.nd⟩
theorem RT.words {H : Hp} {q : Addr} {k : RK} {toks : List Str} (h : RT H q k toks) : ∀ z ∈ toks, wordOk z := fun z hz => (h.tok z hz).word
theorem RT.good {H : Hp} {q : Addr} {k : RK} {toks : List Str} (h : RT H q k toks) : badOf toks = none := by
  have hl := h.len
  have h12 : toks.length = 1 ∨ toks.length = 2 := by rw [hl]; cases k <;> simp [RK.many]
  match toks, h12, h.tok, h.nd with
  | [a], _, ht, _ => exact bad_1n (ht a (by simp)).ok
  | [a, b], _, ht, nd => exact bad_2n (ht a (by simp)).ok (ht b (by simp)).ok (by simpa using nd)
  | [], h, _, _ => exact absurd h (by decide)
  | _ :: _ :: _ :: _, h, _, _ => exact absurd h (by simp)
theorem RT.neb {H : Hp} {q b : Addr} {k : RK} {toks : List Str} {n : Nat} (h : RT H q k toks) (B : Bag H b n) : q ≠ b := fun e => by
  obtain ⟨d, m, c, hb, _⟩ := B
  rw [← e, h.at_] at hb; cases hb
/-- strings that are no tokens -/
theorem bad_tok {t : List Nat} (h : t.length = 0 ∨ 4 < t.length ∨ ∃ c ∈ t, c < 33) : tokOk (mkS t) = false := by
  cases e : tokOk (mkS t) with
  | false => rfl
  | true =>
    unfold tokOk at e
    rw [mkS_len, mkS_cps] at e
    simp only [Bool.and_eq_true, decide_eq_true_eq, List.all_eq_true] at e
    obtain ⟨⟨h1, h2⟩, h3⟩ := e
    rcases h with h | h | ⟨c, hc, h⟩
    · omega
    · omega
    · have q := h3 c hc
      unfold sgC at q
      simp only [Bool.and_eq_true, decide_eq_true_eq] at q
      omega
theorem joinL_one : ∀ t : List Nat, TL.joinL [] (t.map fun c => [c]) = t
  | [] => rfl
  | [c] => rfl
  | c :: d :: t => by
    show [c] ++ ([] ++ TL.joinL [] ((d :: t).map fun c => [c])) = _
    rw [joinL_one (d :: t)]
    rfl
theorem join_chars (t : List Nat) : Txt.join "" (t.map fun c => (⟨#[c]⟩ : Str)) = mkS t := by
  have h := TL.tl_join "" (t.map fun c => (⟨#[c]⟩ : Str))
  rw [← TL.join_eq, List.map_map] at h
  have e1 : TL.tl ("" : Str) = [] := by decide +kernel
  have e2 : (TL.tl ∘ fun c => (⟨#[c]⟩ : Str)) = fun c : Nat => [c] := rfl
  rw [e1, e2, joinL_one] at h
  have q := mkS_of (Txt.join "" (t.map fun c => (⟨#[c]⟩ : Str)))
  rw [q]
  exact congrArg mkS h
/-- a string that is no token, drawn -/
structure Odd (x : V) : Prop where
  ex : ∃ u : List Nat, x = .str (mkS u) ∧ u.length ≤ 100 ∧ (∀ c ∈ u, c < 1000) ∧ (u.length = 0 ∨ 4 < u.length ∨ ∃ c ∈ u, c < 33)
theorem odd_all {L s : List Nat} (hL : 4 < L.length ∧ L.length ≤ 10 ∧ ∀ c ∈ L, c ∈ SGN) (hs : s.length ≤ 1 ∧ ∀ c ∈ s, c ∈ SGN) : ∀ x ∈ ([V.str "", V.str (mkS L), V.str " ", V.str (mkS s ++ " "), V.str (" " ++ mkS s), V.str (mkS s ++ "\n"), V.str "\n", V.str (mkS s ++ " b"), V.str "\t", V.str (mkS s ++ "\t")] : List V), Odd x := by
  have e0 : ("" : Str) = mkS [] := by decide +kernel
  have e1 : (" " : Str) = mkS [32] := by decide +kernel
  have e2 : ("\n" : Str) = mkS [10] := by decide +kernel
  have e3 : (" b" : Str) = mkS [32, 98] := by decide +kernel
  have e4 : ("\t" : Str) = mkS [9] := by decide +kernel
  have sl : ∀ (v : List Nat) (c : Nat), (∀ d ∈ v, d < 1000) → v.length ≤ 5 → c ∈ v → c < 33 → Odd (.str (mkS (s ++ v))) := fun v c h1 h2 h3 h4 =>
    ⟨s ++ v, rfl, by rw [List.length_append]; have := hs.1; omega, fun d hd => (List.mem_append.mp hd).elim (fun z => sgn_lt d (hs.2 d z)) (h1 d), .inr (.inr ⟨c, List.mem_append_right _ h3, h4⟩)⟩
  intro x hx
  simp only [List.mem_cons, List.not_mem_nil, or_false] at hx
  rcases hx with rfl | rfl | rfl | rfl | rfl | rfl | rfl | rfl | rfl | rfl
  · exact ⟨[], by rw [e0], by decide, by simp, .inl rfl⟩
  · exact ⟨L, rfl, by have := hL.2.1; omega, fun c hc => sgn_lt c (hL.2.2 c hc), .inr (.inl hL.1)⟩
  · exact ⟨[32], by rw [e1], by decide, by decide, .inr (.inr ⟨32, by decide, by decide⟩)⟩
  · rw [e1, mkS_app]; exact sl [32] 32 (by decide) (by decide) (by decide) (by decide)
  · rw [e1, mkS_app]; exact ⟨[32] ++ s, rfl, by rw [List.length_append]; have := hs.1; show 1 + s.length ≤ 100; omega, fun d hd => (List.mem_append.mp hd).elim (fun z => by rw [List.mem_singleton.mp z]; decide) (fun z => sgn_lt d (hs.2 d z)), .inr (.inr ⟨32, List.mem_append_left _ (by decide), by decide⟩)⟩
  · rw [e2, mkS_app]; exact sl [10] 10 (by decide) (by decide) (by decide) (by decide)
  · exact ⟨[10], by rw [e2], by decide, by decide, .inr (.inr ⟨10, by decide, by decide⟩)⟩
  · rw [e3, mkS_app]; exact sl [32, 98] 32 (by decide) (by decide) (by decide) (by decide)
  · exact ⟨[9], by rw [e4], by decide, by decide, .inr (.inr ⟨9, by decide, by decide⟩)⟩
  · rw [e4, mkS_app]; exact sl [9] 9 (by decide) (by decide) (by decide) (by decide)
theorem sum_one : ∀ t : List Nat, ((t.map fun c => (⟨#[c]⟩ : Str)).map (·.length)).sum = t.length
  | [] => rfl
  | c :: t => by
    rw [List.map_cons, List.map_cons, List.sum_cons, sum_one t, List.length_cons]
    show 1 + t.length = t.length + 1
    omega
end Ss
namespace Ss
open PySem PySem.Spec L2 PyProof.Rows
/-! ### x, *rest = a list -/
section
variable {prog : Program} {w : World} {A : Around} {E : Value → Shared → Prop} {s : Shared}
theorem shiftS {I : Addr} {fp wr : List Addr} {G : Array GenState → Array GenState → Prop} {n : Nat} {P : Nat → Value → Prop} {St : Nat → Shared → Prop} (W : WalksS prog w A I fp wr G (n + 1) P St) :
    WalksS prog w A I fp wr G n (fun i v => P (i + 1) v) (fun i s => St (i + 1) s) where
  sub := W.sub
  grefl := W.grefl
  gtrans := W.gtrans
  frame := fun i => W.frame (i + 1)
  item := fun i s Q E hi => W.item (i + 1) s Q E (by omega)
  done := W.done
  self := fun i => W.self (i + 1)
theorem items_eq {x : Value} {xs : List Value} {acc : Array Value} (h : ItemsOf (fun i v => (x :: xs)[i + 1]? = some v) acc xs.length) : acc.toList = xs := by
  refine List.ext_getElem? fun i => ?_
  rw [Array.getElem?_toList]
  by_cases hi : i < acc.size
  · have e := h.2 i acc[i] (by simp [hi])
    rw [Array.getElem?_eq_getElem hi, ← e]
    simp
  · rw [Array.getElem?_eq_none (by omega), List.getElem?_eq_none (by have := h.1; omega)]
theorem unpackItems_star {l : Addr} {x : Value} {xs : List Value} {Q : List Value → Shared → Prop} (hh : A.handled = none) (hl : s.heap.IsList l (x :: xs).toArray) (hz : xs.length ≤ sizeLine)
    (hQ : ∀ (h' : Heap) (tk : Nat), (∀ b o, s.heap.get? b = some o → h'.get? b = some o) → s.toks ≤ tk → Q [x, .ref h'.objs.size] { s with heap := h'.push (seqObj "list" xs.toArray 0), toks := tk }) : wpAny (model prog w) A (unpackItems (.ref l) 2 (some 1)) Q E s := by
  have hlt : l ≠ s.heap.objs.size := by obtain ⟨o, ho, _⟩ := hl; exact Nat.ne_of_lt (Heap.lt_size ho)
  unfold unpackItems
  refine wpAny_bind ?_
  unfold notIterableAtAll
  refine wpAny_bind (wpAny_specialOf hl.typeIs slot_list_iter.lookup ?_)
  refine wpAny_pure ?_
  simp only [Bool.false_eq_true, if_false]
  refine wpAny_bind (wpAny_holding (wpAny_pyIter_list hl ?_))
  refine wpAny_bind (wpAny_holding (PySem.W.kun_draw hlt 1 0 _ _ ⟨_, Heap.get?_push_size _ rfl, rfl, rfl⟩ (hl.push _) (by simp) fun h₁ hit₁ hs₁ => ?_))
  have hl₁ : h₁.IsList l (x :: xs).toArray := (hl.push _).extBut hs₁.extBut hlt
  have hk1 : ∀ b o, s.heap.get? b = some o → h₁.get? b = some o := fun b o e => hs₁.extBut b o (Nat.ne_of_lt (Heap.lt_size e)) (Heap.get?_push_of_some _ e)
  rw [if_neg (by simp)]
  have W := shiftS (n := xs.length) (by have q := (Walks.list (prog := prog) (w := w) (A := A.in1) hh s.heap.objs.size l hlt (x :: xs).toArray).toS; simpa using q)
  refine wpAny_bind (wpAny_holding (wpAny_collect_iter (s := { s with heap := h₁ }) (T := "list_iterator") (.inr (.inr (.inl rfl))) W (fun i s' h => Heap.IsListIter.typeIs h.1) ⟨hit₁, hl₁⟩ (fun b hb => ?_) (List.mem_cons_self) (fun s' acc mv hacc => ?_) hz))
  · rcases List.mem_cons.mp hb with e | hb
    · subst e
      obtain ⟨o, ho, _⟩ := hit₁
      exact Heap.lt_size ho
    · obtain rfl := List.mem_singleton.mp hb
      obtain ⟨o, ho, _⟩ := hl₁
      exact Heap.lt_size ho
  · rw [items_eq hacc]
    simp only [Nat.sub_self, Nat.not_lt_zero, if_false, List.length_cons, Nat.sub_zero, List.take_length, List.drop_length, List.append_nil]
    refine wpAny_bind (wpAny_newList ?_ hz)
    refine wpAny_pure ?_
    rw [Moved.eq_with mv]
    refine hQ s'.heap s'.toks (fun b o e => ?_) ?_
    · refine mv.heap b o (fun hm => ?_) (hk1 b o e)
      obtain rfl := List.mem_singleton.mp hm
      exact absurd (Heap.lt_size e) (Nat.lt_irrefl _)
    · exact mv.toks
end
section
variable {X : Cx} {pos p : Pos}
/-- x, *rest = a list of one or more -/
def gStar1 (K : PySem.W.Frag) (t : TGs) : TG := fun v σ H Q => ∃ a x xs, v = .ref a ∧ SqL K H a (x :: xs) ∧ ∀ q, H q = none → t [x, .ref q] σ (upd H q (.lst xs)) Q
theorem pg_star1 {e1 e2 : Expr} {k : Nat} {t : TGs} (hc : X.calm = true) (h : PGs X [e1, e2] t) (hs : assignEach [e1, .Starred e2 p] X.env = [(false, assign e1 X.env), (true, assign e2 X.env)] := by rfl)
    (h2 : (assignEach [e1, e2] X.env).map (·.2) = [assign e1 X.env, assign e2 X.env] := by rfl) : PG X (.Tuple [e1, .Starred e2 p] k pos) (gStar1 X.K t) := by
  refine ⟨fun pins s σ H v u Q I r hw => ?_⟩
  obtain ⟨a, x, xs, e1', hq, hw⟩ := hw
  subst e1'
  cases r
  obtain ⟨its, rv, pl, hz⟩ := I.list hq
  cases rv with
  | cons rx rxs =>
    rename_i y ys
    rw [PyProof.Rows.assign_Tuple]
    refine wpAny_bind (wpAny_standAt ?_)
    unfold unpack
    rw [hs]
    refine wpAny_bind (wpAny_holding (unpackItems_star (I.ok.hd hc) pl.isList (by rw [← rxs.length]; simp at hz; omega) fun h' tk hk ht => ?_))
    have I1 : Inv X pins σ H { s with heap := h', toks := tk } := I.kept (t' := tk) hk
    have hp := I1.hok.fresh (Nat.le_refl _)
    have I2 : Inv X pins σ (upd H h'.objs.size (.lst xs)) { s with heap := h'.push (seqObj "list" ys.toArray 0), toks := tk } :=
      I1.laid (fun b u q => Heap.get?_push_of_some _ q) (Nat.le_refl _) ⟨by simp at hz; omega, ys, 0, rxs, Heap.get?_push_size _ rfl⟩
    have q := h.run pins _ σ _ [x, .ref h'.objs.size] [y, .ref h'.objs.size] Q I2 (.cons rx (.cons rfl .nil)) (hw _ hp)
    rw [h2] at q
    exact q
end
end Ss
namespace Ss
open PySem L2 PyProof.Rows
/-! ### the text of a rule, read back -/
/-- the rule of a word and its tokens -/
def kindOf (w : Str) (toks : List Str) : Option RK :=
  if toks.all tokOk = true then
    match toks with
    | [_] => if w = "out" then some .out else if w = "twice" then some .twice else none
    | [a, b] => if a = b then none else if w = "swapped" then some .swapped else if w = "taken" then some .taken else none
    | _ => none
  else none
def readOf (z : Str) : Option (RK × List Str) := match Txt.split z " " with
  | [] => none
  | w :: toks => (kindOf w toks).map fun k => (k, toks)
theorem kind_some {w : Str} {toks : List Str} {k : RK} (h : kindOf w toks = some k) : w = k.word ∧ toks.length = k.many ∧ badOf toks = none ∧ (∀ z ∈ toks, tokOk z = true) := by
  unfold kindOf at h
  split at h
  · rename_i ha
    have ha := List.all_eq_true.mp ha
    match toks, h, ha with
    | [a], h, ha =>
      dsimp only at h
      split at h
      · rename_i e; cases h; exact ⟨e, rfl, bad_1n (ha a (by simp)), ha⟩
      · split at h
        · rename_i e; cases h; exact ⟨e, rfl, bad_1n (ha a (by simp)), ha⟩
        · cases h
    | [a, b], h, ha =>
      dsimp only at h
      split at h
      · cases h
      · rename_i n
        split at h
        · rename_i e; cases h; exact ⟨e, rfl, bad_2n (ha a (by simp)) (ha b (by simp)) n, ha⟩
        · split at h
          · rename_i e; cases h; exact ⟨e, rfl, bad_2n (ha a (by simp)) (ha b (by simp)) n, ha⟩
          · cases h
    | [], h, _ => cases h
    | _ :: _ :: _ :: _, h, _ => cases h
  · cases h
theorem kind_of {k : RK} {toks : List Str} (hl : toks.length = k.many) (ht : ∀ z ∈ toks, tokOk z = true) (nd : toks.Nodup) : kindOf k.word toks = some k := by
  unfold kindOf
  rw [if_pos (List.all_eq_true.mpr ht)]
  match k, toks, hl, nd with
  | .out, [a], _, _ => rfl
  | .twice, [a], _, _ => show (if RK.word .twice = "out" then _ else _) = _; rw [if_neg (by decide +kernel)]; rfl
  | .swapped, [a, b], _, nd => show (if a = b then none else _) = _; rw [if_neg (by simpa using nd)]; rfl
  | .taken, [a, b], _, nd => show (if a = b then none else if RK.word .taken = "swapped" then _ else _) = _; rw [if_neg (by simpa using nd), if_neg (by decide +kernel)]; rfl
theorem split_ne (z : Str) : Txt.split z " " ≠ [] := fun e => by
  have h := congrArg List.length (TL.split_spl z " " (by decide +kernel) (TL.kind_ok (by decide +kernel)))
  rw [List.length_map, e] at h
  have q : ∀ (L acc : List Nat), TL.spl (TL.tl " ") 0 acc L ≠ [] := by
    intro L
    induction L with
    | nil => intro acc; rw [TL.spl_nil]; simp
    | cons c r ih =>
      intro acc
      cases hp : TL.pre (TL.tl " ") (c :: r) with
      | true => rw [TL.spl_hit hp]; simp
      | false => rw [TL.spl_miss hp]; exact ih _
  exact q _ _ (List.length_eq_zero_iff.mp h.symm)
theorem read_some {z : Str} {k : RK} {toks : List Str} (h : readOf z = some (k, toks)) : Txt.split z " " = k.word :: toks ∧ toks.length = k.many ∧ badOf toks = none ∧ strR k toks = z := by
  unfold readOf at h
  split at h
  · cases h
  · rename_i w ts e
    rw [Option.map_eq_some_iff] at h
    obtain ⟨k', h1, h2⟩ := h
    cases h2
    obtain ⟨e1, e2, e3, _⟩ := kind_some h1
    subst e1
    refine ⟨e, e2, e3, ?_⟩
    unfold strR
    rw [← e, TL.join_eq]
    exact StrLaws.join_split z " "
theorem read_split {z w : Str} {toks : List Str} (h : Txt.split z " " = w :: toks) : readOf z = (kindOf w toks).map fun k => (k, toks) := by
  unfold readOf; rw [h]
theorem tok_no32 {z : Str} (h : tokOk z = true) : 32 ∉ TL.tl z := fun m => by
  unfold tokOk at h
  simp only [Bool.and_eq_true, List.all_eq_true] at h
  exact absurd (h.2 32 m) (by decide)
theorem word_no32 (k : RK) : 32 ∉ TL.tl k.word := by cases k <;> decide +kernel
theorem split_strR {k : RK} {toks : List Str} (ht : ∀ z ∈ toks, tokOk z = true) : Txt.split (strR k toks) " " = k.word :: toks := by
  refine TL.split_join (s := 32) (S := []) (by decide +kernel) (by decide +kernel) (by simp) fun p hp => ?_
  rcases List.mem_cons.mp hp with rfl | hp
  · exact word_no32 k
  · exact tok_no32 (ht p hp)
theorem read_join {k : RK} {toks : List Str} (hl : toks.length = k.many) (ht : ∀ z ∈ toks, tokOk z = true) (nd : toks.Nodup) : readOf (strR k toks) = some (k, toks) := by
  rw [read_split (split_strR ht), kind_of hl ht nd]; rfl
/-! ### small texts -/
/-- a text of at most n plain signs -/
def TX (n : Nat) (z : Str) : Prop := ∃ u : List Nat, z = mkS u ∧ u.length ≤ n ∧ ∀ c ∈ u, c < 128
theorem TX.mono {n m : Nat} {z : Str} (h : TX n z) (e : n ≤ m) : TX m z := let ⟨u, a, b, c⟩ := h; ⟨u, a, Nat.le_trans b e, c⟩
theorem TX.cat {n m : Nat} {a b : Str} (h : TX n a) (g : TX m b) : TX (n + m) (a ++ b) := by
  obtain ⟨u, rfl, h1, h2⟩ := h
  obtain ⟨v, rfl, g1, g2⟩ := g
  refine ⟨u ++ v, mkS_app u v, by rw [List.length_append]; omega, fun c hc => ?_⟩
  rcases List.mem_append.mp hc with q | q
  · exact h2 c q
  · exact g2 c q
theorem TX.lit {n : Nat} {z : Str} (h : (decide (z.length ≤ n) && z.cps.toList.all fun c => decide (c < 128)) = true) : TX n z := by
  simp only [Bool.and_eq_true, decide_eq_true_eq, List.all_eq_true] at h
  refine ⟨z.cps.toList, mkS_of z, ?_, h.2⟩
  have q := mkS_len z.cps.toList
  rw [← mkS_of z] at q
  omega
theorem TX.word {z : Str} (h : TX 100 z) : wordOk z := by
  obtain ⟨u, rfl, h1, h2⟩ := h
  exact wordOk_mk h1 fun c hc => Nat.lt_trans (h2 c hc) (by decide)
theorem TX.len {n : Nat} {z : Str} (h : TX n z) : z.length ≤ n := by
  obtain ⟨u, rfl, h1, _⟩ := h
  rw [mkS_len]; exact h1
theorem TokS.tx {z : Str} (h : TokS z) : TX 4 z := by
  obtain ⟨t, rfl, _, h2, h3⟩ := h
  exact ⟨t, rfl, h2, fun c hc => (show ∀ d ∈ SGN, d < 128 from by decide +kernel) c (h3 c hc)⟩
theorem RK.tx (k : RK) : TX 7 k.word := TX.lit (by cases k <;> decide +kernel)
theorem joinL_tx {n : Nat} : ∀ {ws : List (List Nat)}, (∀ u ∈ ws, u.length ≤ n ∧ ∀ c ∈ u, c < 128) → (TL.joinL [32] ws).length ≤ ws.length * (n + 1) ∧ ∀ c ∈ TL.joinL [32] ws, c < 128
  | [], _ => ⟨Nat.zero_le _, fun c hc => by cases hc⟩
  | [u], h => by
    have q := h u (by simp)
    refine ⟨?_, q.2⟩
    show u.length ≤ 1 * (n + 1)
    omega
  | u :: v :: r, h => by
    have q := h u (by simp)
    have ih := joinL_tx (ws := v :: r) fun x hx => h x (List.mem_cons_of_mem _ hx)
    have e : TL.joinL [32] (u :: v :: r) = u ++ ([32] ++ TL.joinL [32] (v :: r)) := rfl
    rw [e]
    refine ⟨?_, fun c hc => ?_⟩
    · rw [List.length_append, List.length_append, List.length_cons (a := u), Nat.add_mul (v :: r).length]
      have := ih.1
      show u.length + (1 + _) ≤ _
      omega
    · rcases List.mem_append.mp hc with m | m
      · exact q.2 c m
      · rcases List.mem_append.mp m with m | m
        · rw [List.mem_singleton.mp m]; decide
        · exact ih.2 c m
theorem TX.join {n m : Nat} {ws : List Str} (h : ∀ z ∈ ws, TX n z) (hm : ws.length * (n + 1) ≤ m) : TX m (Txt.join " " ws) := by
  have e := TL.tl_join " " ws
  rw [← TL.join_eq] at e
  have e1 : TL.tl " " = [32] := by decide +kernel
  rw [e1] at e
  have q := joinL_tx (n := n) (ws := ws.map TL.tl) fun u hu => by
    obtain ⟨z, hz, rfl⟩ := List.mem_map.mp hu
    obtain ⟨v, rfl, h1, h2⟩ := h z hz
    have e2 : TL.tl (mkS v) = v := mkS_cps v
    rw [e2]; exact ⟨h1, h2⟩
  rw [List.length_map] at q
  refine ⟨TL.tl (Txt.join " " ws), mkS_of _, ?_, ?_⟩
  · rw [e]; exact Nat.le_trans q.1 hm
  · rw [e]; exact q.2
theorem repl_one (a : Nat) (ys : List Nat) : ∀ L : List Nat, PySem.StrLaws.replL [a] ys L = L.flatMap fun c => if c = a then ys else [c]
  | [] => PySem.StrLaws.replL_nil
  | c :: r => by
    rw [List.flatMap_cons, ← repl_one a ys r]
    by_cases h : c = a
    · subst h
      rw [if_pos rfl, PySem.StrLaws.replL_hit (by simp) rfl]
      rfl
    · rw [if_neg h, PySem.StrLaws.replL_miss (by show ¬ (c :: r).take 1 = [a]; simpa using h)]
      rfl
theorem flat_len {a : Nat} {ys : List Nat} {n : Nat} (h1 : 1 ≤ n) (h : ys.length ≤ n) : ∀ L : List Nat, (L.flatMap fun c => if c = a then ys else [c]).length ≤ n * L.length
  | [] => Nat.zero_le _
  | c :: r => by
    rw [List.flatMap_cons, List.length_append, List.length_cons, Nat.mul_add]
    have := flat_len (a := a) h1 h r
    split
    · omega
    · simp only [List.length_cons, List.length_nil]; omega
theorem TX.repl {n k a : Nat} {z y x : Str} {ys : List Nat} (h : TX n z) (hy : y = mkS [a]) (hx : x = mkS ys) (h1 : 1 ≤ k) (hk : ys.length ≤ k) (hc : ∀ c ∈ ys, c < 128) : TX (k * n) (Txt.replace z y x) := by
  obtain ⟨u, rfl, h1', h2⟩ := h
  subst hy; subst hx
  have e := PySem.StrLaws.replace_list (x := mkS u) (y := mkS [a]) (z := mkS ys) (by rw [mkS_len]; exact Nat.le_refl 1)
  rw [mkS_cps, mkS_cps, mkS_cps, repl_one] at e
  refine ⟨_, mkS_of _, ?_, ?_⟩
  · rw [e]; exact Nat.le_trans (flat_len h1 hk u) (Nat.mul_le_mul_left k h1')
  · rw [e]
    intro c hc2
    obtain ⟨d, hd, hm⟩ := List.mem_flatMap.mp hc2
    split at hm
    · exact hc c hm
    · rw [List.mem_singleton.mp hm]; exact h2 d hd
theorem TX.upper {n : Nat} {z : Str} (h : TX n z) : TX n (Txt.upper z) := by
  obtain ⟨u, rfl, h1, h2⟩ := h
  have e : Txt.upper (mkS u) = mkS (u.map PyProof.Rows.up1) := SX.upper_S (List.all_eq_true.mpr fun c hc => decide_eq_true (h2 c hc))
  refine ⟨_, e, by rw [List.length_map]; exact h1, fun c hc => ?_⟩
  obtain ⟨d, hd, rfl⟩ := List.mem_map.mp hc
  have q : ∀ d, d < 128 → PyProof.Rows.up1 d < 128 := by decide +kernel
  exact q d (h2 d hd)
theorem spl_sub : ∀ (L acc : List Nat), ∀ p ∈ TL.spl [32] 0 acc L, p.length ≤ acc.length + L.length ∧ ∀ c ∈ p, c ∈ acc ∨ c ∈ L
  | [], acc, p, hp => by
    rw [TL.spl_nil] at hp
    rw [List.mem_singleton.mp hp]
    exact ⟨Nat.le_add_right _ _, fun c hc => .inl hc⟩
  | c :: r, acc, p, hp => by
    cases hh : TL.pre [32] (c :: r) with
    | true =>
      rw [TL.spl_hit hh] at hp
      rcases List.mem_cons.mp hp with rfl | hp
      · exact ⟨Nat.le_add_right _ _, fun c hc => .inl hc⟩
      · obtain ⟨h1, h2⟩ := spl_sub r [] p hp
        exact ⟨by rw [List.length_cons]; simp at h1; omega, fun d hd => .inr (List.mem_cons_of_mem _ ((h2 d hd).resolve_left (by simp)))⟩
    | false =>
      rw [TL.spl_miss hh] at hp
      obtain ⟨h1, h2⟩ := spl_sub r (acc ++ [c]) p hp
      refine ⟨by rw [List.length_append] at h1; simp at h1 ⊢; omega, fun d hd => ?_⟩
      rcases h2 d hd with q | q
      · rcases List.mem_append.mp q with q | q
        · exact .inl q
        · exact .inr (by rw [List.mem_singleton.mp q]; exact List.mem_cons_self)
      · exact .inr (List.mem_cons_of_mem _ q)
theorem TX.parts {n : Nat} {z : Str} (h : TX n z) : ∀ p ∈ Txt.split z " ", TX n p := fun p hp => by
  obtain ⟨u, rfl, h1, h2⟩ := h
  have e := TL.split_spl (mkS u) " " (by decide +kernel) (TL.kind_ok (by decide +kernel))
  have e1 : TL.tl " " = [32] := by decide +kernel
  have e2 : TL.tl (mkS u) = u := mkS_cps u
  rw [e1, e2] at e
  have m : TL.tl p ∈ TL.spl [32] 0 [] u := by rw [← e]; exact List.mem_map_of_mem hp
  obtain ⟨g1, g2⟩ := spl_sub u [] _ m
  exact ⟨TL.tl p, mkS_of p, by have g1 : (TL.tl p).length ≤ 0 + u.length := g1; show (TL.tl p).length ≤ n; omega, fun c hc => h2 c ((g2 c hc).resolve_left (by simp))⟩
theorem split_small {z : Str} {n : Nat} (h : TX n z) : (Txt.split z " ").length ≤ n + 2 := Nat.le_trans (split_le z " ") (by have := h.len; omega)
theorem given_list {α : Type} (l : List α) (v : Nat → V) (g : α → V) (h : ∀ i x, l[i]? = some x → v i = g x) : Evl.given l.length (fun _ => true) v = l.map g := by
  unfold Evl.given
  rw [List.filter_eq_self.mpr (fun _ _ => rfl)]
  refine List.ext_getElem? fun i => ?_
  rw [List.getElem?_map, List.getElem?_map]
  cases e : l[i]? with
  | none => rw [List.getElem?_eq_none (by rw [List.length_range]; exact List.getElem?_eq_none_iff.mp e)]; rfl
  | some x =>
    have hi := (List.getElem?_eq_some_iff.mp e).1
    rw [List.getElem?_range hi]
    exact congrArg some (h i x e)
theorem given_filter (l : List Nat) (f : Nat → Bool) (v : Nat → V) : Evl.given l.length (fun i => f (l.getD i 0)) (fun i => v (l.getD i 0)) = (l.filter f).map v := by
  have e : (List.range l.length).map (fun i => l.getD i 0) = l := by
    refine List.ext_getElem? fun i => ?_
    rw [List.getElem?_map]
    by_cases h : i < l.length
    · rw [List.getElem?_range h, List.getElem?_eq_getElem h]
      show some (l.getD i 0) = _
      rw [List.getD_eq_getElem?_getD, List.getElem?_eq_getElem h]; rfl
    · rw [List.getElem?_eq_none (by rw [List.length_range]; omega), List.getElem?_eq_none (by omega)]; rfl
  have q : ((List.range l.length).map (fun i => l.getD i 0)).filter f = l.filter f := by rw [e]
  rw [← q, List.filter_map, List.map_map]
  rfl
/-- [e for c in a text if ..] -/
theorem el_lcStr {σ : L2.St} {H : Hp} {tl te : TE} {t : TT} {j : Nat} {vs : List Nat} {z : Str} (f : Nat → Bool) (v : Nat → V) (h : Evl.Ev tl σ H (.str z)) (hz : z.length ≤ 40000) (hw : ∀ x, wipe ((wipe σ vs).set j (some x)) vs = wipe σ vs)
    (ht : ∀ (c : Nat) H1, Same H H1 → c ∈ z.cps.toList → Evl.EvT t ((wipe σ vs).set j (some (.str ⟨#[c]⟩))) H1 (f c)) (he : ∀ (c : Nat) H1, Same H H1 → f c = true → Evl.Ev te ((wipe σ vs).set j (some (.str ⟨#[c]⟩))) H1 (v c)) :
    Evl.EvL (tLc (iStr tl) (gName j) t te vs) σ H ((z.cps.toList.filter f).map v) := fun H0 e Q q => h H0 e _ fun H1 e1 => by
  have hs : z.cps.size = z.length := rfl
  rw [← given_filter] at q
  rw [Array.length_toList] at q
  refine ⟨z, rfl, fun Dl hD => lc_it (walk_str (z := z)) (Evl.Cw H1 (fun i => f (z.cps.toList.getD i 0)) (fun i => v (z.cps.toList.getD i 0)) Dl) ⟨hD, Evl.Ex.new hD, upd_same⟩ (fun _ _ _ _ => trivial) (fun i x H' H2 hi p y => ?_) (fun H' p => q Dl H' (Evl.fresh_back e1 p.1) (e1.trans p.2.1) p.2.2)⟩
  obtain ⟨rfl, c, hc, rfl⟩ := y
  have hc' : z.cps.toList[i]? = some c := by rw [Array.getElem?_toList]; exact hc
  have ec : z.cps.toList.getD i 0 = c := by rw [List.getD_eq_getElem?_getD, hc']; rfl
  refine ⟨hw _, Evl.cw_turn p (by omega) ?_ (fun hf => ?_)⟩
  · show Evl.EvT _ _ _ (f (z.cps.toList.getD i 0))
    rw [ec]
    exact ht c H1 (e.trans e1) (List.mem_of_getElem? hc')
  · show Evl.Ev _ _ _ (v (z.cps.toList.getD i 0))
    have hf : f (z.cps.toList.getD i 0) = true := hf
    rw [ec] at hf ⊢
    exact he c H1 (e.trans e1) hf
/-! ### what the law wants of a word -/
def wantN (w : Str) : Option Nat := if w = "out" then some 2 else if w = "twice" then some 2 else if w = "swapped" then some 3 else if w = "taken" then some 3 else none
def WK0 : List (Key × V) := [(.inr "out", .int 2), (.inr "twice", .int 2), (.inr "swapped", .int 3), (.inr "taken", .int 3)]
theorem want_val (w : Str) : valV (mergeK [] WK0) (.inr w) = (wantN w).map fun n : Nat => V.int n := by
  have e : mergeK [] WK0 = WK0 := by
    have e1 : putK ([] : List (Key × V)) (.inr "out") (.int 2) = [(.inr "out", .int 2)] := putK_new _ (valV_nil (κ := Key))
    have e2 : putK ([(.inr "out", .int 2)] : List (Key × V)) (.inr "twice") (.int 2) = [(.inr "out", .int 2), (.inr "twice", .int 2)] := putK_new _ (by rw [valV_neg (by decide +kernel), valV_nil])
    have e3 : putK ([(.inr "out", .int 2), (.inr "twice", .int 2)] : List (Key × V)) (.inr "swapped") (.int 3) = [(.inr "out", .int 2), (.inr "twice", .int 2), (.inr "swapped", .int 3)] := putK_new _ (by rw [valV_neg (by decide +kernel), valV_neg (by decide +kernel), valV_nil])
    have e4 : putK ([(.inr "out", .int 2), (.inr "twice", .int 2), (.inr "swapped", .int 3)] : List (Key × V)) (.inr "taken") (.int 3) = [(.inr "out", .int 2), (.inr "twice", .int 2), (.inr "swapped", .int 3), (.inr "taken", .int 3)] := putK_new _ (by rw [valV_neg (by decide +kernel), valV_neg (by decide +kernel), valV_neg (by decide +kernel), valV_nil])
    show putK (putK (putK (putK ([] : List (Key × V)) (.inr "out") (.int 2)) (.inr "twice") (.int 2)) (.inr "swapped") (.int 3)) (.inr "taken") (.int 3) = _
    rw [e1, e2, e3, e4]
    rfl
  rw [e]
  unfold WK0 wantN
  have ne : ∀ {a : Str} {v : V}, ¬ w = a → ¬ ((Sum.inr a, v) : Key × V).1 = (Sum.inr w : Key) := fun {a v} h z => h (by have z : (Sum.inr a : Key) = Sum.inr w := z; injection z with z; exact z.symm)
  by_cases h1 : w = "out"
  · rw [if_pos h1, h1, valV_pos (κ := Key) rfl]; rfl
  rw [if_neg h1, valV_neg (ne h1)]
  by_cases h2 : w = "twice"
  · rw [if_pos h2, h2, valV_pos (κ := Key) rfl]; rfl
  rw [if_neg h2, valV_neg (ne h2)]
  by_cases h3 : w = "swapped"
  · rw [if_pos h3, h3, valV_pos (κ := Key) rfl]; rfl
  rw [if_neg h3, valV_neg (ne h3)]
  by_cases h4 : w = "taken"
  · rw [if_pos h4, h4, valV_pos (κ := Key) rfl]; rfl
  rw [if_neg h4, valV_neg (ne h4), valV_nil]; rfl
theorem want_kind (k : RK) : wantN k.word = some (k.many + 1) := by cases k <;> rfl
theorem want_no {w : Str} {toks : List Str} (h : wantN w ≠ some (toks.length + 1)) : kindOf w toks = none := by
  cases e : kindOf w toks with
  | none => rfl
  | some k =>
    obtain ⟨e1, e2, _⟩ := kind_some e
    rw [e1, e2] at h
    exact absurd (want_kind k) h
theorem want_bad {w : Str} {toks : List Str} {y : Str} (hy : y ∈ toks) (h : tokOk y = false) : kindOf w toks = none := by
  cases e : kindOf w toks with
  | none => rfl
  | some k =>
    have q := (kind_some e).2.2.2 y hy
    rw [h] at q; cases q
theorem want_yes {w : Str} {toks : List Str} (h : wantN w = some (toks.length + 1)) (ha : ∀ y ∈ toks, tokOk y = true) : (∃ a k, toks = [a] ∧ kindOf w toks = some k) ∨ (∃ a b, toks = [a, b] ∧ ((a = b ∧ kindOf w toks = none) ∨ (a ≠ b ∧ ∃ k, kindOf w toks = some k))) := by
  have fin : ∀ k : RK, w = k.word → toks.length = k.many → toks.Nodup → kindOf w toks = some k := fun k e1 e2 nd => by rw [e1]; exact kind_of e2 ha nd
  unfold wantN at h
  have one : ∀ k : RK, w = k.word → k.many = 1 → toks.length + 1 = 2 → ∃ a k, toks = [a] ∧ kindOf w toks = some k := fun k e e1 e2 => by
    obtain ⟨a, rfl⟩ := List.length_eq_one_iff.mp (show toks.length = 1 by omega)
    exact ⟨a, k, rfl, fin k e (by rw [e1]; rfl) (by simp)⟩
  have two : ∀ k : RK, w = k.word → k.many = 2 → toks.length + 1 = 3 → ∃ a b, toks = [a, b] ∧ ((a = b ∧ kindOf w toks = none) ∨ (a ≠ b ∧ ∃ k, kindOf w toks = some k)) := fun k e e1 e2 => by
    match toks, e2, fin with
    | [a, b], _, fin =>
      refine ⟨a, b, rfl, ?_⟩
      by_cases q : a = b
      · refine .inl ⟨q, ?_⟩
        unfold kindOf
        split
        · show (if a = b then none else _) = _
          rw [if_pos q]
        · rfl
      · exact .inr ⟨q, k, fin k e (by rw [e1]; rfl) (by simpa using q)⟩
  split at h
  · rename_i e; exact .inl (one .out e rfl (by injection h with h; omega))
  · split at h
    · rename_i e; exact .inl (one .twice e rfl (by injection h with h; omega))
    · split at h
      · rename_i e; exact .inr (two .swapped e rfl (by injection h with h; omega))
      · split at h
        · rename_i e; exact .inr (two .taken e rfl (by injection h with h; omega))
        · cases h
theorem tok_split (y : Str) : tokOk y = (decide (1 ≤ y.length) && decide (y.length ≤ 4) && decide (y.cps.toList.filter (fun c => !decide (c ∈ SGN)) = [])) := by
  unfold tokOk
  congr 1
  rw [Bool.eq_iff_iff, List.all_eq_true, decide_eq_true_eq, List.filter_eq_nil_iff]
  constructor
  · intro h c hc
    have q := (sg_iff c).mp (h c hc)
    simp [q]
  · intro h c hc
    have q := h c hc
    simp at q
    exact (sg_iff c).mpr q
theorem cut_tail (x : V) (xs : List V) : cutV (x :: xs) (some 1) none = xs := by
  unfold cutV
  have e : HT.sIx (x :: xs).length 0 (some 1) = 1 := by
    have q := HT.sIx_nat (x :: xs).length 0 1
    rw [show ((1 : Nat) : Int) = 1 from rfl] at q
    rw [q, List.length_cons]; omega
  rw [e, HT.sIx_none, List.drop_succ_cons, List.drop_zero, List.length_cons, Nat.add_sub_cancel, List.take_length]
theorem sig_nil {l : List Nat} : decide (l.map (fun c => (⟨#[c]⟩ : Str)) = []) = decide (l = []) := decide_eq_decide.mpr List.map_eq_nil_iff
theorem TX.sig {n : Nat} {y : Str} (h : TX n y) : ∀ c ∈ y.cps.toList, c < 128 := by
  obtain ⟨u, rfl, _, h2⟩ := h
  rw [mkS_cps]; exact h2
/-! ### rules that name K -/
theorem room1 {k : Nat} {A : Around} (r : Room k A) : A.units + 1 < cLine := by have := r.units; omega
theorem ix_lK {X : Cx} {K : PySem.W.Frag} (h : X.K = K) : IxR X (rIxL K) := h ▸ ix_list
theorem pi_lK {X : Cx} {K : PySem.W.Frag} {tg l : Expr} {tl : TE} (h : X.K = K) (hl : PE X l tl) : PI X tg l (iList K tl) := by subst h; exact pi_list hl
theorem pe_notX {X : Cx} {a : Expr} {pos : Pos} {ta : TE} (ha : PE X a ta) : PE X (.UnaryOp .Not a pos) (tNotV ta) := pe_not ha
end Ss
namespace Ss
open PySem L2 PyProof.Rows
section
variable {X : Cx} {e f : Expr} {es : List Expr} {te tf : TE} {t : TA} {pos : Pos}
/-- e, behind it a token is out -/
def PEO (X : Cx) (e : Expr) (t : TE) : Prop :=
  ∀ (pins : List (Addr × Obj)) (s : Shared) (σ : L2.St) (H : Hp) (Q : VK), Inv X pins σ H s → t σ H Q → wpAny (model X.prog X.w) X.A (eval e X.env) (fun u s' => 1 ≤ s'.toks ∧ EP X pins σ Q u s') X.xe s
theorem peo_str {x : Str} {j : Nat} {p : Pos} : PEO X (.Constant (.str x) j p) (tC (.str x)) := fun pins s σ H Q I h =>
  Calls.Constant_str ⟨by show 1 ≤ s.toks + 1; omega, .str x, H, I.tok _, ⟨s.toks, rfl⟩, h⟩
theorem peo_op {op : Operator} {r : R2} (ho : OpR X (binaryOp op) r) (ha : PEO X e te) (hb : PE X f tf) : PEO X (.BinOp e op f pos) (tOp r te tf) := by
  intro pins s σ H Q I h
  refine wpAny_BinOp (wpAny_mono (ha pins s σ H _ I h) (fun v s1 q => ?_) fun _ _ z => z)
  obtain ⟨h1, x, H1, I1, r1, q1⟩ := q
  refine wpAny_mono (PySem.wpAny_toks (hb.run pins s1 σ H1 _ I1 q1)) (fun u s2 q => ?_) fun _ _ z => z.2
  obtain ⟨hk, y, H2, I2, r2, q2⟩ := q
  refine wpAny_mono (PySem.wpAny_toks (ho pins s2 σ H2 x y v u Q I2 r1 r2 q2)) (fun u3 s3 q => ?_) fun _ _ z => z.2
  exact ⟨Nat.le_trans h1 (Nat.le_trans hk q.1), q.2⟩
theorem pa_out (ha : PEO X e te) (hr : PAT X es t) (hs : starEach (e :: es) X.env = (false, eval e X.env) :: starEach es X.env := by rfl) : PA X (e :: es) (tCons te t) := by
  refine ⟨fun pos pins s σ H Q I h => ?_⟩
  rw [hs]
  show wpAny _ _ (spliced ((false, eval e X.env) :: backTo pos (starEach es X.env))) _ _ s
  refine Calls.spliced_cons (wpAny_mono (ha pins s σ H _ I h) (fun v s1 q => ?_) fun _ _ z => z)
  obtain ⟨h1, x, H1, I1, r1, q1⟩ := q
  exact thn (hr pos pins s1 σ H1 _ h1 I1 q1) fun us s2 ⟨xs, H2, I2, r2, q2⟩ => ⟨x :: xs, H2, I2, .cons r1 r2, q2⟩
theorem pat_of (h : PA X es t) : PAT X es t := fun pos pins s σ H Q _ I q => h.run pos pins s σ H Q I q
end
section
variable {K : PySem.W.Frag} {σ : L2.St} {H : Hp} {ta tb te : TE}
theorem ev_repl {x y z : Str} (h : Evl.Ev te σ H (.str x)) (hl : x.length + (x.length + 1) * z.length ≤ 16777216) : Evl.Ev (CwR.tReplC te y z) σ H (.str (Txt.replace x y z)) := fun H1 s Q q => h H1 s _ fun H2 s2 => ⟨x, rfl, hl, q H2 s2⟩
theorem ev_upper {x : Str} (h : Evl.Ev te σ H (.str x)) (hl : x.length ≤ 5592405) : Evl.Ev (tM0 (fun x xs H Q => ∃ a, x = .str a ∧ xs = [] ∧ a.length ≤ 5592405 ∧ Q (.str (Txt.upper a)) H) te) σ H (.str (Txt.upper x)) := fun H1 s Q q => h H1 s _ fun H2 s2 => ⟨⟨x, rfl⟩, x, rfl, rfl, hl, q H2 s2⟩
theorem ev_adds {a b : Str} (h : Evl.Ev ta σ H (.str a)) (g : Evl.Ev tb σ H (.str b)) (hl : a.length + b.length ≤ 1000) : Evl.Ev (tOp (fun x y H Q => ∃ i j, x = .str i ∧ y = .str j ∧ i.length + j.length ≤ sizeLine ∧ Q (.str (i ++ j)) H) ta tb) σ H (.str (a ++ b)) :=
  Evl.ev_op h g fun H1 s Q q => ⟨a, b, rfl, rfl, Nat.le_trans hl (by decide), q H1 (Evl.Ex.refl H1)⟩
theorem el_catN {xs ys : List V} (ha : Evl.EvL ta σ H xs) (hb : Evl.EvL tb σ H ys) (hz : xs.length + ys.length ≤ 100000) : Evl.EvL (tOp rCat ta tb) σ H (xs ++ ys) := fun H1 e Q q =>
  ha H1 e _ fun l H2 hl e2 h2 => hb H2 (e.trans e2) _ fun p H3 hp e3 h3 => ⟨l, p, xs, ys, rfl, rfl, e3 _ _ h2, h3, Evl.sz_of hz, fun r hr => q r _ (Evl.fresh_back (e2.trans e3) hr) ((e2.trans e3).trans (Evl.Ex.new hr)) upd_same⟩
theorem el_rep {xs : List V} {k : Nat} (ha : Evl.EvL ta σ H xs) (hb : Evl.Ev tb σ H (.int (k : Nat))) (hk : k ≤ 1000) (hz : xs.length * k ≤ 100000) : Evl.EvL (tOp rRep ta tb) σ H (List.replicate k xs).flatten := fun H1 e Q q =>
  ha H1 e _ fun l H2 hl e2 h2 => hb H2 (e.trans e2) _ fun H3 e3 => ⟨l, (k : Nat), xs, rfl, rfl, e3 _ _ h2, by omega, by omega, by rw [Int.toNat_natCast]; exact Evl.sz_of hz, fun r hr => q r _ (Evl.fresh_back (e2.trans e3) hr) ((e2.trans e3).trans (Evl.Ex.new hr)) (by rw [upd_same, Int.toNat_natCast])⟩
theorem sum_tx {n : Nat} : ∀ {ws : List Str}, (∀ z ∈ ws, TX n z) → (ws.map (·.length)).sum ≤ ws.length * n
  | [], _ => Nat.zero_le _
  | w :: r, h => by
    have h1 := (h w List.mem_cons_self).len
    have h2 := sum_tx (ws := r) fun z hz => h z (List.mem_cons_of_mem _ hz)
    rw [List.map_cons, List.sum_cons, List.length_cons, Nat.add_mul]; omega
/-- what a join of small texts wants -/
theorem join_room {n : Nat} {ws : List Str} (h : ∀ z ∈ ws, TX n z) (hn : n ≤ 1000) (hl : ws.length ≤ 100) : (ws.map (·.length)).sum + ws.length * (" " : Str).length ≤ 16777216 := by
  have h1 := sum_tx h
  have h2 : (" " : Str).length = 1 := by decide +kernel
  have h3 : ws.length * n ≤ 100 * 1000 := Nat.mul_le_mul hl hn
  rw [h2]; omega
end
theorem cut_map (ws : List Str) (lo hi : Option Int) : ∃ ws' : List Str, cutV (ws.map V.str) lo hi = ws'.map V.str ∧ (∀ z ∈ ws', z ∈ ws) ∧ ws'.length ≤ ws.length := by
  refine ⟨(ws.drop (HT.sIx (ws.map V.str).length 0 lo)).take (HT.sIx (ws.map V.str).length (ws.map V.str).length hi - HT.sIx (ws.map V.str).length 0 lo), ?_, fun z hz => List.mem_of_mem_drop (List.mem_of_mem_take hz), ?_⟩
  · unfold cutV
    rw [List.map_take, List.map_drop]
  · rw [List.length_take, List.length_drop]; omega
theorem rep_map (ws : List Str) (k : Nat) : (List.replicate k (ws.map V.str)).flatten = ((List.replicate k ws).flatten).map V.str := by
  rw [List.map_flatten, List.map_replicate]
theorem rep_len {α : Type} (ws : List α) : ∀ k : Nat, ((List.replicate k ws).flatten).length = k * ws.length
  | 0 => by rw [Nat.zero_mul]; rfl
  | k + 1 => by
    rw [List.replicate_succ, List.flatten_cons, List.length_append, rep_len ws k, Nat.add_mul, Nat.one_mul]
    omega
theorem ev_isNone {σ : L2.St} {H : Hp} {te : TE} {x : V} (h : Evl.Ev te σ H x) : Evl.Ev (tIsN te) σ H (.bl (decide (x = .non))) := fun H1 s Q q => h H1 s _ fun H2 s2 => q H2 s2
end Ss
namespace Ss
open PySem PySem.Spec PyProof.Rows L2
/-! ### d.update(d2), l.extend(a tuple) -/
section
variable {X : Cx}
theorem d_upd {pins : List (Addr × Obj)} {σ : L2.St} {H : Hp} {s : Shared} {a b : Addr} {kvs ls : List (L2.Key × V)} {A : Around} {E Q : Value → Shared → Prop} (I : Inv X pins σ H s) (e : H a = some (.dK kvs)) (e2 : H b = some (.dK ls)) (ne : a ≠ b) (hz : kvs.length + ls.length ≤ sizeLine)
    (q : ∀ s', Inv X pins σ (upd H a (.dK (mergeK kvs ls))) s' → Q .none s') : wpAny (model X.prog X.w) A (call (.builtin "dict.update") [.ref a, .ref b]) Q E s := by
  obtain ⟨z1, hd1, vs, rel1, dd1⟩ := dk_of I.hok e
  obtain ⟨z2, hd2, ws, rel2, dd2⟩ := dk_of I.hok e2
  refine call_meetsIn PySem.F.slot_dict_update dd1.typeIs PySem.F.entry_dict_update (PySem.F.args_dict_update_2 _ _) (meets_dict_update (mixKind X.prog X.w) a b ne hd2) ⟨vs, ws, dd1, dd2, by rw [← rel1.length, ← rel2.length]; exact hz, fun h' dd' _ hs => ?_⟩
  have there : ∃ o, h'.get? a = some o := let ⟨o, _, _, z, _⟩ := dd'; ⟨o, z⟩
  have rel := KV.merge rel2 rel1
  have z3 : (mergeK kvs ls).length ≤ sizeLine := Nat.le_trans (length_mergeK ls kvs) hz
  exact q _ (d_write (t' := s.toks) I (by rw [e]; trivial) hs there (dk_new z3 hd1 rel dd'))
def tDUpd (td ty : TE) : TE := fun σ H Q => td σ H fun x H1 => ∃ a, x = .ref a ∧ IsD H1 a ∧ ty σ H1 fun y H2 => ∃ (b : Addr) (kvs ls : List (L2.Key × V)), y = .ref b ∧ H2 a = some (.dK kvs) ∧ H2 b = some (.dK ls) ∧ a ≠ b ∧ kvs.length + ls.length ≤ sizeLine ∧ Q .non (upd H2 a (.dK (mergeK kvs ls)))
theorem pe_dupd {o e : Expr} {td ty : TE} {apos cpos : Pos} (ho : PE X o td) (he : PE X e ty) (m : M1 X o "update" apos e cpos) : PE X (.Call (.Attribute o "update" apos) [e] [] cpos) (tDUpd td ty) := by
  refine ⟨fun pins s σ H Q I h => ?_⟩
  refine wpAny_Call_method m.base m.few m.line PySem.F.plainAttrs_dict PySem.F.slot_dict_update PySem.F.type_dict_update (thn (ho.run pins s σ H _ I h) fun u s1 ⟨x, H1, I1, rx, a, ex, d, q1⟩ => ?_)
  subst ex
  cases rx
  obtain ⟨t1, t2, _⟩ := isD_at I1 d
  refine ⟨t1, t2, ?_⟩
  rw [m.trees]
  refine Calls.callWith_builtin rfl (Calls.evalArgs_plain (Calls.spliced_cons (thn (he.run pins s1 σ H1 _ I1 q1) fun v s2 ⟨y, H2, I2, ry, b, kvs, ls, ey, e1, e2, ne, hz, q2⟩ => Calls.spliced_nil ?_)))
  subst ey
  cases ry
  exact d_upd I2 e1 e2 ne hz fun s3 I3 => ⟨.non, _, I3, rfl, q2⟩
def rExtT (K : PySem.W.Frag) : V → List V → Hp → VK → Prop := fun x vs H Q => ∃ (l b : Addr) (xs zs : List V), x = .ref l ∧ vs = [.ref b] ∧ H l = some (.lst xs) ∧ H b = some (.tup zs) ∧ xs.length + zs.length ≤ 100000 ∧ Q .non (upd H l (.lst (xs ++ zs)))
theorem mt_extT : MtR X "list.extend" (rExtT X.K) := by
  intro pins s σ H x vs v us Q I rx rv h
  obtain ⟨l, b, xs, zs, rfl, rfl, hH, hB, hz, q⟩ := h
  cases rx
  obtain ⟨u, rfl, ru⟩ := rv.one
  cases ru
  obtain ⟨z, its, n, r, hl, e⟩ := I.lstM hH
  obtain ⟨z2, its2, r2, o2, g1, g2, n2, g3⟩ := (show ObjOk X.prog X.w H s.heap b (.tup zs) from I.hok b _ hB)
  have l1 := r.length
  have l2 := r2.length
  have sL : (100000 : Nat) ≤ sizeLine := by decide
  have no : Builtin.List.listTooLong (its.toArray.size + its2.toArray.size) = false := notLongL (by rw [List.size_toArray, List.size_toArray]; omega)
  have nlb : l ≠ b := fun q => by subst q; rw [hH] at hB; cases hB
  refine wpAny_call_entry PySem.F.slot_list_extend ⟨_, e, rfl⟩ PySem.F.entry_list_extend ?_ (PySem.F.args_list_extend_2 _ _)
  show wpAny _ _ (Builtin.List.listExtendWith (.ref l) (.ref b) .none) _ _ s
  unfold Builtin.List.listExtendWith
  refine wpAny_bind (wpAny_typeOf ⟨o2, g1, g2⟩ ?_)
  have h1 : (Builtin.List.listSameRef (.ref l) (.ref b) || Value.type "tuple" == Value.type "list" || Value.type "tuple" == Value.type "tuple") = true := by simp
  simp only [h1, if_true]
  unfold Builtin.List.listItems
  refine wpAny_bind (wpAny_bind (wpAny_seqItems g1 g3 (wpAny_pure ?_)))
  refine wpAny_bind (wpAny_bind (wpAny_seqItems e rfl (wpAny_pure ?_)))
  rw [no, Bool.and_false, if_neg Bool.false_ne_true]
  show wpAny _ _ (updateSeq l (· ++ its2.toArray) >>= fun _ => ret Value.none) _ _ s
  refine wpAny_bind (wpAny_updateSeq e rfl ?_ (hz := by rw [List.size_toArray]; omega) (_hz' := by rw [Array.size_append, List.size_toArray, List.size_toArray]; omega))
  refine wpAny_pure ⟨_, rfl, .non, _, I.lset (its' := its ++ its2) hH e (by simp) (r.append r2) (by rw [List.length_append]; omega), rfl, q⟩
end
end Ss
namespace Ss
open PySem PySem.Spec PyProof.Rows L2 Evl
/-! ### rules at places, in pure terms -/
theorem Room.u1 {j : Nat} {A : Around} (hr : Room j A) : A.units + 1 < cLine := by have := hr.units; omega
/-- l[n : n + m] -/
theorem cut_nat {xs : List V} {n m : Nat} : cutV xs (some ((n : Nat) : Int)) (some (((n : Nat) : Int) + ((m : Nat) : Int))) = (xs.drop n).take m := by
  unfold cutV
  rw [show ((n : Nat) : Int) + ((m : Nat) : Int) = ((n + m : Nat) : Int) by omega, HT.sIx_nat, HT.sIx_nat]
  by_cases h : n ≤ xs.length
  · rw [Nat.min_eq_left h]
    by_cases h2 : n + m ≤ xs.length
    · rw [Nat.min_eq_left h2]; congr 1; omega
    · rw [Nat.min_eq_right (by omega)]
      rw [List.take_of_length_le (by rw [List.length_drop]; omega), List.take_of_length_le (by rw [List.length_drop]; omega)]
  · rw [Nat.min_eq_right (by omega), Nat.min_eq_right (by omega)]
    rw [List.drop_eq_nil_of_le (Nat.le_refl _), List.drop_eq_nil_of_le (by omega)]
    simp
def standsP (ts rem : List Str) (pl : Int) : Bool := decide (0 ≤ pl) && decide ((ts.drop pl.toNat).take rem.length = rem)
theorem stands_bound {ts rem : List Str} {pl : Int} (h : standsP ts rem pl = true) : ∃ n : Nat, pl = (n : Int) ∧ n + rem.length ≤ ts.length ∧ (ts.drop n).take rem.length = rem ∨ (∃ n : Nat, pl = (n : Int) ∧ rem = []) := by
  unfold standsP at h
  rw [Bool.and_eq_true] at h
  have h0 := of_decide_eq_true h.1
  have h1 := of_decide_eq_true h.2
  refine ⟨pl.toNat, ?_⟩
  by_cases c : rem = []
  · exact .inr ⟨pl.toNat, by omega, c⟩
  · refine .inl ⟨by omega, ?_, h1⟩
    have l := congrArg List.length h1
    rw [List.length_take, List.length_drop] at l
    have : rem.length ≠ 0 := fun z => c (List.length_eq_zero_iff.mp z)
    omega
/-- what stands at the places that were written -/
abbrev Wr := Int → Option (List Str)
def wrNext (M : Wr) (rem ins : List Str) (pl : Int) : Wr := fun x => if x = pl then some ins else if pl ≤ x ∧ x < pl + rem.length then some [] else M x
def freeP (M : Wr) (rem : List Str) (pl : Int) : Bool := (List.range rem.length).all fun i => (M (pl + (i : Nat))).isNone
/-- one step: the place that is wrong, or what is written then -/
def wrStep (ts : List Str) (s : Int ⊕ Wr) (x : (List Str × List Str) × Int) : Int ⊕ Wr := match s with
  | .inl p => .inl p
  | .inr M => if standsP ts x.1.1 x.2 && freeP M x.1.1 x.2 then .inr (wrNext M x.1.1 x.1.2 x.2) else .inl x.2
def wrAll (ts : List Str) (xs : List ((List Str × List Str) × Int)) : Int ⊕ Wr := xs.foldl (wrStep ts) (.inr fun _ => none)
theorem wr_stuck (ts : List Str) (p : Int) : ∀ xs : List ((List Str × List Str) × Int), xs.foldl (wrStep ts) (.inl p) = .inl p
  | [] => rfl
  | x :: xs => wr_stuck ts p xs
theorem wr_take {ts : List Str} {xs : List ((List Str × List Str) × Int)} {i : Nat} {p : Int} (h : wrAll ts (xs.take i) = .inl p) : wrAll ts xs = .inl p := by
  unfold wrAll at h ⊢
  rw [← List.take_append_drop i xs, List.foldl_append, h]
  exact wr_stuck ts p _
theorem wr_succ {ts : List Str} {xs : List ((List Str × List Str) × Int)} {i : Nat} {x : (List Str × List Str) × Int} (h : xs[i]? = some x) : wrAll ts (xs.take (i + 1)) = wrStep ts (wrAll ts (xs.take i)) x := by
  unfold wrAll
  rw [List.take_add_one, h, Option.toList_some, List.foldl_append]; rfl
/-- the text that is told, token by token -/
def wrOut (ts : List Str) (M : Wr) : List Str := (((List.range ts.length).map fun (i : Nat) => (M (i : Int)).getD [ts.getD i Str.empty])).flatten
/-- the steps of a list of rules at places -/
abbrev RS := List ((RK × List Str) × Int)
def rsP (r : RS) : List ((List Str × List Str) × Int) := r.map fun x => ((x.1.1.rem x.1.2, x.1.1.ins x.1.2), x.2)
/-! ### words -/
section
variable {X : Cx} {CX : CXT} {k j : Nat} {K : PySem.W.Frag} {σ : L2.St} {H : Hp} {ta tb te : TE}
/-- o.m(e, ..), o an object of one of several classes -/
def tMethF (Cf : RK → Addr) (m : Str) (sp : Sp) (E : XK) (ta : TE) (t : TA) : TE := fun σ H Q => ∃ k : RK, tMeth (Cf k) m sp [] E ta t σ H Q
theorem pe_mdF {Cf : RK → Addr} {m : Str} {ps : List Str} {sp : Sp} {E : XK} {o e : Expr} {es : List Expr} {t : TA} {apos pos : Pos} {pl : Sem Bool} (he : PE X o ta) (c : ∀ k, Cls X.K (Cf k)) (D : ∀ kd, Mm X.prog X.w X.K X.mg X.base CX (Cf kd) k m ps sp) (hr : Room j X.A) (hx : Passes CX X E) (ha : PA X (e :: es) t) (hk : k ≤ j := by decide)
    (hst : starEach (e :: es) X.env = (false, eval e X.env) :: starEach es X.env := by rfl) (hpl : (backTo pos (starEach es X.env)).any (·.1) = false := by rfl)
    (ht : eval (.Call (.Attribute o m apos) (e :: es) [] pos) X.env = (do
      let ov ← eval o X.env
      standAt apos.atName
      let (f, first) ← holding [ov] (getMethod ov m pl)
      callWith pos f first (backTo pos (starEach (e :: es) X.env)) (backToKw pos (keywordEach [] X.env))) := by rfl) :
    PE X (.Call (.Attribute o m apos) (e :: es) [] pos) (tMethF Cf m sp E ta t) :=
  ⟨fun pins s σ H Q I ⟨kd, h⟩ => (pe_md (pl := pl) he (c kd) (D kd) hr hx ha hk hst hpl ht).run pins s σ H Q I h⟩
/-- tuple(l[a:b]) == t, texts -/
theorem ev_eqTS {p : Addr} {a b : List Str} (h : EvU ta σ H (a.map V.str)) (hb : Ev tb σ H (.ref p)) (hp : SqT K H p (b.map V.str)) (oa : a.all okS = true) (ob : b.all okS = true) : Ev (tOp (rEqD K) ta tb) σ H (.bl (decide (a = b))) := fun H1 s Q q =>
  h H1 s _ fun r H2 _ s2 a2 => hb H2 (s.trans s2) _ fun H3 s3 => rv_eqT oa ob (SqT.of (s3 _ _ a2)) (ex_t ((s.trans s2).trans s3) hp) H3 (Ex.refl H3) Q fun H4 s4 => q H4 ((s2.trans s3).trans s4)
end
end Ss
namespace Ss
open PySem PySem.Spec PyProof.Rows L2 Evl
/-! ### dicts of numbers, joined -/
theorem mem_putK {κ : Type} [DecidableEq κ] {kvs : List (κ × V)} {k : κ} {v : V} {e : κ × V} (h : e ∈ putK kvs k v) : e = (k, v) ∨ e ∈ kvs := by
  unfold putK at h
  split at h
  · obtain ⟨a, ha, rfl⟩ := List.mem_map.mp h
    by_cases c : a.1 = k
    · left; rw [if_pos c, c]
    · right; rw [if_neg c]; exact ha
  · rcases List.mem_append.mp h with h | h
    · exact .inr h
    · exact .inl (List.mem_singleton.mp h)
theorem key_putK {κ : Type} [DecidableEq κ] {kvs : List (κ × V)} {k j : κ} {v : V} (h : j = k ∨ ∃ u, (j, u) ∈ kvs) : ∃ u, (j, u) ∈ putK kvs k v := by
  have q := valV_put kvs k j v
  have s : (valV (putK kvs k v) j).isSome = true := by
    rw [q]
    by_cases e : j = k
    · rw [if_pos e]; rfl
    · rw [if_neg e, ← valV_any]
      obtain ⟨u, hu⟩ := h.resolve_left e
      exact List.any_eq_true.mpr ⟨_, hu, decide_eq_true rfl⟩
  rw [← valV_any] at s
  obtain ⟨⟨a, u⟩, h1, h2⟩ := List.any_eq_true.mp s
  have h2 : a = j := of_decide_eq_true h2
  subst h2
  exact ⟨u, h1⟩
theorem merge_val {j : L2.Key} : ∀ (ls kvs : List (L2.Key × V)), (∃ v, (j, v) ∈ ls ∧ valV (mergeK kvs ls) j = some v) ∨ ((∀ v, (j, v) ∉ ls) ∧ valV (mergeK kvs ls) j = valV kvs j)
  | [], kvs => .inr ⟨(fun v h => nomatch h), rfl⟩
  | (a, u) :: ls, kvs => by
    show (∃ v, (j, v) ∈ (a, u) :: ls ∧ valV (mergeK (putK kvs a u) ls) j = some v) ∨ ((∀ v, (j, v) ∉ (a, u) :: ls) ∧ valV (mergeK (putK kvs a u) ls) j = valV kvs j)
    rcases merge_val (j := j) ls (putK kvs a u) with ⟨v, h1, h2⟩ | ⟨h1, h2⟩
    · exact .inl ⟨v, List.mem_cons_of_mem _ h1, h2⟩
    · rw [h2, valV_put]
      by_cases e : j = a
      · subst e
        exact .inl ⟨u, List.mem_cons_self, by rw [if_pos rfl]⟩
      · rw [if_neg e]
        refine .inr ⟨fun v h => ?_, rfl⟩
        rcases List.mem_cons.mp h with h | h
        · exact e (Prod.mk.inj h).1
        · exact h1 v h
/-- what a dict of empty tuples at these numbers holds -/
def Blank (H : Hp) (ns : List Int) (ls : List (L2.Key × V)) : Prop := (∀ e ∈ ls, ∃ x q, e = (.inl x, .ref q) ∧ x ∈ ns ∧ H q = some (.tup [])) ∧ ∀ x ∈ ns, ∃ v, ((.inl x : L2.Key), v) ∈ ls
section
variable {K : PySem.W.Frag} {σ : L2.St} {H : Hp} {tl : TE}
theorem len_putK {κ : Type} [DecidableEq κ] (kvs : List (κ × V)) (k : κ) (v : V) : (putK kvs k v).length ≤ kvs.length + 1 := length_putK kvs k v
/-- {at: () for at in l} -/
theorem ed_blank {o : Addr} {j : Nat} {vs : List Nat} {ns : List Int} (h : Ev tl σ H (.ref o)) (hx : SqL K H o (ns.map V.int)) (hz : ns.length ≤ 1000) (hw : ∀ x, wipe ((wipe σ vs).set j (some x)) vs = wipe σ vs) (hj : ∀ x, ((wipe σ vs).set j (some x))[j]? = some (some x)) :
    ∀ H1, Ex H H1 → ∀ Q : VK, (∀ D ls H2, H1 D = none → Ex H1 H2 → H2 D = some (.dK ls) → ls.length ≤ ns.length → Blank H2 ns ls → Q (.ref D) H2) → tDc (iList K tl) (gName j) tYes (tVar j) (tTup tNil) vs σ H1 Q := by
  intro H1 s1 Q q
  refine h H1 s1 _ fun H2 s2 => ⟨o, rfl, ⟨_, ex_l (s1.trans s2) hx⟩, fun D hD => ?_⟩
  have hDH : H1 D = none := fresh_back s2 hD
  let Pv : Nat → Hp → Prop := fun i G => Ex H2 G ∧ ∃ ls, G D = some (.dK ls) ∧ ls.length ≤ i ∧ Blank G (ns.take i) ls
  refine ⟨fun i m G => m + i = ns.length ∧ Pv i G, ⟨ns.length, rfl, Ex.new hD, [], upd_same, Nat.le_refl _, ⟨(fun e he => nomatch he), (fun x hx => by simp at hx)⟩⟩, ?_⟩
  rintro i m G ⟨hm, sG, ls, hG, hl, hB⟩
  have seq : SqL K G o (ns.map V.int) := ex_l ((s1.trans s2).trans sG) hx
  by_cases lt : i < ns.length
  · refine .inr ⟨⟨_, V.int ns[i], seq, by rw [List.getElem?_map, List.getElem?_eq_getElem lt]; rfl⟩, Pv (i + 1), fun G' p' => ⟨m - 1, by omega, by omega, p'⟩, fun x G' y => ?_⟩
    obtain ⟨rfl, y⟩ := y
    have y := y _ seq
    rw [List.getElem?_map, List.getElem?_eq_getElem lt] at y
    cases y
    refine ⟨hw _, ?_⟩
    unfold tYes; dsimp only; rw [if_pos rfl]
    refine ⟨_, hj _, by show 0 ≤ sizeLine; exact Nat.zero_le _, fun t ht => ?_⟩
    have nD : D ≠ t := fun e => by subst e; rw [hG] at ht; cases ht
    refine ⟨ls, .inl ns[i], rfl, by rw [upd_ne nD]; exact hG, Nat.lt_of_le_of_lt (show _ ≤ 1000 by omega) (by decide), ?_⟩
    have keep : ∀ b ob, b ≠ D → G' b = some ob → upd (upd G' t (.tup [])) D (.dK (putK ls (.inl ns[i]) (.ref t))) b = some ob := fun b ob nb hb => by
      rw [upd_ne nb, upd_ne (ne_of_none hb ht)]; exact hb
    have et : upd (upd G' t (.tup [])) D (.dK (putK ls (.inl ns[i]) (.ref t))) t = some (.tup []) := by rw [upd_ne nD.symm]; exact upd_same
    refine ⟨fun b ob hb => keep b ob (ne_of_none hb hD) (sG b ob hb), _, upd_same, Nat.le_trans (len_putK _ _ _) (by omega), ⟨fun e he => ?_, fun x hx => ?_⟩⟩
    · have tk : ns.take (i + 1) = ns.take i ++ [ns[i]] := by rw [List.take_add_one, List.getElem?_eq_getElem lt]; rfl
      rw [tk]
      rcases mem_putK he with rfl | he
      · exact ⟨_, t, rfl, List.mem_append_right _ (List.mem_singleton.mpr rfl), et⟩
      · obtain ⟨x, q0, e1, e2, e3⟩ := hB.1 e he
        exact ⟨x, q0, e1, List.mem_append_left _ e2, keep _ _ (fun z => by subst z; rw [hG] at e3; cases e3) e3⟩
    · rw [List.take_add_one, List.getElem?_eq_getElem lt, Option.toList_some] at hx
      rcases List.mem_append.mp hx with hx | hx
      · exact key_putK (.inr (hB.2 x hx))
      · rw [List.mem_singleton.mp hx]; exact key_putK (.inl rfl)
  · have e : i = ns.length := by omega
    subst e
    rw [List.take_length] at hB
    exact .inl ⟨⟨_, seq, by rw [List.length_map]; exact Nat.le_refl _⟩, q D ls G hDH (s2.trans sG) hG hl hB⟩
end
theorem joinB {ys : List Str} (h : ∀ y ∈ ys, wordOk y) (hl : ys.length ≤ 100000) : (ys.map (·.length)).sum + ys.length * (" " : Str).length ≤ 16777216 := by
  have q := sum_small h
  have q3 : (" " : Str).length = 1 := by decide +kernel
  rw [q3]; omega
end Ss
namespace L2
open PySem PySem.Spec PyProof.Rows
/-! ### range(a, b) of any ints -/
theorem turn_long {P : Program} {w : World} {K : PySem.W.Frag} {tg : Expr} (it : Addr) (lo : Int) (n : Nat) : Turn P w K tg (Itr lo n) [it] it (fun i h => IsLongIter h it (lo + (i : Nat) * 1) ((n : Int) - (i : Nat)) 1) where
  mem := by simp
  obj := fun i h st b hb => by
    have e : b = it := by simpa using hb
    subst e
    exact ⟨_, st, fun v z => by
      have z' : Data.fields _ = Data.cell v := z
      cases z'⟩
  keep := fun i h h' st k => k it (by simp) _ st
  item := by
    intro X hP hw hK hc i pins s σ H E I hf st hg
    subst hP hw hK
    obtain ⟨f0, f1, f2, f3, f4, f5⟩ := hf it (by simp)
    have W := Walks.longrange (prog := X.prog) (w := X.w) (I.ok.hd hc) it lo 1 n
    refine W.item i s _ _ hg st fun v h' tk hv st' kk => ?_
    obtain ⟨t, rfl⟩ := hv
    have I1 : Inv X pins σ H { s with heap := h', toks := tk } := I.turned (fun b o hb e => kk b o (by simpa using hb) e) f0 f1 f3 f4 f5
    refine ⟨_, rfl, go_of (s := { s with heap := h', toks := tk }) (n := "longrange_iterator") st' rfl rfl (by decide) ⟨.int (lo + i), H, I1, ⟨t, ?_⟩, ⟨rfl, rfl⟩, st', fun b hb => (hf b hb).1⟩⟩
    rw [Int.mul_one]
  done := by
    intro X hP hw hK hc i pins s σ H E I hf st hg
    subst hP hw hK
    obtain ⟨f0, f1, f2, f3, f4, f5⟩ := hf it (by simp)
    exact wpAny_pyNext_long_end (I.ok.hd hc) st (by have : n ≤ i := hg; omega) fun h' eb => ⟨rfl, I.turned (t' := s.toks) (fun b o hb e => eb b o hb e) f0 f1 f3 f4 f5⟩
  self := fun _ _ _ _ _ st h => wpAny_pyIter_longiter st h
section
variable {X : Cx} {tg : Expr}
theorem range_itA {pins : List (Addr × Obj)} {σ : St} {H : Hp} {s : Shared} {R : It → Hp → Prop} {E : Value → Shared → Prop} {lo hi : Int} {t u v : Tok} {tk : Nat} (I : Inv X pins σ H s)
    (q : R (Itr lo (hi - lo).toNat) H) : wpAny (model X.prog X.w) X.A (pyIter (.ref s.heap.objs.size)) (PIE X pins σ tg R) E { s with heap := s.heap.push { cls := .type "range", data := .fields #[.int lo t, .int hi u, .int 1 v] }, toks := tk } := by
  have I1 : Inv X pins σ H { s with heap := s.heap.push { cls := .type "range", data := .fields #[.int lo t, .int hi u, .int 1 v] }, toks := tk } := I.kept fun b o e => Heap.get?_push_of_some _ e
  have e1 : lo + ((0 : Nat) : Int) * 1 = lo := by simp
  have e2 : (((hi - lo).toNat : Nat) : Int) - ((0 : Nat) : Int) = Builtin.Range.rangeSize lo hi 1 := by rw [rangeSize_one]; split <;> omega
  have fr : ∀ {ob : Obj}, ∀ b ∈ [(s.heap.push ob).objs.size], True := fun _ _ => trivial
  cases hs : Builtin.Range.small lo hi 1 with
  | true =>
    refine wpAny_pyIter_range (IsRange.new ..) hs ?_
    refine ⟨(s.heap.push { cls := .type "range", data := .fields #[.int lo t, .int hi u, .int 1 v] }).objs.size, [(s.heap.push { cls := .type "range", data := .fields #[.int lo t, .int hi u, .int 1 v] }).objs.size], _, _, H, rfl,
      I1.kept (t' := tk) fun b o e => Heap.get?_push_of_some _ e, turn_range _ lo (hi - lo).toNat, ?_, fun b hb => ?_, q⟩
    · show IsRangeIter _ _ (lo + ((0 : Nat) : Int) * 1) ((((hi - lo).toNat : Nat) : Int) - ((0 : Nat) : Int)) 1
      rw [e1, e2]
      exact Heap.get?_push_size _ rfl
    · have e : b = (s.heap.push { cls := .type "range", data := .fields #[.int lo t, .int hi u, .int 1 v] }).objs.size := by simpa using hb
      subst e
      exact I1.fpOk (Nat.le_refl _) (I1.hok.fresh (Nat.le_refl _))
  | false =>
    refine wpAny_pyIter_longrange (IsRange.new ..) hs ?_
    refine ⟨(s.heap.push { cls := .type "range", data := .fields #[.int lo t, .int hi u, .int 1 v] }).objs.size, [(s.heap.push { cls := .type "range", data := .fields #[.int lo t, .int hi u, .int 1 v] }).objs.size], _, _, H, rfl,
      I1.kept (t' := tk) fun b o e => Heap.get?_push_of_some _ e, turn_long _ lo (hi - lo).toNat, ?_, fun b hb => ?_, q⟩
    · show IsLongIter _ _ (lo + ((0 : Nat) : Int) * 1) ((((hi - lo).toNat : Nat) : Int) - ((0 : Nat) : Int)) 1
      rw [e1, e2]
      exact Heap.get?_push_size _ rfl
    · have e : b = (s.heap.push { cls := .type "range", data := .fields #[.int lo t, .int hi u, .int 1 v] }).objs.size := by simpa using hb
      subst e
      exact I1.fpOk (Nat.le_refl _) (I1.hok.fresh (Nat.le_refl _))
def iRngA (ta : TA) : TI := fun σ H R => ta σ H fun vs H1 => ∃ i j : Int, vs = [.int i, .int j] ∧ R (Itr i (j - i).toNat) H1
theorem pi_range2A {a b : Expr} {ta : TA} {p pos : Pos} (hg : Gl X "range") (hm : X.mg "range" = none) (ha : PA X [a, b] ta) (hs : starEach [a, b] X.env = [(false, eval a X.env), (false, eval b X.env)] := by rfl) (hs2 : starEach [b] X.env = [(false, eval b X.env)] := by rfl) :
    PI X tg (.Call (.Name "range" p) [a, b] [] pos) (iRngA ta) := by
  refine ⟨fun pins s σ H R I h => ?_⟩
  refine Call_ (ld_blt I hg hm boot_range (PyProof.Rows.callWith_type1 (thn (ha.run pos pins s σ H _ I h) fun us s1 ⟨vs, H1, I1, r1, q1⟩ => ?_) (by rw [hs, hs2]) (by rw [hs2]; rfl)))
  obtain ⟨i, j, e, q⟩ := q1
  subst e
  cases r1 with
  | cons r rr =>
    cases rr with
    | cons r' rr =>
      cases rr
      obtain ⟨t, rfl⟩ := r
      obtain ⟨t', rfl⟩ := r'
      exact call_range_2 (range_itA I1 q)
end
end L2
namespace Ss
open PySem L2 PySem.Spec PyProof.Rows Evl
theorem Room.u65 {j : Nat} {A : Around} (hr : Room j A) : A.units + 65 < cLine := by have := hr.un; omega
theorem call_lenK {X : Cx} {K : PySem.W.Frag} (h : X.K = K) : CallR X (.builtin "len") (rLenS K) := by subst h; exact call_len_seq
theorem sl_lK {X : Cx} {K : PySem.W.Frag} (h : X.K = K) : SlR X (rSlL K) := by subst h; exact sl_list
theorem op_eqDK {X : Cx} {K : PySem.W.Frag} (h : X.K = K) (hu : X.A.units + 64 < cLine) : OpR X (compareOp .Eq) (rEqD K) := by subst h; exact op_eqD hu
section
variable {K : PySem.W.Frag} {σ : L2.St} {H : Hp} {ta tb tv te : TE} {t : TT} {xs : List V}
theorem el_lcRA {tt : TA} {j : Nat} {vs : List Nat} {lo : Int} {n : Nat} (f : Nat → Bool) (v : Nat → V) (h : EvA tt σ H [.int lo, .int (lo + (n : Nat))]) (hn : n ≤ 40000) (hw : ∀ x, wipe ((wipe σ vs).set j (some x)) vs = wipe σ vs)
    (ht : ∀ (i : Nat) H1, Ex H H1 → i < n → EvT t ((wipe σ vs).set j (some (.int (lo + (i : Int))))) H1 (f i)) (he : ∀ (i : Nat) H1, Ex H H1 → i < n → f i = true → Ev te ((wipe σ vs).set j (some (.int (lo + (i : Int))))) H1 (v i)) :
    EvL (tLc (iRngA tt) (gName j) t te vs) σ H (given n f v) := fun H0 e Q q => h H0 e _ fun H1 e1 => ⟨lo, _, rfl, fun Dl hD => by
  rw [show (lo + (n : Nat) - lo).toNat = n by omega]
  exact lc_range (lo := lo) (n := n) (Cw H1 f v Dl) ⟨hD, Ex.new hD, upd_same⟩ (fun i H' hi p => ⟨hw _, cw_turn p (by omega) (ht i H1 (e.trans e1) hi) (fun hf => he i H1 (e.trans e1) hi hf)⟩) (fun H' p => q Dl H' (fresh_back e1 p.1) (e1.trans p.2.1) p.2.2)⟩
theorem el_ifT {b : Bool} (h : EvT t σ H b) (h1 : b = true → EvL ta σ H xs) (h2 : b = false → EvL tb σ H xs) : EvL (tIf t ta tb) σ H xs := fun H1 s Q q => h H1 s _ fun H2 s2 => by
  cases b with
  | true => exact h1 rfl H2 (s.trans s2) Q fun p H3 n3 s3 e3 => q p H3 (fresh_back s2 n3) (s2.trans s3) e3
  | false => exact h2 rfl H2 (s.trans s2) Q fun p H3 n3 s3 e3 => q p H3 (fresh_back s2 n3) (s2.trans s3) e3
theorem rv_eqLs {p q : Addr} {a b : List Str} (ha : a.all okS = true) (hb : b.all okS = true) (h1 : SqL K H p (a.map V.str)) (h2 : SqL K H q (b.map V.str)) : RV (rEqD K) (.ref p) (.ref q) H (.bl (decide (a = b))) := fun H1 e Q k =>
  ⟨_, _, .lst (ex_l e h1) (dp_strs a), .lst (ex_l e h2) (dp_strs b), shaped_strs ha, shaped_strs hb, by
    show Q (.bl (PyData.eqvAll _ _)) H1
    rw [eqvAll_strs]; exact k H1 (Ex.refl H1)⟩
/-- l not in [[], [x]] -/
theorem ev_notIn2 {l : List Str} {y : Str} (ha : EvL ta σ H (l.map V.str)) (hv : Ev tv σ H (.str y)) (ox : l.all okS = true) (oy : okS y = true) :
    Ev (tOp (rNotInD K) ta (tLst (tCons (tLst tNil) (tCons (tLst (tCons tv tNil)) tNil)))) σ H (.bl (!(decide (l = []) || decide (l = [y])))) := fun H0 s Q q =>
  ha H0 s _ fun p H1 np s1 e1 => by
  refine ⟨Nat.zero_le _, fun q1 n1 => ?_⟩
  have s2 : Ex H1 (upd H1 q1 (.lst [])) := Ex.new n1
  have e2 : upd H1 q1 (.lst []) q1 = some (.lst []) := upd_same
  generalize upd H1 q1 (.lst []) = H2 at s2 e2 ⊢
  refine hv H2 ((s.trans s1).trans s2) _ fun H3 s3 => ?_
  refine ⟨by show 1 ≤ sizeLine; decide, fun q2 n2 => ?_⟩
  have s3b : Ex H3 (upd H3 q2 (.lst [.str y])) := Ex.new n2
  have e3 : upd H3 q2 (.lst [.str y]) q2 = some (.lst [.str y]) := upd_same
  generalize upd H3 q2 (.lst [.str y]) = H4 at s3b e3 ⊢
  refine ⟨by show 2 ≤ sizeLine; decide, fun q3 hq3 => ?_⟩
  have s4 : Ex H4 (upd H4 q3 (.lst [.ref q1, .ref q2])) := Ex.new hq3
  have s34 := s3.trans s3b
  have oyl : ([y] : List Str).all okS = true := by rw [List.all_cons, oy]; rfl
  refine ⟨_, [.list [], .list [.str y]], .lst (SqL.of (s4 _ _ (s34 _ _ (s2 _ _ e1)))) (dp_strs l), .lst (SqL.of upd_same) (.cons (.lst (SqL.of (s4 _ _ (s34 _ _ e2))) .nil) (.cons (.lst (SqL.of (s4 _ _ e3)) (.cons (.str y) .nil)) .nil)), shaped_strs ox, ?_, ?_⟩
  · have o : PyData.canLay0 (.str y) = true := oy
    show ((true && ((PyData.canLay0 (.str y) && true) && true)) && decide (_ ≤ 64)) = true
    rw [o]
    rfl
  · have e : (([.list [], .list [.str y]] : List PyData).any fun z => PyData.eqv z (.list (l.map PyData.str))) = (decide (l = []) || decide (l = [y])) := by
      show (PyData.eqvAll (([] : List Str).map PyData.str) (l.map PyData.str) || (PyData.eqvAll (([y] : List Str).map PyData.str) (l.map PyData.str) || false)) = _
      rw [eqvAll_strs, eqvAll_strs, Bool.or_false]
      congr 1 <;> exact decide_eq_decide.mpr eq_comm
    rw [e]
    exact q _ (((s1.trans s2).trans s34).trans s4)
theorem dp_ints {K : PySem.W.Frag} {H : Hp} : ∀ (bs : List Int), DpAll K H (bs.map V.int) (bs.map PyData.int)
  | [] => .nil
  | b :: bs => .cons (.int b) (dp_ints bs)
theorem shaped_ints : ∀ bs : List Int, SeqAt.shaped (.list (bs.map PyData.int)) = true := fun bs => by
  have a : ∀ bs : List Int, PyData.canLayAll0 (bs.map PyData.int) = true := fun bs => by induction bs with
    | nil => rfl
    | cons b bs ih => show (true && PyData.canLayAll0 (bs.map PyData.int)) = true; rw [ih]; rfl
  have d : ∀ bs : List Int, PyData.depthAll (bs.map PyData.int) = 0 := fun bs => by induction bs with
    | nil => rfl
    | cons b bs ih => show max 0 (PyData.depthAll (bs.map PyData.int)) = 0; rw [ih]; rfl
  show (PyData.canLayAll0 (bs.map PyData.int) && decide (PyData.depthAll (bs.map PyData.int) + 1 ≤ 64)) = true
  rw [a, d]; rfl
/-- l != [], l of ints -/
theorem ev_neNil {p : Addr} {is : List Int} (h : Ev te σ H (.ref p)) (hp : SqL K H p (is.map V.int)) : Ev (tOp (rNeD K) te (tLst tNil)) σ H (.bl (!decide (is = []))) :=
  ev_opL h (el_lst ea_nil (by decide)) fun q H1 h2 s1 H2 e Q k => ⟨_, _, .lst (ex_l (s1.trans e) hp) (dp_ints is), .lst (SqL.of (e _ _ h2)) .nil, shaped_ints is, rfl, by
    have q : PyData.eqv (.list (is.map PyData.int)) (.list []) = decide (is = []) := by cases is <;> rfl
    rw [q]; exact k H2 (Ex.refl H2)⟩
end
end Ss
namespace Ss
open PySem L2
theorem op_inKw {X : Cx} {K : PySem.W.Frag} (h : X.K = K) : OpR X (compareOp .In) (rIn K false) := h ▸ op_in_seq
end Ss
set_option maxHeartbeats 1000000
namespace Ss
open PySem L2 PySem.Spec PyProof.Rows Evl
theorem inV_ints (x : Int) (l : List Int) : inV (.int x) (l.map V.int) = decide (x ∈ l) := by
  unfold inV
  rw [List.any_map]
  by_cases h : x ∈ l
  · rw [decide_eq_true h]
    exact List.any_eq_true.mpr ⟨x, h, by show (x == x) = true; simp⟩
  · rw [decide_eq_false h]
    refine List.any_eq_false.mpr fun y hy => ?_
    show ¬ (y == x) = true
    intro z
    exact h ((beq_iff_eq.mp z) ▸ hy)
theorem flat_intsW : ∀ l : List Int, (l.map V.int).all flatV = true
  | [] => rfl
  | _ :: l => by rw [List.map_cons, List.all_cons, flat_intsW l]; rfl
theorem el_lstRg {ta tb : TE} {σ : L2.St} {H : Hp} {i j : Int} (ha : Ev ta σ H (.int i)) (hb : Ev tb σ H (.int j)) (ok : RgOk i j) : EvL (tLstRg (tRg2 ta tb)) σ H (rgV i j) := fun H1 s Q q =>
  ha H1 s _ fun H2 s2 => hb H2 (s.trans s2) _ fun H3 s3 => ⟨i, j, rfl, rfl, ok, fun p hp => q p _ (fresh_back (s2.trans s3) hp) ((s2.trans s3).trans (Ex.new hp)) upd_same⟩
/-- == of two texts or numbers, or of data -/
theorem op_eqSD {X : Cx} (hu : X.A.units + 64 < cLine) : OpR X (compareOp .Eq) (fun x y H Q => rEq x y H Q ∨ rEqD X.K x y H Q) := by
  intro pins s σ H x y v u Q I rx ry h
  rcases h with h | h
  · exact op_eq pins s σ H x y v u Q I rx ry h
  · exact op_eqD hu pins s σ H x y v u Q I rx ry h
/-! ### what the law holds beside the program's dict -/
def shW (M : Wr) (ts : List Str) : List (List Str) := (List.range ts.length).map fun (i : Nat) => (M (i : Int)).getD [ts.getD i Str.empty]
theorem shW_length (M : Wr) (ts : List Str) : (shW M ts).length = ts.length := by unfold shW; simp
theorem shW_get {M : Wr} {ts : List Str} {j : Nat} (h : j < (shW M ts).length) : (shW M ts)[j] = (M (j : Int)).getD [ts.getD j Str.empty] := by unfold shW; simp
theorem shW_none (ts : List Str) : shW (fun _ => none) ts = ts.map fun x => [x] := by
  refine List.ext_getElem (by rw [shW_length, List.length_map]) fun i h1 h2 => ?_
  rw [shW_get, List.getElem_map]
  rw [List.length_map] at h2
  show [ts.getD i Str.empty] = _
  rw [List.getD_eq_getElem?_getD, List.getElem?_eq_getElem h2]; rfl
theorem sh_next1 {M : Wr} {ts rem ins : List Str} {n : Nat} (hr : rem.length = 1) : shW (wrNext M rem ins (n : Int)) ts = (shW M ts).set n ins := by
  refine List.ext_getElem (by rw [List.length_set, shW_length, shW_length]) fun i h1 h2 => ?_
  rw [shW_get, List.getElem_set]
  rw [List.length_set] at h2
  unfold wrNext
  by_cases e : n = i
  · subst e; rw [if_pos rfl, if_pos rfl]; rfl
  · rw [if_neg e, if_neg (by omega), if_neg (by omega), shW_get]
theorem sh_next2 {M : Wr} {ts rem ins : List Str} {n : Nat} (hr : rem.length = 2) : shW (wrNext M rem ins (n : Int)) ts = ((shW M ts).set n ins).set (n + 1) [] := by
  refine List.ext_getElem (by rw [List.length_set, List.length_set, shW_length, shW_length]) fun i h1 h2 => ?_
  rw [shW_get, List.getElem_set, List.getElem_set]
  rw [List.length_set, List.length_set] at h2
  unfold wrNext
  by_cases e : n = i
  · subst e; rw [if_pos rfl, if_neg (by omega), if_pos rfl]; rfl
  · rw [if_neg (by omega)]
    by_cases e2 : n + 1 = i
    · subst e2; rw [if_pos (by omega), if_pos rfl]; rfl
    · rw [if_neg (by omega), if_neg e2, if_neg e, shW_get]
theorem used_next {M : Wr} {rem ins : List Str} {pl : Int} {us : List Int} (h : ∀ x, x ∈ us ↔ (M x).isSome = true) (hr : 1 ≤ rem.length) : ∀ x, x ∈ us ++ ((List.range rem.length).map fun (k : Nat) => pl + (k : Int)) ↔ (wrNext M rem ins pl x).isSome = true := fun x => by
  have e : x ∈ (List.range rem.length).map (fun (k : Nat) => pl + (k : Int)) ↔ pl ≤ x ∧ x < pl + rem.length := by
    rw [List.mem_map]
    constructor
    · rintro ⟨k, hk, rfl⟩
      have := List.mem_range.mp hk
      omega
    · rintro ⟨h1, h2⟩
      exact ⟨(x - pl).toNat, List.mem_range.mpr (by omega), by omega⟩
  rw [List.mem_append, e, h x]
  unfold wrNext
  by_cases c : x = pl
  · rw [if_pos c]; simp; omega
  · rw [if_neg c]
    by_cases c2 : pl ≤ x ∧ x < pl + (rem.length : Nat)
    · rw [if_pos c2]; simp [c2]
    · rw [if_neg c2]; simp [c2]
/-- the places by the law -/
theorem in_where {ts rem : List Str} {pl : Int} (hr : 1 ≤ rem.length) : decide (pl ∈ ((List.range ts.length).filter fun i => decide ((ts.drop i).take rem.length = rem)).map fun (i : Nat) => (i : Int)) = standsP ts rem pl := by
  cases e : standsP ts rem pl with
  | true =>
    refine decide_eq_true (List.mem_map.mpr ?_)
    unfold standsP at e
    rw [Bool.and_eq_true] at e
    have h0 := of_decide_eq_true e.1
    have h1 := of_decide_eq_true e.2
    refine ⟨pl.toNat, List.mem_filter.mpr ⟨List.mem_range.mpr ?_, decide_eq_true h1⟩, by omega⟩
    have l := congrArg List.length h1
    rw [List.length_take, List.length_drop] at l
    omega
  | false =>
    refine decide_eq_false fun z => ?_
    obtain ⟨i, hi, rfl⟩ := List.mem_map.mp z
    have := (List.mem_filter.mp hi).2
    unfold standsP at e
    rw [Int.toNat_natCast, decide_eq_true (Int.natCast_nonneg i), Bool.true_and] at e
    rw [this] at e; cases e
/-- the places that are taken already -/
def ownL (us : List Int) (w : Nat) (pl : Int) : List Int := ((List.range w).filter fun (k : Nat) => decide (pl + (k : Int) ∈ us)).map fun (k : Nat) => pl + (k : Int)
theorem own_free {M : Wr} {rem : List Str} {pl : Int} {us : List Int} (h : ∀ x, x ∈ us ↔ (M x).isSome = true) : decide (ownL us rem.length pl = []) = freeP M rem pl := by
  have e : ownL us rem.length pl = [] ↔ freeP M rem pl = true := by
    unfold ownL freeP
    rw [List.map_eq_nil_iff, List.filter_eq_nil_iff, List.all_eq_true]
    constructor
    · intro q k hk
      have := q k hk
      have n : ¬ (pl + (k : Int) ∈ us) := fun z => this (decide_eq_true z)
      rw [h] at n
      show (M (pl + (k : Int))).isNone = true
      cases e : M (pl + (k : Int)) with
      | none => rfl
      | some l => rw [e] at n; exact absurd rfl n
    · intro q k hk z
      have := q k hk
      have n := (h _).mp (of_decide_eq_true z)
      cases e : M (pl + (k : Int)) with
      | none => rw [e] at n; cases n
      | some l => rw [e] at this; cases this
  cases c : freeP M rem pl with
  | true => exact decide_eq_true (e.mpr c)
  | false => exact decide_eq_false fun z => by rw [e.mp z] at c; cases c
/-! ### on the heap -/
/-- what is no list stays -/
def NL (H H' : Hp) : Prop := ∀ a o, H a = some o → (∀ xs, o ≠ .lst xs) → H' a = some o
theorem NL.refl (H : Hp) : NL H H := fun _ _ h _ => h
theorem NL.trans {H H1 H2 : Hp} (x : NL H H1) (y : NL H1 H2) : NL H H2 := fun a o h n => y a o (x a o h n) n
theorem NL.of {H H1 : Hp} (s : Same H H1) : NL H H1 := fun a o h _ => s a o h
theorem NL.bag {H H1 : Hp} {b : Addr} {n : Nat} (O : Off b H H1) (B : Bag H b n) : NL H H1 := fun a o h ne => O a o (fun e => by
  obtain ⟨d, m, c, hb, _⟩ := B
  rw [e, hb] at h; cases h; exact ne _ rfl) h
theorem NL.upd {H : Hp} {d : Addr} {xs ys : List V} (h : H d = some (.lst xs)) : NL H (upd H d (.lst ys)) := fun a o ha ne => by
  have nd : a ≠ d := fun e => by rw [e, h] at ha; cases ha; exact ne _ rfl
  rw [upd_ne nd]; exact ha
theorem RuleAt.nl {H H' : Hp} {C p : Addr} {k : RK} {toks : List Str} (h : RuleAt H C p k toks) (s : NL H H') : RuleAt H' C p k toks := by
  obtain ⟨dx, t, r, i, h1, h2, h3, h4⟩ := h
  exact ⟨dx, t, r, i, s _ _ h1 (fun _ z => nomatch z), s _ _ h2 (fun _ z => nomatch z), s _ _ h3 (fun _ z => nomatch z), s _ _ h4 (fun _ z => nomatch z)⟩
/-- the drawn rules at their places -/
def DrAt (H : Hp) (ds : List V) (rs : RS) : Prop := ds.length = rs.length ∧ ∀ (j : Nat) (r : (RK × List Str) × Int), rs[j]? = some r → ∃ t q, ds[j]? = some (.ref t) ∧ H t = some (.tup [.ref q, .int r.2]) ∧ H q = some (.tup ((r.1.1.word :: r.1.2).map V.str))
theorem DrAt.nl {H H' : Hp} {ds : List V} {rs : RS} (h : DrAt H ds rs) (s : NL H H') : DrAt H' ds rs := ⟨h.1, fun j r e => let ⟨t, q, e1, e2, e3⟩ := h.2 j r e; ⟨t, q, e1, s _ _ e2 (fun _ z => nomatch z), s _ _ e3 (fun _ z => nomatch z)⟩⟩
theorem DrAt.add {H : Hp} {ds : List V} {rs : RS} {t q : Addr} {r : (RK × List Str) × Int} (h : DrAt H ds rs) (h1 : H t = some (.tup [.ref q, .int r.2])) (h2 : H q = some (.tup ((r.1.1.word :: r.1.2).map V.str))) : DrAt H (ds ++ [.ref t]) (rs ++ [r]) := by
  refine ⟨by rw [List.length_append, List.length_append, h.1]; rfl, fun j r' e => ?_⟩
  by_cases c : j < rs.length
  · rw [List.getElem?_append_left c] at e
    obtain ⟨t', q', e1, e2, e3⟩ := h.2 j r' e
    exact ⟨t', q', by rw [List.getElem?_append_left (by rw [h.1]; exact c)]; exact e1, e2, e3⟩
  · rw [List.getElem?_append_right (by omega)] at e
    have : j - rs.length = 0 := by
      refine Classical.byContradiction fun z => ?_
      rw [List.getElem?_eq_none (by show 1 ≤ _; omega)] at e; cases e
    rw [this] at e
    cases e
    exact ⟨t, q, by rw [List.getElem?_append_right (by rw [h.1]; omega), h.1, this]; rfl, h1, h2⟩
/-- lists of texts, none of them at d -/
def ShAt (d : Addr) (H : Hp) (refs : List V) (ls : List (List Str)) : Prop := refs.length = ls.length ∧ ∀ (j : Nat) (l : List Str), ls[j]? = some l → ∃ q, refs[j]? = some (.ref q) ∧ q ≠ d ∧ H q = some (.lst (l.map V.str))
theorem ShAt.mono {d : Addr} {H H' : Hp} {refs : List V} {ls : List (List Str)} (h : ShAt d H refs ls) (O : Off d H H') : ShAt d H' refs ls := ⟨h.1, fun j l e => let ⟨q, e1, e2, e3⟩ := h.2 j l e; ⟨q, e1, e2, O _ _ e2 e3⟩⟩
theorem ShAt.set {d q : Addr} {H : Hp} {refs : List V} {ls : List (List Str)} {n : Nat} {l : List Str} (h : ShAt d H refs ls) (nq : q ≠ d) (hq : H q = some (.lst (l.map V.str))) : ShAt d H (refs.set n (.ref q)) (ls.set n l) := by
  refine ⟨by rw [List.length_set, List.length_set, h.1], fun j l' e => ?_⟩
  rw [List.getElem?_set] at e
  rw [List.getElem?_set]
  by_cases c : n = j
  · subst c
    rw [if_pos rfl] at e ⊢
    by_cases c2 : n < ls.length
    · rw [if_pos c2] at e
      cases e
      exact ⟨q, by rw [if_pos (by rw [h.1]; exact c2)], nq, hq⟩
    · rw [if_neg c2] at e; cases e
  · rw [if_neg c] at e ⊢
    exact h.2 j l' e
theorem ShAt.add {d q : Addr} {H : Hp} {refs : List V} {ls : List (List Str)} {l : List Str} (h : ShAt d H refs ls) (nq : q ≠ d) (hq : H q = some (.lst (l.map V.str))) : ShAt d H (refs ++ [.ref q]) (ls ++ [l]) := by
  refine ⟨by rw [List.length_append, List.length_append, h.1]; rfl, fun j r' e => ?_⟩
  by_cases c : j < ls.length
  · rw [List.getElem?_append_left c] at e
    obtain ⟨q', e1, e2, e3⟩ := h.2 j r' e
    exact ⟨q', by rw [List.getElem?_append_left (by rw [h.1]; exact c)]; exact e1, e2, e3⟩
  · rw [List.getElem?_append_right (by omega)] at e
    have : j - ls.length = 0 := by
      refine Classical.byContradiction fun z => ?_
      rw [List.getElem?_eq_none (by show 1 ≤ _; omega)] at e; cases e
    rw [this] at e
    cases e
    exact ⟨q, by rw [List.getElem?_append_right (by rw [h.1]; omega), h.1, this]; rfl, nq, hq⟩
end Ss
namespace Ss
open PySem L2 PySem.Spec PyProof.Rows Evl
theorem NL.offL {H H1 : Hp} {d : Addr} {xs : List V} (O : Off d H H1) (h : H d = some (.lst xs)) : NL H H1 := fun a o ha ne => O a o (fun e => by rw [e, h] at ha; cases ha; exact ne _ rfl) ha
theorem rgV_ints (pl : Int) (n : Nat) : rgV pl (pl + (n : Int)) = ((List.range n).map fun (k : Nat) => pl + (k : Int)).map V.int := by
  unfold rgV
  rw [show (pl + (n : Int) - pl).toNat = n by omega, List.map_map]; rfl
/-- where the law stands beside the program -/
def StOk (sh : Addr) (ts : List Str) (st : Int ⊕ Wr) (us : List Int) (ls : List (List Str)) (wv : V) (H : Hp) : Prop := match st with
  | .inr M => wv = .non ∧ (∀ x, x ∈ us ↔ (M x).isSome = true) ∧ ls = shW M ts
  | .inl pl => ∃ q, wv = .ref q ∧ q ≠ sh ∧ H q = some (.tup [.str "no", .int pl])
theorem ev_isNoneW {te : TE} {σ : L2.St} {H : Hp} {v : V} (h : Ev te σ H v) : Ev (tIsN te) σ H (.bl (decide (v = .non))) := fun H1 s Q q => h H1 s _ fun H2 s2 => q H2 s2
end Ss
namespace Ss
open PySem L2 PySem.Spec PyProof.Rows Evl
theorem paired_refs {K : PySem.W.Frag} {H : Hp} : ∀ {xs : List V}, (∀ x ∈ xs, ∃ a, x = .ref a) → Paired (EqV K H 1) xs xs
  | [], _ => .nil
  | x :: xs, h => .cons (by
      obtain ⟨a, rfl⟩ := h x List.mem_cons_self
      exact .inr (.inl ⟨a, rfl, rfl⟩)) (paired_refs fun y hy => h y (List.mem_cons_of_mem _ hy))
theorem rv_sameRefs {K : PySem.W.Frag} {H : Hp} {a b : Addr} {xs : List V} (ha : SqL K H a xs) (hb : SqL K H b xs) (h : ∀ x ∈ xs, ∃ a, x = .ref a) : RV (rEqV K) (.ref a) (.ref b) H (.bl true) := fun H1 s Q q =>
  ⟨1, by decide, .inl ⟨a, b, xs, xs, rfl, rfl, ex_l s ha, ex_l s hb, paired_refs h⟩, q H1 (Ex.refl H1)⟩
theorem rv_strSD {K : PySem.W.Frag} {H : Hp} {z : Str} : RV (fun x y H Q => rEq x y H Q ∨ rEqD K x y H Q) (.str z) (.str z) H (.bl true) := fun H1 s Q q => .inl ((rv_eq (x := .str z) (y := .str z) rfl) H1 s Q (by rw [decide_eq_true rfl]; exact q))
theorem rv_noSD {K : PySem.W.Frag} {H : Hp} {a b : Addr} {p : Int} (ha : H a = some (.tup [.str "no", .int p])) (hb : H b = some (.tup [.str "no", .int p])) : RV (fun x y H Q => rEq x y H Q ∨ rEqD K x y H Q) (.ref a) (.ref b) H (.bl true) := fun H1 s Q q => by
  have sh : SeqAt.shaped (.tuple [.str "no", .int p]) = true := by
    have o : PyData.canLay0 (.str "no") = true := by decide +kernel
    show ((PyData.canLay0 (.str "no") && (true && true)) && decide (_ ≤ 64)) = true
    rw [o]; rfl
  exact .inr ⟨_, _, .tup (SqT.of (s _ _ ha)) (.cons (.str "no") (.cons (.int p) .nil)), .tup (SqT.of (s _ _ hb)) (.cons (.str "no") (.cons (.int p) .nil)), sh, sh, by rw [data_same sh]; exact q H1 (Ex.refl H1)⟩
end Ss
namespace Ss
open PySem L2
def topS (i : Nat) : Stmt := PySem.Challenge.pw_silentslips_k48_several_slips_together.main.body.getD i (.Pass ⟨0, 0, 0, 0⟩)
abbrev sBag : Stmt := topS 21
theorem scBag : FnScope ["script", "at", "cell", "digits"] ["script", "at"] (defScope sBag) := ⟨rfl, rfl, rfl, by decide +kernel, rfl, by decide +kernel, by decide +kernel⟩
abbrev sTake : Stmt := topS 22
theorem scTake : FnScope ["dice", "many", "digit", "mixed"] ["dice", "many"] (defScope sTake) := ⟨rfl, rfl, rfl, by decide +kernel, rfl, by decide +kernel, by decide +kernel⟩
abbrev sOf : Stmt := topS 23
theorem scOf : FnScope ["dice", "some"] ["dice", "some"] (defScope sOf) := ⟨rfl, rfl, rfl, by decide +kernel, rfl, by decide +kernel, by decide +kernel⟩
abbrev sSigns : Stmt := topS 24
theorem scSigns : FnScope ["some"] [] (defScope sSigns) := ⟨rfl, rfl, rfl, by decide +kernel, rfl, by decide +kernel, by decide +kernel⟩
abbrev sToken : Stmt := topS 25
theorem scToken : FnScope ["dice", "taken", "chars", "made", "turn", "base", "sign"] ["dice", "taken"] (defScope sToken) := ⟨rfl, rfl, rfl, by decide +kernel, rfl, by decide +kernel, by decide +kernel⟩

def spBag (K : PySem.W.Frag) : Sp := fun vs H Q _ => ∃ (a : Addr) (ns : List Int) (i : Nat), vs = [.ref a, .int i] ∧ SqL K H a (ns.map V.int) ∧ ns.length ≤ 63 ∧ i ≤ 63 ∧
  ∀ (p : Addr) (H' : Hp), H p = none → Same H H' → Bag H' p 0 → Q (.ref p) H'
def spTake : Sp := fun vs H Q _ => ∃ (b : Addr) (many : Int) (n : Nat), vs = [.ref b, .int many] ∧ Bag H b n ∧ n ≤ 1000000000 ∧ 1 ≤ many ∧ many < 2 ^ 200 ∧
  ∀ (i : Int) (H' : Hp), 0 ≤ i → i < many → Off b H H' → Bag H' b (n + 1) → Q (.int i) H'
/-- one of some: of a list, a tuple, a text -/
def spOf (K : PySem.W.Frag) : Sp := fun vs H Q _ => ∃ (b : Addr) (n : Nat), Bag H b n ∧ n ≤ 1000000000 ∧
  ((∃ (p : Addr) (xs : List V), vs = [.ref b, .ref p] ∧ p ≠ b ∧ SqL K H p xs ∧ 1 ≤ xs.length ∧ xs.length ≤ 1000000 ∧ ∀ (x : V) (H' : Hp), x ∈ xs → Off b H H' → Bag H' b (n + 1) → Q x H') ∨
   (∃ (z : Str), vs = [.ref b, .str z] ∧ 1 ≤ z.length ∧ z.length ≤ 1000000 ∧ ∀ (c : Nat) (H' : Hp), c ∈ z.cps.toList → Off b H H' → Bag H' b (n + 1) → Q (.str ⟨#[c]⟩) H'))
section
variable {P : Program} {w : World} {K : PySem.W.Frag} {mg : Str → Option Value} {base : Heap}
theorem ok_bag (F : DefAt K mg "_law_bag" sBag) (T : G0 mg) : Dk P w K mg base CX0 1 "_law_bag" ["script", "at"] (spBag K) := by
  obtain ⟨f, fd, F, mf⟩ := F.ex
  refine ⟨f, fd, F.ok scBag (fun vs H Q E h => ?_) (fun cdv A outer s H vs Q E hr h => ?_), mf, F.kp, F.binds fun _ _ _ _ _ _ us hl => match us, hl with | [_, _], _ => rfl⟩
  · obtain ⟨a, ns, i, rfl, _⟩ := h
    rfl
  · obtain ⟨a, ns, i, rfl, hS, hl, hi, k⟩ := h
    refine ⟨_, (Evl.pss_cut (ps_set (i := 2) scBag.nd rfl (Or.inl rfl) (pe_ifExp (pt_cmpR op_lt (pv 1) (pe_callB call_len_seq (by rfl) T.len (by decide +kernel) (pa_cons (pv 0) pa_nil)) (nomark _)) (pe_ix ix_list (pv 0) (pv 1) (fun _ _ => rfl)) pe_int)) (Evl.pss_cut (ps_set (i := 3) scBag.nd rfl (Or.inl rfl) (pe_ifExp (pt_cmpR op_ge (pe_callB call_abs (by rfl) T.abs (by decide +kernel) (pa_cons (pv 2) pa_nil)) (pe_op op_pow pe_int pe_int) (nomark _)) (pe_callB call_abs (by rfl) T.abs (by decide +kernel) (pa_cons (pv 2) pa_nil)) pe_int)) (pss_one (ps_ret (pe_lst (pa_cons (pv 3) (pa_cons (pe_op op_add (pe_op op_add (pe_op op_mul (pe_op op_mod (pe_callTy call_int1 (by rfl) T.int (by decide +kernel) (pa_cons (pv 2) pa_nil)) pe_int) pe_int) (pe_op op_mul pe_int (pv 1))) pe_int) (pa_cons pe_int pa_nil)))))))), ?_⟩
    refine ⟨fun σ' H' => H' = H ∧ ∃ cell : Int, σ' = [some (.ref a), some (.int i), some (.int cell), none], ?_, ?_⟩
    · refine ⟨_, rfl, _, rfl, a, _, rfl, .inl hS, _, _, rfl, rfl, _, rfl, ?_⟩
      refine ite2 (fun c => ?_) (fun c => ?_)
      · have c' : i < ns.length := by
          have q := of_decide_eq_true c
          rw [List.length_map] at q
          omega
        exact ⟨_, rfl, _, rfl, a, _, i, _, rfl, rfl, hS, atI_nat (by rw [List.getElem?_map, List.getElem?_eq_getElem c']; rfl), rfl, _, rfl⟩
      · exact ⟨rfl, 0, rfl⟩
    rintro _ H2 ⟨rfl, cell, rfl⟩
    refine ⟨fun σ' H1 => H1 = H2 ∧ ∃ d : Int, 0 ≤ d ∧ σ' = [some (.ref a), some (.int i), some (.int cell), some (.int d)], ?_, ?_⟩
    · refine ⟨_, rfl, _, rfl, _, _, rfl, rfl, ⟨by decide, by decide, by decide⟩, _, _, rfl, rfl, _, rfl, ?_⟩
      refine ite2 (fun c => ?_) (fun c => ?_)
      · refine ⟨_, rfl, _, rfl, rfl, _, ?_, rfl⟩
        split <;> omega
      · exact ⟨rfl, 0, Int.le_refl _, rfl⟩
    rintro _ _ ⟨rfl, d, hd, rfl⟩
    refine ⟨_, rfl, _, rfl, .inl ⟨_, rfl, _, _, rfl, rfl, (by show (0 : Int) < 2305843009213693951; decide), _, _, rfl, rfl, .inr ⟨by decide, by decide⟩, _, rfl, _, _, rfl, rfl, .inl ⟨by decide, by decide⟩, _, _, rfl, rfl, _, _, rfl, rfl, ?_⟩⟩
    refine ⟨by show 3 ≤ sizeLine; decide, fun p hp => ?_⟩
    have h1 := Int.emod_nonneg cell (show (2305843009213693951 : Int) ≠ 0 by decide)
    have h2 := Int.emod_lt_of_pos cell (show (0 : Int) < 2305843009213693951 by decide)
    refine k p _ hp (fun b o e => ?_) ⟨d, _, 0, upd_same, hd, ?_, ?_, Int.le_refl _, Int.le_refl _⟩
    · rw [upd_ne (ne_of_none e hp)]; exact e
    · omega
    · show _ < (11529215047000000000 : Int)
      omega
theorem ok_take (F : DefAt K mg "_law_take" sTake) (T : G0 mg) : Dk P w K mg base CX0 1 "_law_take" ["dice", "many"] spTake := by
  obtain ⟨f, fd, F, mf⟩ := F.ex
  refine ⟨f, fd, F.ok scTake (fun vs H Q E h => ?_) (fun cdv A outer s H vs Q E hr h => ?_), mf, F.kp, F.binds fun _ _ _ _ _ _ us hl => match us, hl with | [_, _], _ => rfl⟩
  · obtain ⟨b, many, n, rfl, _⟩ := h
    rfl
  · obtain ⟨b, many, n, rfl, ⟨d, m, c, hb, hd, hm, hM, hc, hn⟩, hn9, h1, h2, k⟩ := h
    have hM : m < (11529215047000000000 : Int) := hM
    have hW : CDivW d many := wide_div (b := 200) (by omega) (by omega) (by decide) (by decide)
    refine ⟨_, (pss_cons (ps_if (pt_cmpR op_gt (pe_ix ix_list (pv 0) pe_int (fun _ _ => rfl)) pe_int (nomark _)) (pss_cons (ps_set (i := 2) scTake.nd rfl (Or.inl rfl) (pe_op op_mod (pe_callTy call_int1 (by rfl) T.int (by decide +kernel) (pa_cons (pe_ix ix_list (pv 0) pe_int (fun _ _ => rfl)) pa_nil)) (pv 1))) (pss_cons (ps_asg (pe_op op_fdivW (pe_ix ix_list (pv 0) pe_int (fun _ _ => rfl)) (pv 1)) (pg_sub (pv 0) pe_int set_list)) (pss_one (ps_ret (pv 2))))) pss_nil) (pss_cons (ps_asg (pe_op op_add (pe_ix ix_list (pv 0) pe_int (fun _ _ => rfl)) pe_int) (pg_sub (pv 0) pe_int set_list)) (pss_cons (ps_set (i := 3) scTake.nd rfl (Or.inl rfl) (pe_op op_mod (pe_callTy call_int1 (by rfl) T.int (by decide +kernel) (pa_cons (pe_op op_pow (pe_op op_add (pe_ix ix_list (pv 0) pe_int (fun _ _ => rfl)) (pe_op op_mul pe_int (pe_ix ix_list (pv 0) pe_int (fun _ _ => rfl)))) pe_int) pa_nil)) pe_int)) (pss_cons (ps_set (i := 3) scTake.nd rfl (Or.inl rfl) (pe_op op_mod (pe_callTy call_int1 (by rfl) T.int (by decide +kernel) (pa_cons (pe_op op_pow (pe_op op_add (pv 3) (pe_op op_mul pe_int (pe_ix ix_list (pv 0) pe_int (fun _ _ => rfl)))) pe_int) pa_nil)) pe_int)) (pss_one (ps_ret (pe_op op_mod (pe_callTy call_int1 (by rfl) T.int (by decide +kernel) (pa_cons (pe_op op_fdivW (pv 3) pe_int) pa_nil)) (pv 1)))))))), ?_⟩
    refine ⟨_, rfl, b, _, 0, _, rfl, rfl, SqL.of hb, rfl, _, _, rfl, rfl, _, rfl, ?_⟩
    refine ite2 (fun c0 => ?_) (fun c0 => ?_)
    · refine ⟨_, rfl, b, _, 0, _, rfl, rfl, SqL.of hb, rfl, .inl ⟨_, rfl, _, rfl, _, _, rfl, rfl, (by show (0 : Int) < many; omega), ?_⟩⟩
      refine ⟨_, rfl, b, _, 0, _, rfl, rfl, SqL.of hb, rfl, _, rfl, _, _, rfl, rfl, hW, _, rfl, b, _, _, 0, rfl, rfl, hb, rfl, ?_⟩
      refine ⟨_, rfl, k _ _ (Int.emod_nonneg _ (by omega)) (Int.emod_lt_of_pos _ (by omega)) (Off.upd (Off.refl b H)) ⟨_, m, c, upd_same, ?_, hm, hM, hc, by omega⟩⟩
      exact Int.ediv_nonneg hd (by omega)
    · have x1 := Int.emod_nonneg ((m + 1000081 * (c + 1)) ^ 3) (show (2305843009213693921 : Int) ≠ 0 by decide)
      have x2 := Int.emod_lt_of_pos ((m + 1000081 * (c + 1)) ^ 3) (show (0 : Int) < 2305843009213693921 by decide)
      have e64 : (2 : Nat) ^ 64 = 18446744073709551616 := by decide
      refine ⟨_, rfl, b, _, 2, _, rfl, rfl, SqL.of hb, rfl, _, _, rfl, rfl, _, rfl, b, _, _, 2, rfl, rfl, hb, rfl, ?_⟩
      have hb2 := upd_same (H := H) (a := b) (o := .lst [.int d, .int m, .int (c + 1)])
      refine ⟨_, rfl, b, _, 1, _, rfl, rfl, SqL.of hb2, rfl, _, rfl, b, _, 2, _, rfl, rfl, SqL.of hb2, rfl, _, _, rfl, rfl, .inl ⟨by decide, by decide⟩, _, _, rfl, rfl, ?_⟩
      refine ⟨_, _, rfl, rfl, ⟨by decide, by decide, ?_⟩, .inl ⟨_, rfl, _, _, rfl, rfl, (by show (0 : Int) < 2305843009213693921; decide), ?_⟩⟩
      · rw [e64]; omega
      refine ⟨_, rfl, _, rfl, b, _, 2, _, rfl, rfl, SqL.of hb2, rfl, _, _, rfl, rfl, .inl ⟨by decide, by decide⟩, _, _, rfl, rfl, ?_⟩
      refine ⟨_, _, rfl, rfl, ⟨by decide, by decide, ?_⟩, .inl ⟨_, rfl, _, _, rfl, rfl, (by show (0 : Int) < 2305843009213693951; decide), ?_⟩⟩
      · rw [e64]
        show Int.natAbs ((m + 1000081 * (c + 1)) ^ 3 % 2305843009213693921 + 32452867 * (c + 1)) < _
        omega
      refine ⟨_, rfl, _, _, rfl, rfl, ⟨by decide, by decide⟩, .inl ⟨_, rfl, _, rfl, _, _, rfl, rfl, (by show (0 : Int) < many; omega), ?_⟩⟩
      refine k _ _ (Int.emod_nonneg _ (by omega)) (Int.emod_lt_of_pos _ (by omega)) (Off.upd (Off.refl b H)) ⟨d, m, c + 1, upd_same, hd, hm, hM, by omega, by omega⟩
theorem ok_of (F : DefAt K mg "_law_of" sOf) (T : G0 mg) (D_law_take : Dk P w K mg base CX0 1 "_law_take" ["dice", "many"] spTake) : Dk P w K mg base CX0 2 "_law_of" ["dice", "some"] (spOf K) := by
  obtain ⟨f, fd, F, mf⟩ := F.ex
  refine ⟨f, fd, F.ok scOf (fun vs H Q E h => ?_) (fun cdv A outer s H vs Q E hr h => ?_), mf, F.kp, F.binds fun _ _ _ _ _ _ us hl => match us, hl with | [_, _], _ => rfl⟩
  · obtain ⟨b, n, _, _, ⟨p, xs, rfl, _⟩ | ⟨z, rfl, _⟩⟩ := h <;> rfl
  · refine ⟨_, (pss_one (ps_ret (pe_ix ix_seq (pv 1) (pe_cd D_law_take hr pass0 (pa_cons (pv 0) (pa_cons (pe_callB call_len (by rfl) T.len (by decide +kernel) (pa_cons (pv 1) pa_nil)) pa_nil))) (fun _ _ => rfl)))), ?_⟩
    have e200 : (1000000 : Int) < 2 ^ 200 := by decide
    obtain ⟨b, n, hB, hn, ⟨p, xs, rfl, hpb, hS, h1, h2, k⟩ | ⟨z, rfl, h1, h2, k⟩⟩ := h
    · refine ⟨_, rfl, _, rfl, _, rfl, .ref p, xs.length, rfl, .inl ⟨xs, hS, rfl⟩, ?_⟩
      refine ⟨b, _, n, rfl, hB, hn, by omega, by omega, fun i H' i0 i1 hO hB' => ?_⟩
      have hi : i.toNat < xs.length := by omega
      exact .inl ⟨p, xs, i, xs[i.toNat], rfl, rfl, hO.seq hpb hS, atI_int i0 hi, k _ _ (List.getElem_mem hi) hO hB'⟩
    · have hz : z.cps.toList.length = z.length := by rw [Array.length_toList]; rfl
      refine ⟨_, rfl, _, rfl, _, rfl, .str z, z.length, rfl, ?_, ?_⟩
      · exact ⟨Nat.le_trans h2 (by decide), rfl⟩
      refine ⟨b, _, n, rfl, hB, hn, by omega, by omega, fun i H' i0 i1 hO hB' => ?_⟩
      have hi : i.toNat < z.cps.toList.length := by omega
      exact .inr (.inr ⟨z, i, z.cps.toList[i.toNat], rfl, rfl, Nat.le_trans h2 (by decide), atI_int i0 hi, k _ _ (List.getElem_mem hi) hO hB'⟩)
def spSigns : Sp := fun vs H Q _ => vs = [] ∧ Q (.str (mkS SGN)) H
theorem ok_signs (F : DefAt K mg "_law_signs" sSigns) : Dk P w K mg base CX0 1 "_law_signs" [] spSigns := by
  obtain ⟨f, fd, F, mf⟩ := F.ex
  refine ⟨f, fd, F.ok scSigns (fun vs H Q E h => ?_) (fun cdv A outer s H vs Q E hr h => ?_), mf, F.kp, F.binds fun _ _ _ _ _ _ us hl => match us, hl with | [], _ => rfl⟩
  · obtain ⟨rfl, _⟩ := h; rfl
  · obtain ⟨rfl, k⟩ := h
    refine ⟨_, (pss_cons (ps_set (i := 0) scSigns.nd rfl (Or.inl rfl) pe_str) (pss_one (ps_ret (pe_op op_add_str (pv 0) pe_str)))), ?_⟩
    refine ⟨_, rfl, _, _, rfl, rfl, (by decide +kernel), ?_⟩
    refine cast (congrArg (fun z => Q (.str z) H) ?_) k
    decide +kernel
/-- a text t of the letters L, of 1 to m letters, that is not among xs -/
def spWord (K : PySem.W.Frag) (L : List Nat) (m : Nat) : Sp := fun vs H Q _ => ∃ (b p : Addr) (n : Nat) (xs : List Str), vs = [.ref b, .ref p] ∧ Bag H b n ∧ n ≤ 900000000 ∧ p ≠ b ∧ SqL K H p (xs.map V.str) ∧ xs.length < L.length ∧
  ∀ (t : List Nat) (H' : Hp), 1 ≤ t.length → t.length ≤ m → (∀ c ∈ t, c ∈ L) → mkS t ∉ xs → Off b H H' → Bag H' b (n + 1 + m) → Q (.str (mkS t)) H'
theorem ok_token (F : DefAt K mg "_law_token" sToken) (T : G0 mg) (D_law_of : Dk P w K mg base CX0 2 "_law_of" ["dice", "some"] (spOf K)) (D_law_signs : Dk P w K mg base CX0 1 "_law_signs" [] spSigns) :
    Dk P w K mg base CX0 3 "_law_token" ["dice", "taken"] (spWord K SGN 4) := by
  obtain ⟨f, fd, F, mf⟩ := F.ex
  refine ⟨f, fd, F.ok scToken (fun vs H Q E h => ?_) (fun cdv A outer s H vs Q E hr h => ?_), mf, F.kp, F.binds fun _ _ _ _ _ _ us hl => match us, hl with | [_, _], _ => rfl⟩
  · obtain ⟨b, p, n, xs, rfl, _⟩ := h; rfl
  · obtain ⟨b, p, n, xs, rfl, hB, hn, hpb, hS, hl, k⟩ := h
    refine ⟨_, (pss_cons (ps_par (by rfl) scToken.nd rfl rfl (by decide) rfl rfl (pa_cons (pe_cd0 D_law_signs hr pass0) (pa_cons pe_str pa_nil)) (by rfl) (i := 2) (j := 3)) (pss_cons (ps_for PassesOwn.never rfl (pi_range1 (by rfl) T.range (pa_cons (pe_cd D_law_of hr pass0 (pa_cons (pv 0) (pa_cons (pe_lst (pa_cons pe_int (pa_cons pe_int (pa_cons pe_int (pa_cons pe_int (pa_cons pe_int (pa_cons pe_int pa_nil))))))) pa_nil))) pa_nil)) (pg_name (i := 4) scToken.nd rfl (.inl rfl)) (pss_one (ps_set (i := 3) scToken.nd rfl (Or.inl rfl) (pe_op op_add_str (pv 3) (pe_cd D_law_of hr pass0 (pa_cons (pv 0) (pa_cons (pv 2) pa_nil))))))) (pss_cons (ps_set (i := 5) scToken.nd rfl (Or.inl rfl) (pe_slice sl_str (pv 3) po_none (po_some pe_int))) (pss_cons (ps_for PassesOwn.never rfl (pi_str (pv 2)) (pg_name (i := 6) scToken.nd rfl (.inl rfl)) (pss_one (ps_if (pt_cmpR op_in_seq (pv 3) (pv 1) (by rfl)) (pss_one (ps_set (i := 3) scToken.nd rfl (Or.inl rfl) (pe_op op_add_str (pv 5) (pv 6)))) pss_nil))) (pss_one (ps_ret (pv 3))))))), ?_⟩
    refine ⟨rfl, _, _, rfl, ?_⟩
    refine ⟨_, rfl, by show 6 ≤ sizeLine; decide, fun q hq => ?_⟩
    refine ⟨b, n, hB.new hq, by omega, .inl ⟨q, _, rfl, (hB.ne hq).symm, SqL.of upd_same, by show 1 ≤ 6; decide, by show 6 ≤ 1000000; decide, fun x H1 hx hO hB1 => ?_⟩⟩
    obtain ⟨j, hj1, hj4, rfl⟩ : ∃ j : Nat, 1 ≤ j ∧ j ≤ 4 ∧ x = .int j := by
      simp only [List.mem_cons, List.not_mem_nil, or_false] at hx
      rcases hx with rfl | rfl | rfl | rfl | rfl | rfl
      · exact ⟨1, by decide, by decide, rfl⟩
      · exact ⟨1, by decide, by decide, rfl⟩
      · exact ⟨1, by decide, by decide, rfl⟩
      · exact ⟨2, by decide, by decide, rfl⟩
      · exact ⟨3, by decide, by decide, rfl⟩
      · exact ⟨4, by decide, by decide, rfl⟩
    have O1 : Off b H H1 := ((Off.refl b H).new hq).trans hO
    refine ⟨j, rfl, by omega, by omega, ?_⟩
    rw [Int.toNat_natCast]
    refine for_range (lo := 0) (n := j) (fun i σ H' => ∃ (m : List Nat) (v : Option V), σ = [some (.ref b), some (.ref p), some (.str (mkS SGN)), some (.str (mkS m)), v, none, none] ∧ m.length = i ∧ (∀ c ∈ m, c ∈ SGN) ∧ Off b H H' ∧ Bag H' b (n + 1 + i))
      ⟨[], none, by rw [← mkS_nil]; rfl, rfl, (fun _ h => by cases h), O1, hB1⟩ ?_ ?_
    · rintro i σ H' hi ⟨m, v, rfl, hm, hc, hO', hB'⟩
      refine ⟨_, rfl, _, rfl, _, rfl, b, n + 1 + i, hB', by omega, .inr ⟨mkS SGN, rfl, by decide +kernel, by decide +kernel, fun c H2 hcs hO2 hB2 => ?_⟩⟩
      rw [mkS_cps] at hcs
      refine ⟨_, _, rfl, rfl, ?_, ?_⟩
      · rw [mkS_len]; exact Nat.le_trans (show _ ≤ 10 by rw [hm]; show i + 1 ≤ 10; omega) (by decide)
      · refine ⟨m ++ [c], some (.int (0 + i)), ?_, by rw [List.length_append, hm]; rfl, fun d hd => ?_, hO'.trans hO2, hB2⟩
        · rw [mkS_one, mkS_app]; rfl
        · rcases List.mem_append.mp hd with hd | hd
          · exact hc d hd
          · rw [List.mem_singleton.mp hd]; exact hcs
    · rintro σ H' ⟨m, v, rfl, hm, hc, hO', hB'⟩
      refine ⟨_, rfl, 3, rfl, _, rfl, ?_, ?_⟩
      · rw [mkS_len]; exact Nat.le_trans (show _ ≤ 10 by omega) (by decide)
      rw [show cutS (mkS m) none (some (3 : Int)) = mkS (m.take 3) from cut_to m 3]
      refine ⟨_, rfl, _, rfl, for_it walk_str (fun i σ H2 => H2 = H' ∧ ∃ u : Option V, σ = [some (.ref b), some (.ref p), some (.str (mkS SGN)), some (.str (mkS ((SGN.take i).foldl (more1 xs (m.take 3)) m))), v, some (.str (mkS (m.take 3))), u])
        ⟨rfl, none, rfl⟩ (fun _ _ _ _ _ => trivial) ?_ ?_⟩
      · rintro i x σ H2 H3 hi ⟨rfl, u, rfl⟩ ⟨rfl, c, hc', rfl⟩
        have hs : SGN[i]? = some c := by
          have q : (mkS SGN).cps.toList[i]? = some c := by rw [Array.getElem?_toList]; exact hc'
          rw [mkS_cps] at q
          exact q
        refine ⟨_, rfl, _, rfl, p, _, rfl, .inl (hO'.seq hpb hS), rfl, flat_strs xs, _, rfl, ?_⟩
        show if inV (.str _) (xs.map V.str) = true then _ else _
        rw [inV_str]
        have et : SGN.take (i + 1) = SGN.take i ++ [c] := by
          rw [List.take_add_one, hs]; rfl
        have ef : (SGN.take (i + 1)).foldl (more1 xs (m.take 3)) m = more1 xs (m.take 3) ((SGN.take i).foldl (more1 xs (m.take 3)) m) c := by
          rw [et, List.foldl_append]; rfl
        refine ite2 (fun q => ?_) (fun q => ?_)
        · refine ⟨_, rfl, _, rfl, _, _, rfl, rfl, ?_, rfl, some (.str ⟨#[c]⟩), ?_⟩
          · rw [mkS_len]; exact Nat.le_trans (show _ ≤ 10 by rw [List.length_take]; show _ + 1 ≤ 10; omega) (by decide)
          · rw [ef, more_yes (of_decide_eq_true q), mkS_one, mkS_app]
            rfl
        · refine ⟨rfl, some (.str ⟨#[c]⟩), ?_⟩
          rw [ef, more_no (fun z => q (decide_eq_true z))]
          rfl
      · rintro σ H2 ⟨rfl, u, rfl⟩
        have es : (mkS SGN).cps.size = SGN.length := by rw [← Array.length_toList, mkS_cps]
        rw [es, List.take_length]
        refine ⟨_, rfl, ?_⟩
        have sh : ∀ c, c ∈ SGN → (fun t : List Nat => 1 ≤ t.length ∧ t.length ≤ 4 ∧ ∀ d ∈ t, d ∈ SGN) (m.take 3 ++ [c]) := fun c hcs => by
          refine ⟨by rw [List.length_append]; exact Nat.le_add_left _ _, ?_, fun d hd => ?_⟩
          · rw [List.length_append, List.length_take]; show min 3 m.length + 1 ≤ 4; omega
          · rcases List.mem_append.mp hd with hd | hd
            · exact hc d (List.mem_of_mem_take hd)
            · rw [List.mem_singleton.mp hd]; exact hcs
        obtain ⟨s1, s2, s3⟩ := more_shape (xs := xs) (bs := m.take 3) (cs := SGN) (S := fun t : List Nat => 1 ≤ t.length ∧ t.length ≤ 4 ∧ ∀ d ∈ t, d ∈ SGN) sh (m := m) ⟨by omega, by omega, hc⟩
        exact k _ _ s1 s2 s3 (more_new sgn_nd hl) hO' (hB'.mono (by omega))
abbrev sKept : Stmt := topS 2
theorem scKept : FnScope ["value", "part"] ["value"] (defScope sKept) := ⟨rfl, rfl, rfl, by decide +kernel, rfl, by decide +kernel, by decide +kernel⟩

theorem ok_kept (F : DefAt K mg "kept" sKept) (T : G0 mg) : ∀ n : Nat, Dk P w K mg base CX0 (n + 1) "kept" ["value"] (spKept K n) := by
  obtain ⟨f, fd, F0, mf⟩ := F.ex
  have bb : ∀ f fd, Fun K "kept" "kept" sKept f fd → Binds K fd ["value"] [] := fun f fd F => F.binds fun _ _ _ _ _ _ us hl => match us, hl with | [_], _ => rfl
  -- the flat ones, any promise of the inner calls
  have step : ∀ (n k : Nat) (sp : Sp), Dk P w K mg base CX0 k "kept" ["value"] sp → (∀ m, n = m + 1 → sp = spKept K m) → Dk P w K mg base CX0 (k + 1) "kept" ["value"] (spKept K n) := by
    intro n k sp Dk0 hsp
    refine ⟨f, fd, F0.ok scKept (fun vs H Q E h => ?_) (fun cdv A outer s H vs Q E hr h => ?_), mf, F0.kp, bb f fd F0⟩
    · obtain ⟨v, d, rfl, _⟩ := h
      rfl
    · obtain ⟨v, d, rfl, hd, ht, kk⟩ := h
      have hr : Room k _ := hr
      have hkk : k ≤ k := Nat.le_refl k
      refine ⟨_, (pss_cons (ps_if (pt_val (pe_callB call_isi (by rfl) T.isinstance (by decide +kernel) (pa_cons (pv 0) (pa_cons (pe_bltn (v := .ty "list") (u := .type "list") (by rfl) T.list (by decide +kernel) rfl) pa_nil)))) (pss_one (ps_ret (pe_lc (own := [("part", 1)]) (g := gName 1) rfl scKept.nd (pi_list (pv 0)) (blkOk_by (N := ["value", "part"]) (sc := defScope sKept) (by decide +kernel)) (fun _ _ _ _ _ => (pg_name (i := 1) scKept.nd rfl (.inl rfl))) (fun _ _ _ _ _ => pts_nil) (fun _ _ _ _ _ => (pe_cd Dk0 hr pass0 (pa_cons (pv 1) pa_nil) (hk := Nat.le_refl _)))))) pss_nil) (pss_cons (ps_if (pt_val (pe_callB call_isi (by rfl) T.isinstance (by decide +kernel) (pa_cons (pv 0) (pa_cons (pe_bltn (v := .ty "tuple") (u := .type "tuple") (by rfl) T.tuple (by decide +kernel) rfl) pa_nil)))) (pss_one (ps_ret (pe_callTy call_tuple_of (by rfl) T.tuple (by decide +kernel) (pa_cons (pe_lc (own := [("part", 1)]) (g := gName 1) rfl scKept.nd (pi_tup (pv 0)) (blkOk_by (N := ["value", "part"]) (sc := defScope sKept) (by decide +kernel)) (fun _ _ _ _ _ => (pg_name (i := 1) scKept.nd rfl (.inl rfl))) (fun _ _ _ _ _ => pts_nil) (fun _ _ _ _ _ => (pe_cd Dk0 hr pass0 (pa_cons (pv 1) pa_nil) (hk := Nat.le_refl _)))) pa_nil)))) pss_nil) (pss_one (ps_ret (pv 0))))), ?_⟩
      have ty := dp_ty hd (fun ds e => by subst e; cases n <;> exact Bool.noConfusion ht)
      cases d with
      | none => exact ⟨_, rfl, _, .ty "list", _, _, false, rfl, .ty _, ty, kit_ty (show kitB "NoneType" "list" = some false by decide +kernel), false, rfl, iteF ⟨_, rfl, _, .ty "tuple", _, _, false, rfl, .ty _, ty, kit_ty (show kitB "NoneType" "tuple" = some false by decide +kernel), false, rfl, iteF ⟨_, rfl, kk _ H (Same.refl H) hd⟩⟩⟩
      | bool b => exact ⟨_, rfl, _, .ty "list", _, _, false, rfl, .ty _, ty, kit_ty (show kitB "bool" "list" = some false by decide +kernel), false, rfl, iteF ⟨_, rfl, _, .ty "tuple", _, _, false, rfl, .ty _, ty, kit_ty (show kitB "bool" "tuple" = some false by decide +kernel), false, rfl, iteF ⟨_, rfl, kk _ H (Same.refl H) hd⟩⟩⟩
      | int i => exact ⟨_, rfl, _, .ty "list", _, _, false, rfl, .ty _, ty, kit_ty (show kitB "int" "list" = some false by decide +kernel), false, rfl, iteF ⟨_, rfl, _, .ty "tuple", _, _, false, rfl, .ty _, ty, kit_ty (show kitB "int" "tuple" = some false by decide +kernel), false, rfl, iteF ⟨_, rfl, kk _ H (Same.refl H) hd⟩⟩⟩
      | str x => exact ⟨_, rfl, _, .ty "list", _, _, false, rfl, .ty _, ty, kit_ty (show kitB "str" "list" = some false by decide +kernel), false, rfl, iteF ⟨_, rfl, _, .ty "tuple", _, _, false, rfl, .ty _, ty, kit_ty (show kitB "str" "tuple" = some false by decide +kernel), false, rfl, iteF ⟨_, rfl, kk _ H (Same.refl H) hd⟩⟩⟩
      | list ds => cases n <;> exact Bool.noConfusion ht
      | dict kvs => cases n <;> exact Bool.noConfusion ht
      | tuple ds =>
        cases n with
        | zero => exact Bool.noConfusion ht
        | succ m =>
        obtain rfl := hsp m rfl
        obtain ⟨hlen, hall⟩ := tupD_all ht
        cases hd with
        | @tup a xs ds hs ha =>
          have hxl := DpAll.len ha
          refine ⟨_, rfl, _, .ty "list", _, _, false, rfl, .ty _, ty, kit_ty (show kitB "tuple" "list" = some false by decide +kernel), false, rfl, iteF ?_⟩
          refine ⟨_, rfl, _, .ty "tuple", _, _, true, rfl, .ty _, ty, kit_ty (show kitB "tuple" "tuple" = some true by decide +kernel), true, rfl, iteT ?_⟩
          refine ⟨_, rfl, a, rfl, ⟨_, hs⟩, fun D hD => lc_tup (xs := xs) (fun i H' => ∃ ys, H' D = some (.lst ys) ∧ ys.length = i ∧ DpAll K H' ys (ds.take i) ∧ Same H H') ⟨[], upd_same, rfl, .nil, Same.new (Same.refl H) hD⟩ (fun i H' _ ⟨_, _, _, _, s⟩ => Evl.ex_t s hs) ?_ ?_⟩
          · rintro i x H' hi ⟨ys, hD', hyl, hys, s⟩
            obtain ⟨d, hdi, hdx⟩ := DpAll.get ha hi
            have hmem : d ∈ ds := List.mem_of_getElem? hdi
            have hi2 : i < ds.length := (List.getElem?_eq_some_iff.mp hdi).1
            refine ⟨rfl, x, rfl, x, d, rfl, Dp.mono s hdx, hall d hmem, fun v' H2 s2 hv' => ⟨ys, s2 _ _ hD', ?_, ys ++ [v'], upd_same, ?_, ?_, fun b o hb => ?_⟩⟩
            · rw [hyl]; exact Nat.lt_of_lt_of_le (show i < 1000 by omega) (by decide)
            · rw [List.length_append, hyl]; rfl
            · have et : ds.take (i + 1) = ds.take i ++ [d] := by rw [List.take_add_one, hdi]; rfl
              rw [et]
              have o2 : Off D H2 (upd H2 D (.lst (ys ++ [v']))) := (Off.refl D H2).upd
              have n2 : NotTup (H2 D) := by rw [s2 _ _ hD']; exact trivial
              exact DpAll.snoc (DpAll.off (n := m) o2 n2 (fun d hd => hall d (List.mem_of_mem_take hd)) (DpAll.mono s2 hys)) (Dp.off o2 n2 m _ _ (hall d hmem) hv')
            · rw [upd_ne (ne_of_none hb hD)]
              exact s2 _ _ (s _ _ hb)
          · rintro H' ⟨ys, hD', hyl, hys, s⟩
            rw [hxl, List.take_length] at hys
            refine ⟨D, ys, rfl, .inl ⟨SqL.of hD', fun p hp => kk _ _ (Same.new s hp) ?_⟩⟩
            exact .tup (.inl (.inl upd_same)) (DpAll.mono (Same.new (Same.refl H') hp) hys)
  intro n
  induction n with
  | zero => exact step 0 0 _ (Dk.never F bb) (fun m e => by cases e)
  | succ n ih => exact step (n + 1) (n + 1) _ ih (fun m e => by cases e; rfl)
abbrev sBadRule : Stmt := inClass (topS 4) 0
theorem scBadRule : FnScope ["self", "worth"] ["self", "worth"] (defScope sBadRule) := ⟨rfl, rfl, rfl, by decide +kernel, rfl, by decide +kernel, by decide +kernel⟩
theorem ok_BadRule {C S : Addr} (D : EAtop K mg "BadRule" "BadRule.__init__" C "ValueError.__init__" ["worth"] sBadRule) (B : SlipB K mg S) (Dkept : Dk P w K mg base CX0 2 "kept" ["value"] (spKept K 1)) : EDef P w K mg base 3 "BadRule" C "ValueError.__init__" ["self", "worth"] (spErr K C ["worth"] 1) := by
  obtain ⟨T, hm, ⟨f, fd, iC, tI, F⟩, hno⟩ := D
  refine ⟨fd, ⟨T, f, iC, tI, F.ok scBadRule (fun vs H Q E h => ?_) (fun cdv A outer s H vs Q E hr h => ?_)⟩, hm, fun n hn => ⟨fun s us ws h1 h2 => ?_⟩⟩
  · obtain ⟨a, xs, ds, rfl, hl, _⟩ := h
    rw [List.length_cons, hl]
    all_goals rfl
  · obtain ⟨a, xs, ds, rfl, hl, ha, ⟨hL, hD⟩, k⟩ := h
    obtain ⟨x1, rfl⟩ := one_of hl
    obtain ⟨d1, rfl⟩ := one_of (hL.symm.trans hl)
    obtain ⟨e1, q1, hd1, ht1, sh1⟩ := hD 0 x1 rfl
    cases q1
    refine ⟨_, (pss_cons (ps_expr (pe_einitO rfl B.gS B.rd B.ga B.vV (by decide +kernel) (pa_cons (pv 0) (pa_cons (pe_joined (PJ.cons pe_str (PJ.cons (pe_fmtX hr (pv 1)) PJ.nil))) pa_nil)))) (pss_one (ps_est "ValueError.__init__" (pv 0) (pe_cd Dkept hr pass0 (pa_cons (pv 1) pa_nil))))), ?_⟩
    refine ⟨_, rfl, parts_run (K := K) (n := 0) (fun t ht => ?_) (Nat.zero_le _) (by show 0 + 2 ≤ 12; decide) fun z => ⟨a, C, [.str z], rfl, by show 1 ≤ 1000; decide, T, ha, ?_⟩⟩
    · simp only [List.mem_cons, List.not_mem_nil, or_false] at ht
      rcases ht with rfl | rfl
      · exact part_c (by decide +kernel)
      · exact part_v rfl sh1
    refine est_turn T (hno "worth" (by simp)) rfl rfl (part0 ha) hd1 ht1 (by show 0 ≤ 900; decide) fun H1 hp1 => ?_
    exact k _ hp1
  · obtain ⟨oc, od, kV, doc, pm, an, cdv, ct, osl, rfl, lk, hcd⟩ := F.ex
    match n, hn, us, ws, h1, h2 with
    | 0, _, [_], [_], _, _ => exact .of_eq rfl
    | 1, _, [_, _], [], _, _ => exact .of_eq rfl
abbrev sNoPlace : Stmt := inClass (topS 5) 0
theorem scNoPlace : FnScope ["self", "place"] ["self", "place"] (defScope sNoPlace) := ⟨rfl, rfl, rfl, by decide +kernel, rfl, by decide +kernel, by decide +kernel⟩
theorem ok_NoPlace {C S : Addr} (D : EAtop K mg "NoPlace" "NoPlace.__init__" C "ValueError.__init__" ["place"] sNoPlace) (B : SlipB K mg S) (Dkept : Dk P w K mg base CX0 2 "kept" ["value"] (spKept K 1)) : EDef P w K mg base 3 "NoPlace" C "ValueError.__init__" ["self", "place"] (spErr K C ["place"] 1) := by
  obtain ⟨T, hm, ⟨f, fd, iC, tI, F⟩, hno⟩ := D
  refine ⟨fd, ⟨T, f, iC, tI, F.ok scNoPlace (fun vs H Q E h => ?_) (fun cdv A outer s H vs Q E hr h => ?_)⟩, hm, fun n hn => ⟨fun s us ws h1 h2 => ?_⟩⟩
  · obtain ⟨a, xs, ds, rfl, hl, _⟩ := h
    rw [List.length_cons, hl]
    all_goals rfl
  · obtain ⟨a, xs, ds, rfl, hl, ha, ⟨hL, hD⟩, k⟩ := h
    obtain ⟨x1, rfl⟩ := one_of hl
    obtain ⟨d1, rfl⟩ := one_of (hL.symm.trans hl)
    obtain ⟨e1, q1, hd1, ht1, sh1⟩ := hD 0 x1 rfl
    cases q1
    refine ⟨_, (pss_cons (ps_expr (pe_einitO rfl B.gS B.rd B.ga B.vV (by decide +kernel) (pa_cons (pv 0) (pa_cons (pe_joined (PJ.cons pe_str (PJ.cons (pe_fmtX hr (pv 1)) PJ.nil))) pa_nil)))) (pss_one (ps_est "ValueError.__init__" (pv 0) (pe_cd Dkept hr pass0 (pa_cons (pv 1) pa_nil))))), ?_⟩
    refine ⟨_, rfl, parts_run (K := K) (n := 0) (fun t ht => ?_) (Nat.zero_le _) (by show 0 + 2 ≤ 12; decide) fun z => ⟨a, C, [.str z], rfl, by show 1 ≤ 1000; decide, T, ha, ?_⟩⟩
    · simp only [List.mem_cons, List.not_mem_nil, or_false] at ht
      rcases ht with rfl | rfl
      · exact part_c (by decide +kernel)
      · exact part_v rfl sh1
    refine est_turn T (hno "place" (by simp)) rfl rfl (part0 ha) hd1 ht1 (by show 0 ≤ 900; decide) fun H1 hp1 => ?_
    exact k _ hp1
  · obtain ⟨oc, od, kV, doc, pm, an, cdv, ct, osl, rfl, lk, hcd⟩ := F.ex
    match n, hn, us, ws, h1, h2 with
    | 0, _, [_], [_], _, _ => exact .of_eq rfl
    | 1, _, [_, _], [], _, _ => exact .of_eq rfl

end
end Ss
namespace Ss
open PySem L2
section
variable {P : Program} {w : World} {K : PySem.W.Frag} {mg : Str → Option Value} {base : Heap}
/-- a drawn rule that may meet the tokens -/
def spMeet (K : PySem.W.Frag) : Sp := fun vs H Q _ => ∃ (b t p : Addr) (n : Nat) (ts ws : List Str), vs = [.ref b, .ref t, .ref p] ∧ Bag H b n ∧ n ≤ 700000000 ∧ t ≠ b ∧ p ≠ b ∧ SqL K H t (ts.map V.str) ∧ SqL K H p (ws.map V.str) ∧ ts.length ≤ 1000 ∧ (∀ x ∈ ts, x ∈ ws) ∧ ws.all okS = true ∧ 2 ≤ ws.length ∧ ws.length ≤ 1000 ∧ ws.Nodup ∧
  ∀ (q : Addr) (k : RK) (toks : List Str) (H' : Hp), Off b H H' → Bag H' b (n + 8) → H q = none → H' q = some (.tup ((k.word :: toks).map V.str)) → toks.length = k.many → (∀ z ∈ toks, z ∈ ws) → toks.Nodup → Q (.ref q) H'
theorem back_off {b t : Addr} {H H' : Hp} {n : Nat} (O : Off b H H') (B : Bag H' b n) (ht : H' t = none) : H t = none := by
  cases e : H t with
  | none => rfl
  | some o =>
    by_cases c : t = b
    · obtain ⟨d, m, cc, hb, _⟩ := B
      rw [c, hb] at ht; cases ht
    · rw [O t o c e] at ht; cases ht
theorem Off.same {b : Addr} {H H1 H2 : Hp} (O : Off b H H1) (s : Same H1 H2) : Off b H H2 := fun a o n h => s _ _ (O a o n h)
theorem kd5 {x : V} (hx : x ∈ ([.str "out", .str "twice", .str "swapped", .str "taken", .str "swapped"] : List V)) : ∃ k : RK, x = V.str k.word := by
  simp only [List.mem_cons, List.not_mem_nil, or_false] at hx
  rcases hx with rfl | rfl | rfl | rfl | rfl
  · exact ⟨.out, rfl⟩
  · exact ⟨.twice, rfl⟩
  · exact ⟨.swapped, rfl⟩
  · exact ⟨.taken, rfl⟩
  · exact ⟨.swapped, rfl⟩
theorem given_filterW {l : List Str} {p : Str → Bool} : Evl.given l.length (fun i => p (l.getD i Str.empty)) (fun i => V.str (l.getD i Str.empty)) = (l.filter p).map V.str := by
  unfold Evl.given
  rw [show (fun i => V.str (l.getD i Str.empty)) = V.str ∘ (fun i => l.getD i Str.empty) from rfl, ← List.map_map]
  congr 1
  have e : l = (List.range l.length).map fun i => l.getD i Str.empty := by
    refine List.ext_getElem (by simp) fun i h1 h2 => ?_
    simp only [List.getElem_map, List.getElem_range]
    rw [List.getD_eq_getElem?_getD, List.getElem?_eq_getElem h1]; rfl
  conv => rhs; rw [e, List.filter_map]
  rfl
theorem two_ne {ws : List Str} (nd : ws.Nodup) (h : 2 ≤ ws.length) (a : Str) : 1 ≤ (ws.filter fun x => !decide (x = a)).length := by
  refine List.length_pos_iff.mpr fun z => ?_
  have al : ∀ x ∈ ws, x = a := fun x hx => by
    refine Classical.byContradiction fun ne => ?_
    have : x ∈ ws.filter fun x => !decide (x = a) := List.mem_filter.mpr ⟨hx, by rw [decide_eq_false ne]; rfl⟩
    rw [z] at this; cases this
  cases ws with
  | nil => exact absurd h (by decide)
  | cons x r => cases r with
    | nil => exact absurd (show 2 ≤ 1 from h) (by decide)
    | cons y r =>
      have e1 := al x List.mem_cons_self
      have e2 := al y (List.mem_cons_of_mem _ List.mem_cons_self)
      exact (List.nodup_cons.mp nd).1 (by rw [e1, ← e2]; exact List.mem_cons_self)
abbrev sMeet : Stmt := topS 28
theorem scMeet : FnScope ["bag", "tokens", "every", "word", "at", "first", "token"] ["bag", "tokens", "every"] (defScope sMeet) := ⟨rfl, rfl, rfl, by decide +kernel, rfl, by decide +kernel, by decide +kernel⟩
theorem ok_meet (F : DefAt K mg "_law_meeting" sMeet) (T : G0 mg) (Dtake : Dk P w K mg base CX0 1 "_law_take" ["dice", "many"] spTake) (Dof : Dk P w K mg base CX0 2 "_law_of" ["dice", "some"] (spOf K)) (Drule : Dk P w K mg base CX0 3 "_law_rule" ["bag", "every"] (spRule K)) : Dk P w K mg base CX0 4 "_law_meeting" ["bag", "tokens", "every"] (spMeet K) := by
  obtain ⟨f, fd, F, mf⟩ := F.ex
  refine ⟨f, fd, F.ok scMeet (fun vs H Q E h => ?_) (fun cdv A outer s H vs Q E hr h => ?_), mf, F.kp, F.binds fun _ _ _ _ _ _ us hl => match us, hl with | [_, _, _], _ => rfl⟩
  · obtain ⟨b, t, p, n, ts, ws, rfl, _⟩ := h; rfl
  · obtain ⟨b, t, p, n, ts, ws, rfl, hB, hn, htb, hpb, hT, hS, h1, hin, hok, h2, h3, nd, k⟩ := h
    refine ⟨_, (pss_cons (ps_set (i := 3) scMeet.nd rfl (Or.inl rfl) (pe_cd Dof hr pass0 (pa_cons (pv 0) (pa_cons (pe_lst (pa_cons pe_str (pa_cons pe_str (pa_cons pe_str (pa_cons pe_str (pa_cons pe_str pa_nil)))))) pa_nil)))) (pss_cons (ps_if (PW.pt (pw_or (pt_cmpR (op_eqD hr.units) (pv 1) (pe_lst pa_nil) (nomark _)) (pw_or1 (pt_cmpR op_eq (pe_cd Dtake hr pass0 (pa_cons (pv 0) (pa_cons pe_int pa_nil))) pe_int (nomark _))))) (pss_one (ps_ret (pe_cd Drule hr pass0 (pa_cons (pv 0) (pa_cons (pv 2) pa_nil))))) pss_nil) (pss_cons (ps_set (i := 4) scMeet.nd rfl (Or.inl rfl) (pe_cd Dtake hr pass0 (pa_cons (pv 0) (pa_cons (pe_callB call_len_seq (by rfl) T.len (by decide +kernel) (pa_cons (pv 1) pa_nil)) pa_nil)))) (pss_cons (ps_set (i := 5) scMeet.nd rfl (Or.inr rfl) (pe_ix ix_list (pv 1) (pv 4) (fun _ _ => rfl))) (pss_cons (ps_if (PW.pt (pw_and (pt_cmpR op_eq (pv 3) pe_str (nomark _)) (pw_and1 (pt_cmpR (op_notInD (Room.u65 hr)) (pe_slice sl_list (pv 1) (po_some (pe_op op_add (pv 4) pe_int)) (po_some (pe_op op_add (pv 4) pe_int))) (pe_lst (pa_cons (pe_lst pa_nil) (pa_cons (pe_lst (pa_cons (pv 5) pa_nil)) pa_nil))) (by rfl))))) (pss_one (ps_ret (pe_tup (pa_cons (pv 3) (pa_cons (pv 5) (pa_cons (pe_ix ix_list (pv 1) (pe_op op_add (pv 4) pe_int) (fun _ _ => rfl)) pa_nil)))))) pss_nil) (pss_cons (ps_if (pt_cmpR op_in_seq (pv 3) (pe_lst (pa_cons pe_str (pa_cons pe_str pa_nil))) (by rfl)) (pss_one (ps_ret (pe_tup (pa_cons pe_str (pa_cons (pv 5) (pa_cons (pe_cd Dof hr pass0 (pa_cons (pv 0) (pa_cons (pe_lc (own := [("token", 6)]) (g := gName 6) rfl scMeet.nd (pi_list (pv 2)) (blkOk_by (N := ["bag", "tokens", "every", "word", "at", "first", "token"]) (sc := defScope sMeet) (by decide +kernel)) (fun _ _ _ _ _ => (pg_name (i := 6) scMeet.nd rfl (.inl rfl))) (fun _ _ _ _ _ => (pts_one (pt_cmpR op_ne (pv 6) (pv 5) (nomark _)))) (fun _ _ _ _ _ => (pv 6))) pa_nil))) pa_nil)))))) pss_nil) (pss_one (ps_ret (pe_tup (pa_cons (pv 3) (pa_cons (pv 5) pa_nil))))))))))), ?_⟩
    have okT : ts.all okS = true := List.all_eq_true.mpr fun x hx => List.all_eq_true.mp hok x (hin x hx)
    have h200 : (1000 : Int) < 2 ^ 200 := by decide
    refine ⟨_, rfl, by show 5 ≤ sizeLine; decide, fun q0 hq0 => ?_⟩
    refine ⟨b, n, hB.new hq0, by omega, .inl ⟨q0, _, rfl, (hB.ne hq0).symm, SqL.of upd_same, by show 1 ≤ 5; decide, by show 5 ≤ 1000000; decide, fun x H1 hx O1 B1 => ?_⟩⟩
    obtain ⟨kd, rfl⟩ := kd5 hx
    have O1 : Off b H H1 := (Off.new (Off.refl b H) hq0).trans O1
    have T1 := O1.seq htb hT
    have fall : ∀ {H2 : Hp} {D : Ends} {σ : L2.St}, Off b H H2 → Bag H2 b (n + 2) → σ[0]? = some (some (.ref b)) → σ[2]? = some (some (.ref p)) → (∀ v H', Q v H' → D.rt v H') → tRet (tCall (spRule K) [] E0 (tCons (tVar 0) (tCons (tVar 2) tNil))) D σ H2 := fun O2 B2 e0 e2 hd => by
      refine ⟨_, e0, _, e2, b, p, _, ws, rfl, B2, by omega, hpb, O2.seq hpb hS, h2, h3, nd, fun q k' toks H' O' B' nq hq l1 m1 n1 => hd _ _ (k q k' toks H' (O2.trans O') (B'.mono (by omega)) (back_off O2 B2 nq) hq l1 m1 n1)⟩
    have evE : Evl.Ev (tOp (rEqD K) (tVar 1) (tLst tNil)) [some (.ref b), some (.ref t), some (.ref p), some (.str kd.word), none, none, none] H1 (.bl (decide (ts = []))) := Evl.ev_opL (Evl.ev_var rfl) (Evl.el_lst (vs := (([] : List Str).map V.str)) Evl.ea_nil (Nat.zero_le _)) fun _ _ h s => rv_eqLs okT rfl (Evl.ex_l s T1) (SqL.of h)
    refine evE H1 (Evl.Ex.refl H1) _ fun H2 s2 => ?_
    refine ⟨_, rfl, ?_⟩
    have O2 := O1.same s2
    have B2 := B1.same s2
    refine ite2 (fun e0 => ?_) (fun e0 => ?_)
    · refine ite2 (fun _ => ?_) (fun z => absurd rfl z)
      exact fall O2 (B2.mono (by omega)) rfl rfl fun _ _ h => h
    have e0 : ts ≠ [] := fun z => e0 (decide_eq_true z)
    have lts : 0 < ts.length := List.length_pos_iff.mpr e0
    refine ⟨_, rfl, b, _, _, rfl, B2, by omega, by omega, by omega, fun u H3 u0 u1 O3 B3 => ⟨rfl, _, rfl, ?_⟩⟩
    have O3 := O2.trans O3
    refine ite2 (fun c0 => ?_) (fun c0 => ?_)
    · exact fall O3 (B3.mono (by omega)) rfl rfl fun _ _ h => h
    -- at = take(len(tokens)) ; first
    refine ⟨_, rfl, _, rfl, t, _, rfl, .inl (O3.seq htb hT), ?_⟩
    rw [List.length_map]
    refine ⟨b, _, _, rfl, B3, by omega, by omega, by omega, fun i H4 i0 i1 O4 B4 => ?_⟩
    have O4 := O3.trans O4
    have T4 := O4.seq htb hT
    obtain ⟨ni, rfl⟩ : ∃ a : Nat, i = (a : Int) := ⟨i.toNat, (Int.toNat_of_nonneg i0).symm⟩
    have hni : ni < ts.length := by omega
    have gi : (ts.map V.str)[ni]? = some (V.str ts[ni]) := by rw [List.getElem?_map, List.getElem?_eq_getElem hni]; rfl
    have okF : okS ts[ni] = true := List.all_eq_true.mp okT _ (List.getElem_mem hni)
    refine Evl.q_asg (v := .str ts[ni]) (Evl.ev_op (Evl.ev_var rfl) (Evl.ev_var rfl) (Evl.rv_ixL T4 (atI_nat gi))) fun H5 s5 => ?_
    have O5 := O4.same s5
    have B5 := B4.same s5
    have T5 := O5.seq htb hT
    have memF : ts[ni] ∈ ws := hin _ (List.getElem_mem hni)
    -- the two next
    let l2 : List Str := (ts.drop (ni + 1)).take 1
    have ec : cutV (ts.map V.str) (some ((ni : Int) + 1)) (some ((ni : Int) + 2)) = l2.map V.str := by
      have q := cut_nat (xs := ts.map V.str) (n := ni + 1) (m := 1)
      rw [show (((ni + 1 : Nat) : Int) + ((1 : Nat) : Int)) = (ni : Int) + 2 by omega, show ((ni + 1 : Nat) : Int) = (ni : Int) + 1 by omega] at q
      rw [q, ← List.map_drop, ← List.map_take]
    have evL : Evl.EvL (tSl (rSlL K) (tVar 1) (tPart (tOp (rI0 fun i j => .int (i + j)) (tVar 4) (tC (.int 1)))) (tPart (tOp (rI0 fun i j => .int (i + j)) (tVar 4) (tC (.int 2))))) [some (.ref b), some (.ref t), some (.ref p), some (.str kd.word), some (.int (ni : Nat)), some (.str ts[ni]), none] H5 (l2.map V.str) := by
      rw [← ec]
      exact Evl.el_sl (Evl.ev_var rfl) (Evl.eo_some (Evl.ev_op (Evl.ev_var rfl) Evl.ev_c Evl.rv_I0)) (Evl.eo_some (Evl.ev_op (Evl.ev_var rfl) Evl.ev_c Evl.rv_I0)) T5
    have okL : l2.all okS = true := List.all_eq_true.mpr fun x hx => List.all_eq_true.mp okT x (List.mem_of_mem_drop (List.mem_of_mem_take hx))
    have evN := ev_notIn2 (K := K) evL (Evl.ev_var (i := 5) rfl) okL okF
    refine Evl.q_when (b := decide (V.str kd.word = V.str "swapped") && !(decide (l2 = []) || decide (l2 = [ts[ni]]))) (Evl.et_and (Evl.et_test (Evl.ev_op (Evl.ev_var rfl) Evl.ev_c (Evl.rv_eq rfl))) fun _ => Evl.et_test evN) (fun c H6 s6 => ?_) (fun c H6 s6 => ?_)
    · rw [Bool.and_eq_true, Bool.not_eq_true', Bool.or_eq_false_iff] at c
      obtain ⟨c1, c2, c3⟩ := c
      have hk : kd = .swapped := by
        revert c1
        cases kd <;> first | exact fun _ => rfl | (intro c; exact absurd c (by decide +kernel))
      subst hk
      have hlt : ni + 1 < ts.length := by
        refine Classical.byContradiction fun z => of_decide_eq_false c2 ?_
        show (ts.drop (ni + 1)).take 1 = []
        rw [List.drop_eq_nil_of_le (by omega)]; rfl
      have e2 : l2 = [ts[ni + 1]] := by
        show (ts.drop (ni + 1)).take 1 = _
        rw [List.drop_eq_getElem_cons hlt]; rfl
      have gn : (ts.map V.str)[ni + 1]? = some (V.str ts[ni + 1]) := by rw [List.getElem?_map, List.getElem?_eq_getElem hlt]; rfl
      have O6 := O5.same s6
      refine Evl.s_retU (xs := ((RK.swapped).word :: [ts[ni], ts[ni + 1]]).map V.str) (Evl.eu_tup (Evl.ea_cons (Evl.ev_var rfl) (Evl.ea_cons (Evl.ev_var rfl) (Evl.ea_cons (Evl.ev_op (Evl.ev_var rfl) (Evl.ev_op (Evl.ev_var rfl) Evl.ev_c Evl.rv_I0) (Evl.rv_ixL (O6.seq htb hT) (i := (ni : Int) + 1) (by rw [show (ni : Int) + 1 = ((ni + 1 : Nat) : Int) by omega]; exact atI_nat gn))) Evl.ea_nil))) (by show 3 ≤ 100000; decide)) fun q H7 nq s7 hq => ?_
      refine k q .swapped [ts[ni], ts[ni + 1]] H7 (O6.same s7) (((B5.same s6).same s7).mono (by omega)) (back_off O6 (B5.same s6) nq) hq rfl (fun z hz => ?_) ?_
      · simp only [List.mem_cons, List.not_mem_nil, or_false] at hz
        rcases hz with rfl | rfl
        · exact memF
        · exact hin _ (List.getElem_mem hlt)
      · have : ts[ni] ≠ ts[ni + 1] := fun z => of_decide_eq_false c3 (by rw [e2, ← z])
        simpa using this
    have O6 := O5.same s6
    have B6 := B5.same s6
    have hf2 : (([.str "swapped", .str "taken"] : List V)).all flatV = true := rfl
    refine Evl.q_when (b := inV (.str kd.word) [.str "swapped", .str "taken"]) (Evl.et_test (Evl.ev_opL (Evl.ev_var rfl) (Evl.el_lst (Evl.ea_cons Evl.ev_c (Evl.ea_cons Evl.ev_c Evl.ea_nil)) (by decide)) fun _ _ h s => Evl.rv_isL (Evl.sq_of h) rfl hf2)) (fun c H7 s7 => ?_) (fun c H7 s7 => ?_)
    · have O7 := O6.same s7
      have B7 := B6.same s7
      have S7 := O7.seq hpb hS
      let l3 : List Str := ws.filter fun x => !decide (x = ts[ni])
      have l3n : 1 ≤ l3.length := two_ne nd h2 _
      have l3l : l3.length ≤ 1000 := Nat.le_trans (List.length_filter_le _ _) h3
      refine ⟨_, rfl, _, rfl, ?_⟩
      refine (show Evl.EvL _ _ H7 (l3.map V.str) from ?_) H7 (Evl.Ex.refl H7) _ fun q8 H8 n8 s8 e8 => ?_
      · rw [show l3.map V.str = Evl.given (ws.map V.str).length (fun i => !decide (ws.getD i Str.empty = ts[ni])) (fun i => V.str (ws.getD i Str.empty)) by rw [List.length_map]; exact given_filterW.symm]
        refine Evl.el_lcL _ _ (Evl.ev_var rfl) S7 (by rw [List.length_map]; omega) (fun _ => rfl) ?_ ?_
        · intro i x G s hx
          rw [List.getElem?_map] at hx
          obtain ⟨y, hy, rfl⟩ : ∃ y, ws[i]? = some y ∧ x = V.str y := by
            cases e : ws[i]? with
            | none => rw [e] at hx; cases hx
            | some y => rw [e] at hx; cases hx; exact ⟨y, rfl, rfl⟩
          have ey : ws.getD i Str.empty = y := by rw [List.getD_eq_getElem?_getD, hy]; rfl
          rw [ey]
          refine et_neS (Evl.ev_var rfl) (Evl.ev_var rfl) rfl
        · intro i x G s hx _
          rw [List.getElem?_map] at hx
          obtain ⟨y, hy, rfl⟩ : ∃ y, ws[i]? = some y ∧ x = V.str y := by
            cases e : ws[i]? with
            | none => rw [e] at hx; cases hx
            | some y => rw [e] at hx; cases hx; exact ⟨y, rfl, rfl⟩
          have ey : ws.getD i Str.empty = y := by rw [List.getD_eq_getElem?_getD, hy]; rfl
          rw [ey]
          exact Evl.ev_var rfl
      have O8 := O7.same s8
      have B8 := B7.same s8
      have nq8 : q8 ≠ b := fun e => by
        obtain ⟨d, m, c, h1, _⟩ := B7
        rw [e, h1] at n8; cases n8
      refine ⟨b, _, B8, by omega, .inl ⟨q8, _, rfl, nq8, SqL.of e8, by rw [List.length_map]; exact l3n, by rw [List.length_map]; omega, fun x H9 hx O9 B9 => ?_⟩⟩
      obtain ⟨y, hy, rfl⟩ := List.mem_map.mp hx
      obtain ⟨hy1, hy2⟩ := List.mem_filter.mp hy
      have O9 := O8.trans O9
      refine ⟨by show 3 ≤ sizeLine; decide, fun q hq => ?_⟩
      refine k q .taken [ts[ni], y] _ (O9.new hq) ((B9.new hq).mono (by omega)) (back_off O9 B9 hq) upd_same rfl (fun z hz => ?_) ?_
      · simp only [List.mem_cons, List.not_mem_nil, or_false] at hz
        rcases hz with rfl | rfl
        · exact memF
        · exact hy1
      · have : ts[ni] ≠ y := fun z => by rw [z, decide_eq_true rfl] at hy2; cases hy2
        simpa using this
    · have O7 := O6.same s7
      have B7 := B6.same s7
      have hm : kd.many = 1 := by
        revert c
        cases kd <;> first | exact fun _ => rfl | (intro c; exact absurd c (by decide +kernel))
      refine Evl.s_retU (xs := (kd.word :: [ts[ni]]).map V.str) (Evl.eu_tup (Evl.ea_cons (Evl.ev_var rfl) (Evl.ea_cons (Evl.ev_var rfl) Evl.ea_nil)) (by show 2 ≤ 100000; decide)) fun q H8 nq s8 hq => ?_
      refine k q kd [ts[ni]] H8 (O7.same s8) ((B7.same s8).mono (by omega)) (back_off O7 B7 nq) hq hm.symm (fun z hz => ?_) (by simp)
      rw [List.mem_singleton.mp hz]; exact memF
theorem RK.cases4 {k : RK} {toks : List Str} (h : toks.length = k.many) : (k = .out ∧ ∃ a, toks = [a]) ∨ (k = .twice ∧ ∃ a, toks = [a]) ∨ (k = .swapped ∧ ∃ a b, toks = [a, b]) ∨ (k = .taken ∧ ∃ a b, toks = [a, b]) := by
  match k, toks, h with
  | .out, [a], _ => exact .inl ⟨rfl, a, rfl⟩
  | .twice, [a], _ => exact .inr (.inl ⟨rfl, a, rfl⟩)
  | .swapped, [a, b], _ => exact .inr (.inr (.inl ⟨rfl, a, b, rfl⟩))
  | .taken, [a, b], _ => exact .inr (.inr (.inr ⟨rfl, a, b, rfl⟩))
theorem ixr {σ : L2.St} {H : Hp} {q : Addr} {xs : List V} {i : Int} {v : V} (h : SqT K H q xs) (e0 : σ[0]? = some (some (.ref q))) (ha : atI xs i = some v) : Evl.Ev (tOp (rIxT K) (tVar 0) (tC (.int i))) σ H v := Evl.ev_op (Evl.ev_var e0) Evl.ev_c (Evl.rv_ixT h ha)
def spParts (K : PySem.W.Frag) (g : RK → List Str → List Str) : Sp := fun vs H Q _ => ∃ (q : Addr) (k : RK) (toks : List Str), vs = [.ref q] ∧ SqT K H q ((k.word :: toks).map V.str) ∧ toks.length = k.many ∧ ∀ (p : Addr) (H' : Hp), H p = none → Same H H' → H' p = some (.lst ((g k toks).map V.str)) → Q (.ref p) H'
abbrev sBefore : Stmt := topS 29
theorem scBefore : FnScope ["rule"] ["rule"] (defScope sBefore) := ⟨rfl, rfl, rfl, by decide +kernel, rfl, by decide +kernel, by decide +kernel⟩
theorem ok_before (F : DefAt K mg "_law_before" sBefore) (T : G0 mg) : Dk P w K mg base CX0 1 "_law_before" ["rule"] (spParts K RK.rem) := by
  obtain ⟨f, fd, F, mf⟩ := F.ex
  refine ⟨f, fd, F.ok scBefore (fun vs H Q E h => ?_) (fun cdv A outer s H vs Q E hr h => ?_), mf, F.kp, F.binds fun _ _ _ _ _ _ us hl => match us, hl with | [_], _ => rfl⟩
  · obtain ⟨q, k, toks, rfl, _⟩ := h; rfl
  · obtain ⟨q, k, toks, rfl, hq, hl, kq⟩ := h
    refine ⟨_, (pss_one (ps_ret (pe_ifExp (pt_cmpR op_eq (pe_ix ix_tup (pv 0) pe_int (fun _ _ => rfl)) pe_str (nomark _)) (pe_lst (pa_cons (pe_ix ix_tup (pv 0) pe_int (fun _ _ => rfl)) (pa_cons (pe_ix ix_tup (pv 0) pe_int (fun _ _ => rfl)) pa_nil))) (pe_lst (pa_cons (pe_ix ix_tup (pv 0) pe_int (fun _ _ => rfl)) pa_nil))))), ?_⟩
    refine Evl.s_retL (xs := (k.rem toks).map V.str) ?_ fun p H' np s hp => kq p H' np s hp
    match k, toks, hl with
    | .out, [a], _ => exact el_ifT (b := false) (Evl.et_is (Evl.et_test (Evl.ev_op (ixr hq rfl rfl) Evl.ev_c (Evl.rv_eq rfl))) (by decide +kernel)) (fun z => Bool.noConfusion z) fun _ => Evl.el_lst (Evl.ea_cons (ixr hq rfl rfl) Evl.ea_nil) (Nat.le_of_ble_eq_true rfl)
    | .twice, [a], _ => exact el_ifT (b := false) (Evl.et_is (Evl.et_test (Evl.ev_op (ixr hq rfl rfl) Evl.ev_c (Evl.rv_eq rfl))) (by decide +kernel)) (fun z => Bool.noConfusion z) fun _ => Evl.el_lst (Evl.ea_cons (ixr hq rfl rfl) Evl.ea_nil) (Nat.le_of_ble_eq_true rfl)
    | .swapped, [a, b], _ => exact el_ifT (b := true) (Evl.et_is (Evl.et_test (Evl.ev_op (ixr hq rfl rfl) Evl.ev_c (Evl.rv_eq rfl))) (by decide +kernel)) (fun _ => Evl.el_lst (Evl.ea_cons (ixr hq rfl rfl) (Evl.ea_cons (ixr hq rfl rfl) Evl.ea_nil)) (Nat.le_of_ble_eq_true rfl)) fun z => Bool.noConfusion z
    | .taken, [a, b], _ => exact el_ifT (b := false) (Evl.et_is (Evl.et_test (Evl.ev_op (ixr hq rfl rfl) Evl.ev_c (Evl.rv_eq rfl))) (by decide +kernel)) (fun z => Bool.noConfusion z) fun _ => Evl.el_lst (Evl.ea_cons (ixr hq rfl rfl) Evl.ea_nil) (Nat.le_of_ble_eq_true rfl)
abbrev sBehind : Stmt := topS 30
theorem scBehind : FnScope ["rule"] ["rule"] (defScope sBehind) := ⟨rfl, rfl, rfl, by decide +kernel, rfl, by decide +kernel, by decide +kernel⟩
theorem ok_behind (F : DefAt K mg "_law_behind" sBehind) (T : G0 mg) : Dk P w K mg base CX0 1 "_law_behind" ["rule"] (spParts K RK.ins) := by
  obtain ⟨f, fd, F, mf⟩ := F.ex
  refine ⟨f, fd, F.ok scBehind (fun vs H Q E h => ?_) (fun cdv A outer s H vs Q E hr h => ?_), mf, F.kp, F.binds fun _ _ _ _ _ _ us hl => match us, hl with | [_], _ => rfl⟩
  · obtain ⟨q, k, toks, rfl, _⟩ := h; rfl
  · obtain ⟨q, k, toks, rfl, hq, hl, kq⟩ := h
    refine ⟨_, (pss_cons (ps_if (pt_cmpR op_eq (pe_ix ix_tup (pv 0) pe_int (fun _ _ => rfl)) pe_str (nomark _)) (pss_one (ps_ret (pe_lst pa_nil))) pss_nil) (pss_cons (ps_if (pt_cmpR op_eq (pe_ix ix_tup (pv 0) pe_int (fun _ _ => rfl)) pe_str (nomark _)) (pss_one (ps_ret (pe_lst (pa_cons (pe_ix ix_tup (pv 0) pe_int (fun _ _ => rfl)) (pa_cons (pe_ix ix_tup (pv 0) pe_int (fun _ _ => rfl)) pa_nil))))) pss_nil) (pss_one (ps_ret (pe_ifExp (pt_cmpR op_eq (pe_ix ix_tup (pv 0) pe_int (fun _ _ => rfl)) pe_str (nomark _)) (pe_lst (pa_cons (pe_ix ix_tup (pv 0) pe_int (fun _ _ => rfl)) (pa_cons (pe_ix ix_tup (pv 0) pe_int (fun _ _ => rfl)) pa_nil))) (pe_lst (pa_cons (pe_ix ix_tup (pv 0) pe_int (fun _ _ => rfl)) pa_nil))))))), ?_⟩
    have t0 : ∀ {σ : L2.St} {G : Hp} {z : Str} {b : Bool}, Same H G → σ[0]? = some (some (.ref q)) → decide (V.str k.word = V.str z) = b → Evl.EvT (tTest (tOp rEq (tOp (rIxT K) (tVar 0) (tC (.int 0))) (tC (.str z)))) σ G b := fun s e h => Evl.et_is (Evl.et_test (Evl.ev_op (ixr (Evl.ex_t s hq) e (atI_nat (j := 0) rfl)) Evl.ev_c (Evl.rv_eq rfl))) h
    have fin : ∀ {p : Addr} {G H' : Hp}, Same H G → G p = none → Same G H' → H' p = some (.lst ((k.ins toks).map V.str)) → Q (.ref p) H' := fun s n s' h => kq _ _ (Evl.fresh_back s n) (s.trans s') h
    rcases RK.cases4 hl with ⟨rfl, a, rfl⟩ | ⟨rfl, a, rfl⟩ | ⟨rfl, a, b, rfl⟩ | ⟨rfl, a, b, rfl⟩
    · exact Evl.q_when (b := true) (t0 (Same.refl H) rfl (by decide +kernel)) (fun _ G s => Evl.s_retL (Evl.el_lst Evl.ea_nil (Nat.zero_le _)) fun p H' n s' h => fin s n s' h) fun z => Bool.noConfusion z
    · refine Evl.q_when (b := false) (t0 (Same.refl H) rfl (by decide +kernel)) (fun z => Bool.noConfusion z) fun _ G s => ?_
      exact Evl.q_when (b := true) (t0 s rfl (by decide +kernel)) (fun _ G2 s2 => Evl.s_retL (Evl.el_lst (Evl.ea_cons (ixr (Evl.ex_t (s.trans s2) hq) rfl rfl) (Evl.ea_cons (ixr (Evl.ex_t (s.trans s2) hq) rfl rfl) Evl.ea_nil)) (Nat.le_of_ble_eq_true rfl)) fun p H' n s' h => fin (s.trans s2) n s' h) fun z => Bool.noConfusion z
    · refine Evl.q_when (b := false) (t0 (Same.refl H) rfl (by decide +kernel)) (fun z => Bool.noConfusion z) fun _ G s => ?_
      refine Evl.q_when (b := false) (t0 s rfl (by decide +kernel)) (fun z => Bool.noConfusion z) fun _ G2 s2 => ?_
      exact Evl.s_retL (el_ifT (b := true) (t0 (s.trans s2) rfl (by decide +kernel)) (fun _ => Evl.el_lst (Evl.ea_cons (ixr (Evl.ex_t (s.trans s2) hq) rfl rfl) (Evl.ea_cons (ixr (Evl.ex_t (s.trans s2) hq) rfl rfl) Evl.ea_nil)) (Nat.le_of_ble_eq_true rfl)) fun z => Bool.noConfusion z) fun p H' n s' h => fin (s.trans s2) n s' h
    · refine Evl.q_when (b := false) (t0 (Same.refl H) rfl (by decide +kernel)) (fun z => Bool.noConfusion z) fun _ G s => ?_
      refine Evl.q_when (b := false) (t0 s rfl (by decide +kernel)) (fun z => Bool.noConfusion z) fun _ G2 s2 => ?_
      exact Evl.s_retL (el_ifT (b := false) (t0 (s.trans s2) rfl (by decide +kernel)) (fun z => Bool.noConfusion z) fun _ => Evl.el_lst (Evl.ea_cons (ixr (Evl.ex_t (s.trans s2) hq) rfl rfl) Evl.ea_nil) (Nat.le_of_ble_eq_true rfl)) fun p H' n s' h => fin (s.trans s2) n s' h
/-- the places of a rule, by the law -/
def whereP (ts rem : List Str) : List Nat := (List.range ts.length).filter fun i => decide ((ts.drop i).take rem.length = rem)
def spWhere (K : PySem.W.Frag) : Sp := fun vs H Q _ => ∃ (q t : Addr) (k : RK) (toks ts : List Str), vs = [.ref q, .ref t] ∧ SqT K H q ((k.word :: toks).map V.str) ∧ toks.length = k.many ∧ SqL K H t (ts.map V.str) ∧ ts.length ≤ 1000 ∧ ts.all okS = true ∧ (k.rem toks).all okS = true ∧
  ∀ (p : Addr) (H' : Hp), H p = none → Same H H' → H' p = some (.lst (((whereP ts (k.rem toks)).map fun (i : Nat) => (i : Int)).map V.int)) → Q (.ref p) H'
abbrev sWhere : Stmt := topS 31
theorem scWhere : FnScope ["rule", "tokens", "earlier", "place"] ["rule", "tokens"] (defScope sWhere) := ⟨rfl, rfl, rfl, by decide +kernel, rfl, by decide +kernel, by decide +kernel⟩
theorem ok_where (F : DefAt K mg "_law_where" sWhere) (T : G0 mg) (Dbefore : Dk P w K mg base CX0 1 "_law_before" ["rule"] (spParts K RK.rem)) : Dk P w K mg base CX0 2 "_law_where" ["rule", "tokens"] (spWhere K) := by
  obtain ⟨f, fd, F, mf⟩ := F.ex
  refine ⟨f, fd, F.ok scWhere (fun vs H Q E h => ?_) (fun cdv A outer s H vs Q E hr h => ?_), mf, F.kp, F.binds fun _ _ _ _ _ _ us hl => match us, hl with | [_, _], _ => rfl⟩
  · obtain ⟨q, t, k, toks, ts, rfl, _⟩ := h; rfl
  · obtain ⟨q, t, k, toks, ts, rfl, hq, hl, ht, h1, okT, okR, kq⟩ := h
    refine ⟨_, (pss_cons (ps_set (i := 2) scWhere.nd rfl (Or.inr rfl) (pe_cd Dbefore hr pass0 (pa_cons (pv 0) pa_nil))) (pss_one (ps_ret (pe_lc (own := [("place", 3)]) (g := gName 3) rfl scWhere.nd (pi_range1 (by rfl) T.range (pa_cons (pe_callB call_len_seq (by rfl) T.len (by decide +kernel) (pa_cons (pv 1) pa_nil)) pa_nil)) (blkOk_by (N := ["rule", "tokens", "earlier", "place"]) (sc := defScope sWhere) (by decide +kernel)) (fun _ _ _ _ _ => (pg_name (i := 3) scWhere.nd rfl (.inl rfl))) (fun _ _ _ _ _ => (pts_one (pt_cmpR (op_eqDK (K := K) rfl hr.units) (pe_slice (sl_lK (K := K) rfl) (pv 1) (po_some (pv 3)) (po_some (pe_op op_add (pv 3) (pe_callB (call_lenK (K := K) rfl) (by rfl) T.len (by decide +kernel) (pa_cons (pv 2) pa_nil))))) (pv 2) (nomark _)))) (fun _ _ _ _ _ => (pv 3)))))), ?_⟩
    generalize hrem : k.rem toks = rem at okR kq
    refine Evl.q_asgL (xs := rem.map V.str) (Evl.el_call (Evl.ea_cons (Evl.ev_var rfl) Evl.ea_nil) fun G s Q k' _ => ⟨q, k, toks, rfl, Evl.ex_t s hq, hl, fun p H2 np s2 h2 => k' p H2 np s2 (by rw [← hrem]; exact h2)⟩) fun e H1 ne s1 e1 => ?_
    have t1 := Evl.ex_l s1 ht
    refine Evl.s_retL (xs := ((whereP ts rem).map fun (i : Nat) => (i : Int)).map V.int) ?_ fun p H' np s hp => kq p H' (Evl.fresh_back s1 np) (s1.trans s) hp
    have eg : ((whereP ts rem).map fun (i : Nat) => (i : Int)).map V.int = Evl.given (((ts.map V.str).length : Nat) : Int).toNat (fun i => decide ((ts.drop i).take rem.length = rem)) (fun i => V.int (i : Int)) := by
      unfold Evl.given whereP
      rw [List.map_map, Int.toNat_natCast, List.length_map]; rfl
    rw [eg]
    refine Evl.el_lcR1 _ _ (Evl.ea_cons (Evl.ev_len (Evl.ev_var rfl) t1) Evl.ea_nil) ⟨by omega, by rw [List.length_map]; omega⟩ (fun _ => rfl) ?_ ?_
    · intro i G s hi
      have ec : cutV (ts.map V.str) (some ((i : Nat) : Int)) (some (((i : Nat) : Int) + ((rem.length : Nat) : Int))) = ((ts.drop i).take rem.length).map V.str := by rw [cut_nat, ← List.map_drop, ← List.map_take]
      have okD : ((ts.drop i).take rem.length).all okS = true := List.all_eq_true.mpr fun x hx => List.all_eq_true.mp okT x (List.mem_of_mem_drop (List.mem_of_mem_take hx))
      refine Evl.et_test (Evl.ev_opL1 (xs := ((ts.drop i).take rem.length).map V.str) ?_ (fun H2 s2 => Evl.ev_var (v := .ref e) rfl) fun p H2 h s2 => rv_eqLs okD okR (SqL.of h) (SqL.of ((s.trans s2) _ _ e1)))
      rw [← ec]
      exact Evl.el_sl (Evl.ev_var rfl) (Evl.eo_some (Evl.ev_var rfl)) (Evl.eo_some (Evl.ev_op (Evl.ev_var rfl) (Evl.ev_is (Evl.ev_len (Evl.ev_var rfl) (SqL.of (s _ _ e1))) (by rw [List.length_map])) Evl.rv_I0)) (Evl.ex_l s t1)
    · intro i G s hi _
      exact Evl.ev_var rfl
end
end Ss
namespace Ss
open PySem L2
section
variable {P : Program} {w : World} {K : PySem.W.Frag} {mg : Str → Option Value} {base : Heap}
abbrev sRuns : Stmt := topS 10
theorem scRuns : FnScope ["text", "run"] ["text"] (defScope sRuns) := ⟨rfl, rfl, rfl, by decide +kernel, rfl, by decide +kernel, by decide +kernel⟩
theorem ok_runs (F : DefAt K mg "runs_of" sRuns) : Dk P w K mg base CX0 1 "runs_of" ["text"] spRuns := by
  obtain ⟨f, fd, F, mf⟩ := F.ex
  refine ⟨f, fd, fun_okT F scRuns (by decide +kernel) (by decide) (fun vs H Q E h => ?_) (fun cdv A outer s H vs Q E hr h => ?_), mf, F.kp, F.binds fun _ _ _ _ _ _ us hl => match us, hl with | [_], _ => rfl⟩
  · obtain ⟨z, rfl, _⟩ := h; rfl
  · obtain ⟨z, rfl, hz, k⟩ := h
    refine ⟨_, CwR.psst_one (CwR.pst_ret (pet_lc (own := [("run", 1)]) (g := gName 1) rfl scRuns.nd (pit_list (pet_split (CwR.pet_replC (pv 0)) pe_str)) (blkOk_by (N := ["text", "run"]) (sc := defScope sRuns) (by decide +kernel)) (fun _ _ _ _ _ => pg_name (i := 1) scRuns.nd rfl (.inl rfl)) (fun _ _ _ _ _ => (pts_one (pt_cmpR op_ne (pv 1) pe_str (nomark _)))) (fun _ _ _ _ _ => (pv 1)))), ?_⟩
    have l32 : (" " : Str).length = 1 := by decide +kernel
    have e16 : (16777216 : Nat) ≤ sizeLine := by decide
    have lr := TK.replace_len z "\n" " "
    rw [l32] at lr
    have lp := parts_len z
    refine ⟨_, rfl, z, rfl, ?_, _, rfl, _, rfl, by decide +kernel, ?_, fun p hp => ⟨p, rfl, ⟨_, SqL.of upd_same⟩, fun D hD => ?_⟩⟩
    · rw [l32]; omega
    · omega
    have nD : D ≠ p := fun e => by subst e; rw [upd_same] at hD; cases hD
    have hDH : H D = none := by rw [upd_ne nD] at hD; exact hD
    refine lc_list (xs := (partsS z).map V.str) (fun i H' => H' D = some (.lst ((((partsS z).take i).filter fun y : Str => y != "").map V.str)) ∧ H' p = some (.lst ((partsS z).map V.str)) ∧ Same H H') ⟨upd_same, by rw [upd_ne nD.symm]; exact upd_same, (Same.new (Same.new (Same.refl H) hp) hD)⟩ (fun i H' _ h => SqL.of h.2.1) ?_ ?_
    · rintro i x H' hx ⟨h1, h2, h3⟩
      obtain ⟨y, hy, rfl⟩ : ∃ y, (partsS z)[i]? = some y ∧ x = V.str y := by
        rw [List.getElem?_map] at hx
        cases e : (partsS z)[i]? with
        | none => rw [e] at hx; cases hx
        | some y => rw [e] at hx; cases hx; exact ⟨y, rfl, rfl⟩
      have et : (partsS z).take (i + 1) = (partsS z).take i ++ [y] := by rw [List.take_add_one, hy]; rfl
      have hi : i < (partsS z).length := (List.getElem?_eq_some_iff.mp hy).1
      refine ⟨rfl, _, rfl, rfl, _, rfl, ?_⟩
      have ed : (!decide (V.str y = V.str "")) = (y != "") := by
        by_cases q : y = ""
        · subst q; rfl
        · rw [decide_eq_false (fun z => q (by injection z))]; exact (bne_iff_ne.mpr q).symm
      have fl : ((((partsS z).take i).filter fun y : Str => y != "").map V.str).length < sizeLine := by
        rw [List.length_map]
        have q1 := List.length_filter_le (fun y : Str => y != "") ((partsS z).take i)
        rw [List.length_take] at q1
        omega
      by_cases q : (y != "") = true
      · have e1 : (!decide (V.str y = V.str "")) = true := ed.trans q
        show if (!decide (V.str y = V.str "")) = true then _ else _
        rw [if_pos e1]
        refine ⟨_, rfl, _, h1, fl, ?_, ?_, ?_⟩
        · rw [upd_same, et, List.filter_append, List.map_append, List.filter_cons, if_pos q]; rfl
        · rw [upd_ne nD.symm]; exact h2
        · exact fun b o hb => by rw [upd_ne (ne_of_none hb hDH)]; exact h3 b o hb
      · have e1 : ¬ (!decide (V.str y = V.str "")) = true := fun z => q (ed.symm.trans z)
        show if (!decide (V.str y = V.str "")) = true then _ else _
        rw [if_neg e1]
        refine ⟨?_, h2, h3⟩
        rw [et, List.filter_append, List.filter_cons, if_neg q, h1]; simp
    · rintro H' ⟨h1, h2, h3⟩
      rw [List.length_map, List.take_length, parts_rn] at h1
      exact k D H' hDH h3 h1
abbrev sTokensof : Stmt := topS 12
theorem scTokensof : FnScope ["text"] ["text"] (defScope sTokensof) := ⟨rfl, rfl, rfl, by decide +kernel, rfl, by decide +kernel, by decide +kernel⟩
theorem ok_tokensof (F : DefAt K mg "tokens_of" sTokensof) (Druns : Dk P w K mg base CX0 1 "runs_of" ["text"] spRuns) : Dk P w K mg base CX0 2 "tokens_of" ["text"] spRuns := by
  obtain ⟨f, fd, F, mf⟩ := F.ex
  refine ⟨f, fd, F.ok scTokensof (fun vs H Q E h => ?_) (fun cdv A outer s H vs Q E hr h => ?_), mf, F.kp, F.binds fun _ _ _ _ _ _ us hl => match us, hl with | [_], _ => rfl⟩
  · obtain ⟨z, rfl, _⟩ := h; rfl
  · obtain ⟨z, rfl, hz, k⟩ := h
    refine ⟨_, (pss_one (ps_ret (pe_cd Druns hr pass0 (pa_cons (pv 0) pa_nil)))), ?_⟩
    exact ⟨_, rfl, z, rfl, hz, k⟩
abbrev sLaid : Stmt := topS 26
theorem scLaid : FnScope ["bag", "tokens", "text", "line", "lines", "at", "token", "gap"] ["bag", "tokens"] (defScope sLaid) := ⟨rfl, rfl, rfl, by decide +kernel, rfl, by decide +kernel, by decide +kernel⟩
/-- a text of these tokens -/
def spLaid (K : PySem.W.Frag) : Sp := fun vs H Q _ => ∃ (b p : Addr) (n : Nat) (ts : List (List Nat)), vs = [.ref b, .ref p] ∧ Bag H b n ∧ n ≤ 800000000 ∧ p ≠ b ∧ SqL K H p (ts.map fun t => V.str (mkS t)) ∧ ts.length ≤ 1000 ∧
  (∀ t ∈ ts, t ≠ [] ∧ t.length ≤ 8 ∧ ∀ c ∈ t, gapC c = false) ∧
  ∀ (q l : Addr) (z : List Nat) (ls : List V) (H' : Hp), Off b H H' → Bag H' b (n + 2 * ts.length + 1) → H q = none → H' q = some (.tup [.str (mkS z), .ref l]) → rn [] z = ts → z.length ≤ 11 * ts.length + 3 → H l = none → H' l = some (.lst ls) → Q (.ref q) H'
theorem ok_laid (F : DefAt K mg "_law_laid" sLaid) (T : G0 mg) (Dof : Dk P w K mg base CX0 2 "_law_of" ["dice", "some"] (spOf K)) : Dk P w K mg base CX0 3 "_law_laid" ["bag", "tokens"] (spLaid K) := by
  obtain ⟨f, fd, F, mf⟩ := F.ex
  refine ⟨f, fd, F.ok scLaid (fun vs H Q E h => ?_) (fun cdv A outer s H vs Q E hr h => ?_), mf, F.kp, F.binds fun _ _ _ _ _ _ us hl => match us, hl with | [_, _], _ => rfl⟩
  · obtain ⟨b, p, n, ts, rfl, _⟩ := h; rfl
  · obtain ⟨b, p, n, ts, rfl, hB, hn, hpb, hS, hl, ht, k⟩ := h
    refine ⟨_, (pss_cons (ps_par3 (i := 2) (j := 3) (l := 4) (by rfl) scLaid.nd rfl rfl rfl (by decide) (by decide) (by decide) rfl rfl rfl (pa_cons pe_str (pa_cons pe_int (pa_cons (pe_lst pa_nil) pa_nil))) (by rfl)) (pss_cons (ps_for PassesOwn.never rfl (pi_enum (by rfl) T.enumerate (pa_cons (pv 1) pa_nil)) (pg_tup (by rfl) (pgs_cons (pg_name (i := 5) scLaid.nd rfl (.inl rfl)) (pgs_cons (pg_name (i := 6) scLaid.nd rfl (.inl rfl)) pgs_nil))) (pss_cons (ps_set (i := 7) scLaid.nd rfl (Or.inl rfl) (pe_cd Dof hr pass0 (pa_cons (pv 0) (pa_cons (pe_lst (pa_cons pe_str (pa_cons pe_str (pa_cons pe_str (pa_cons pe_str (pa_cons pe_str (pa_cons pe_str (pa_cons pe_str pa_nil)))))))) pa_nil)))) (Evl.pss_cut (ps_if (pt_cmpR op_eq (pv 5) pe_int (nomark _)) (pss_one (ps_set (i := 7) scLaid.nd rfl (Or.inl rfl) (pe_cd Dof hr pass0 (pa_cons (pv 0) (pa_cons (pe_lst (pa_cons pe_str (pa_cons pe_str (pa_cons pe_str (pa_cons pe_str pa_nil))))) pa_nil))))) pss_nil) (pss_cons (ps_set (i := 2) scLaid.nd rfl (Or.inl rfl) (pe_op op_add_str (pe_op op_add_str (pv 2) (pv 7)) (pv 6))) (pss_cons (ps_set (i := 3) scLaid.nd rfl (Or.inl rfl) (pe_op op_add (pv 3) (pe_bm PySem.F.plainAttrs_str PySem.F.slot_str_count PySem.F.type_str_count mt_count (pv 7) (pa_cons pe_str pa_nil)))) (pss_one (ps_expr (pe_bm PySem.F.plainAttrs_list PySem.F.slot_list_append PySem.F.type_list_append mt_append (pv 4) (pa_cons (pv 3) pa_nil))))))))) (pss_one (ps_ret (pe_tup (pa_cons (pe_op op_add_str (pv 2) (pe_cd Dof hr pass0 (pa_cons (pv 0) (pa_cons (pe_lst (pa_cons pe_str (pa_cons pe_str (pa_cons pe_str (pa_cons pe_str (pa_cons pe_str pa_nil)))))) pa_nil)))) (pa_cons (pv 4) pa_nil))))))), ?_⟩
    refine ⟨Nat.zero_le _, fun l hnl => ⟨_, _, _, rfl, ?_⟩⟩
    have el : (ts.map fun t => V.str (mkS t)).length = ts.length := List.length_map ..
    have sL : (16777216 : Nat) ≤ sizeLine := by decide
    have nbl : l ≠ b := (hB.ne hnl).symm
    refine ⟨_, rfl, p, _, rfl, (Off.new (Off.refl b H) hnl).seq hpb hS, for_it (walk_enum (xs := ts.map fun t => V.str (mkS t))) (fun i σ H' => ∃ (z : List Nat) (ln : Int) (ls : List V) (v5 v6 v7 : Option V), σ = [some (.ref b), some (.ref p), some (.str (mkS z)), some (.int ln), some (.ref l), v5, v6, v7] ∧ Laid z (ts.take i) ∧ (i = 0 → z = []) ∧ z.length ≤ 11 * i ∧ H' l = some (.lst ls) ∧ ls.length = i ∧ Off b H H' ∧ Bag H' b (n + 2 * i))
      ⟨[], 1, [], none, none, none, by rw [← mkS_nil]; rfl, laid_nil, fun _ => rfl, Nat.zero_le _, upd_same, rfl, Off.new (Off.refl b H) hnl, hB.new hnl⟩ (fun i σ H' _ h => ?_) ?_ ?_⟩
    · obtain ⟨_, _, _, _, _, _, _, _, _, _, _, _, hO, _⟩ := h
      exact hO.seq hpb hS
    · rintro i x σ H1 H2 hi ⟨z, ln, ls, v5, v6, v7, rfl, hz, hz0, hzl, hll, hlen, hO, hB1⟩ ⟨t0, x1, x2, rfl, ht0, rfl, e1, e2⟩
      rw [el] at hi
      obtain ⟨tk, etk, rfl⟩ : ∃ t, ts[i]? = some t ∧ x2 = V.str (mkS t) := ⟨ts[i], List.getElem?_eq_getElem hi, by
        have e2 : (ts.map fun t => V.str (mkS t))[i]? = some x2 := e2
        rw [List.getElem?_map, List.getElem?_eq_getElem hi] at e2; cases e2; rfl⟩
      cases e1
      have hne : ∀ {a : Addr} {o : HO}, H1 a = some o → a ≠ t0 := fun h => ne_of_none h ht0
      have nbl0 : b ≠ t0 := hB1.ne ht0
      obtain ⟨htk1, htk2, htk3⟩ := ht tk (List.mem_of_getElem? etk)
      have hB2 := hB1.new (o := .tup [.int (i : Nat), .str (mkS tk)]) ht0
      have hO2 : Off b H (upd H1 t0 (.tup [.int (i : Nat), .str (mkS tk)])) := hO.new ht0
      have hl2 : upd H1 t0 (.tup [.int (i : Nat), .str (mkS tk)]) l = some (.lst ls) := by rw [upd_ne (hne hll)]; exact hll
      refine ⟨t0, _, rfl, SqT.of upd_same, rfl, _, _, rfl, _, _, rfl, rfl, ?_⟩
      generalize upd H1 t0 (.tup [.int (i : Nat), .str (mkS tk)]) = H2 at hB2 hO2 hl2 ⊢
      refine ⟨_, rfl, by show 7 ≤ sizeLine; decide, fun q hq => ?_⟩
      refine ⟨b, n + 2 * i, hB2.new hq, by omega, .inl ⟨q, _, rfl, (hB2.ne hq).symm, SqL.of upd_same, by show 1 ≤ 7; decide, by show 7 ≤ 1000000; decide, fun x H3 hx hO3 hB3 => ?_⟩⟩
      have hO3' : Off b H H3 := (hO2.new hq).trans hO3
      have hl3 : H3 l = some (.lst ls) := hO3 _ _ nbl (by rw [upd_ne (ne_of_none hl2 hq)]; exact hl2)
      obtain ⟨g, rfl, hg, hgn, hgl⟩ := gap_more hx
      refine ⟨fun σ' H' => ∃ g : List Nat, σ' = [some (.ref b), some (.ref p), some (.str (mkS z)), some (.int ln), some (.ref l), some (.int (i : Nat)), some (.str (mkS tk)), some (.str (mkS g))] ∧ (∀ c ∈ g, gapC c = true) ∧ (i ≠ 0 → g ≠ []) ∧ g.length ≤ 3 ∧ Off b H H' ∧ Bag H' b (n + 2 * i + 2) ∧ H' l = some (.lst ls), ?_, ?_⟩
      · refine ⟨_, rfl, rfl, _, rfl, ?_⟩
        refine ite2 (fun c0 => ?_) (fun c0 => ?_)
        · have h0 : i = 0 := by
            have q := of_decide_eq_true c0
            injection q with q
            omega
          subst h0
          refine ⟨_, rfl, by show 4 ≤ sizeLine; decide, fun q2 hq2 => ?_⟩
          refine ⟨b, _, hB3.new hq2, by omega, .inl ⟨q2, _, rfl, (hB3.ne hq2).symm, SqL.of upd_same, by show 1 ≤ 4; decide, by show 4 ≤ 1000000; decide, fun x H4 hx hO4 hB4 => ?_⟩⟩
          obtain ⟨g2, rfl, hg2, hgl2⟩ := gap_first hx
          exact ⟨g2, rfl, hg2, fun z => absurd rfl z, hgl2, (hO3'.new hq2).trans hO4, hB4, hO4 _ _ nbl (by rw [upd_ne (ne_of_none hl3 hq2)]; exact hl3)⟩
        · exact ⟨g, rfl, hg, fun _ => hgn, hgl, hO3', hB3.mono (by omega), hl3⟩
      rintro _ H4 ⟨g, rfl, hg, hgn, hgl, hO4, hB4, hl4⟩
      refine ⟨_, rfl, _, rfl, _, _, rfl, rfl, ?_, _, rfl, _, _, rfl, rfl, ?_, ?_⟩
      · rw [mkS_len, mkS_len]; omega
      · rw [mkS_app, mkS_len, mkS_len, List.length_append]; omega
      refine ⟨_, rfl, _, rfl, rfl, _, _, rfl, rfl, _, _, rfl, rfl, ?_⟩
      refine ⟨_, rfl, .inl ⟨rfl, _, SqL.of hl4⟩, _, rfl, l, _, _, rfl, rfl, hl4, by rw [hlen]; omega, ?_⟩
      refine ⟨z ++ g ++ tk, _, _, _, _, _, by rw [mkS_app, mkS_app]; rfl, ?_, fun e => by omega, ?_, upd_same, by rw [List.length_append, hlen]; rfl, fun a o na ha => ?_, ?_⟩
      · have et : ts.take (i + 1) = ts.take i ++ [tk] := by rw [List.take_add_one, etk]; rfl
        rw [et]
        by_cases h0 : i = 0
        · subst h0
          rw [hz0 rfl]
          exact laid_first hg htk3 htk1
        · exact laid_more hz hg (hgn h0) htk3 htk1
      · rw [List.length_append, List.length_append]; omega
      · rw [upd_ne (ne_of_none ha hnl)]; exact hO4 a o na ha
      · obtain ⟨d, m, c, h1, r⟩ := hB4
        refine ⟨d, m, c, by rw [upd_ne nbl.symm]; exact h1, ?_⟩
        obtain ⟨r1, r2, r3, r4, r5⟩ := r
        exact ⟨r1, r2, r3, r4, by omega⟩
    · rintro σ H1 ⟨z, ln, ls, v5, v6, v7, rfl, hz, hz0, hzl, hll, hlen, hO, hB1⟩
      rw [el] at hz hz0 hzl hlen hB1
      rw [List.take_length] at hz
      refine ⟨_, rfl, _, rfl, by show 5 ≤ sizeLine; decide, fun q hq => ?_⟩
      refine ⟨b, _, hB1.new hq, by omega, .inl ⟨q, _, rfl, (hB1.ne hq).symm, SqL.of upd_same, by show 1 ≤ 5; decide, by show 5 ≤ 1000000; decide, fun x H3 hx hO3 hB3 => ?_⟩⟩
      obtain ⟨g, rfl, hg, hgl⟩ := gap_last hx
      refine ⟨_, _, rfl, rfl, ?_, _, rfl, by show 2 ≤ sizeLine; decide, fun t hnt => ?_⟩
      · rw [mkS_len, mkS_len]; omega
      have hl3 : H3 l = some (.lst ls) := hO3 _ _ nbl (by rw [upd_ne (ne_of_none hll hq)]; exact hll)
      have hO4 : Off b H H3 := (hO.new hq).trans hO3
      refine k t l (z ++ g) ls _ (hO4.new hnt) (hB3.new hnt) ?_ (by rw [mkS_app]; exact upd_same) (hz.fin g hg) (by rw [List.length_append]; omega) hnl (by rw [upd_ne (ne_of_none hl3 hnt)]; exact hl3)
      cases e : H t with
      | none => rfl
      | some o =>
        by_cases ne : t = b
        · subst ne
          obtain ⟨d, m, c, h1, _⟩ := hB3
          rw [h1] at hnt; cases hnt
        · rw [hO4 t o ne e] at hnt; cases hnt
end
end Ss
namespace Ss
open PySem L2
section
variable {P : Program} {w : World} {K : PySem.W.Frag} {mg : Str → Option Value} {base : Heap}
abbrev sIstok : Stmt := topS 9
theorem scIstok : FnScope ["text", "sign"] ["text"] (defScope sIstok) := ⟨rfl, rfl, rfl, by decide +kernel, rfl, by decide +kernel, by decide +kernel⟩
theorem ok_istok (F : DefAt K mg "is_token" sIstok) (T : G0 mg) (ha : mg "all" = none) (ho : mg "ord" = none) (hMS : ∃ t, mg "MOST_SIGNS" = some (.int 4 t)) (hPC : ∃ t, mg "PERCENT" = some (.int 37 t)) : Dk P w K mg base CX0 1 "is_token" ["text"] spIsTok := by
  obtain ⟨f, fd, F, mf⟩ := F.ex
  obtain ⟨tMS, hMS⟩ := hMS
  obtain ⟨tPC, hPC⟩ := hPC
  refine ⟨f, fd, F.ok scIstok (fun vs H Q E h => ?_) (fun cdv A outer s H vs Q E hr h => ?_), mf, F.kp, F.binds fun _ _ _ _ _ _ us hl => match us, hl with | [_], _ => rfl⟩
  · obtain ⟨z, rfl, _⟩ := h; rfl
  · obtain ⟨z, rfl, hz, k⟩ := h
    refine ⟨_, (pss_cons (ps_if (pt_not (pt_chain op_le op_le pe_int (pe_callB call_len_str (by rfl) T.len (by decide +kernel) (pa_cons (pv 0) pa_nil)) (pe_glob (v := .int 4) rfl hMS ⟨_, rfl⟩))) (pss_one (ps_ret pe_bl)) pss_nil) (pss_one (ps_ret (pe_callB (cr_all rfl) (by rfl) ha (by decide +kernel) (pa_cons (pe_lc (own := [("sign", 1)]) (g := gName 1) rfl scIstok.nd (pi_str (pv 0)) (blkOk_by (N := ["text", "sign"]) (sc := defScope sIstok) (by decide +kernel)) (fun _ _ _ _ _ => (pg_name (i := 1) scIstok.nd rfl (.inl rfl))) (fun _ _ _ _ _ => pts_nil) (fun _ _ _ _ _ => (pe_and (pe_chain op_le_str op_le_str pe_str (pv 1) pe_str) (pe_one (pe_cmpR op_ne (pe_callB call_ord (by rfl) ho (by decide +kernel) (pa_cons (pv 1) pa_nil)) (pe_glob (v := .int 37) rfl hPC ⟨_, rfl⟩) (nomark _)))))) pa_nil))))), ?_⟩
    have hzs : z.length ≤ sizeLine := Nat.le_trans hz (by decide)
    refine Evl.q_when (b := !(decide (1 ≤ z.length) && decide (z.length ≤ 4))) (Evl.et_not (Evl.et_is (Evl.et_test (ev_chain (a := decide ((1 : Int) ≤ (z.length : Int))) (b := decide ((z.length : Int) ≤ 4)) Evl.ev_c (Evl.ev_cb (Evl.ea_cons (Evl.ev_var rfl) Evl.ea_nil) (fun H1 s Q q => ⟨z, rfl, hzs, q H1 (Evl.Ex.refl H1)⟩)) Evl.rv_I0 fun _ => ⟨Evl.ev_c, Evl.rv_I0⟩)) (by
      congr 1
      · exact decide_eq_decide.mpr (by omega)
      · exact decide_eq_decide.mpr (by omega)))) (fun e H1 s1 => ?_) (fun e H1 s1 => ?_)
    · have q : tokOk z = false := by
        unfold tokOk
        rw [Bool.not_eq_true'] at e
        rw [e]; rfl
      exact Evl.s_ret (v := .bl false) Evl.ev_c fun H2 s2 => by
        have := k H2 (s1.trans s2)
        rw [q] at this
        exact this
    · have e4 : decide (1 ≤ z.length) = true ∧ decide (z.length ≤ 4) = true := by
        rw [Bool.not_eq_false', Bool.and_eq_true] at e
        exact e
      have h4 := of_decide_eq_true e4.2
      have hsz : z.cps.size = z.length := rfl
      have q : tokOk z = (z.cps.toList.map sgC).all id := by
        unfold tokOk
        rw [e4.1, e4.2, List.all_map]; rfl
      refine ⟨_, rfl, _, rfl, fun D hD => lc_it (walk_str (z := z)) (fun i H' => H' D = some (.lst ((z.cps.toList.take i).map fun c => V.bl (sgC c))) ∧ Same H1 H') ⟨upd_same, Same.new (Same.refl H1) hD⟩ (fun _ _ _ _ => trivial) ?_ ?_⟩
      · rintro i x H2 H3 hi ⟨h1, h2⟩ ⟨rfl, c, hc, rfl⟩
        have hc' : z.cps.toList[i]? = some c := by rw [Array.getElem?_toList]; exact hc
        have e33 : ("!" : Str) = ⟨#[33]⟩ := by decide +kernel
        have e126 : ("~" : Str) = ⟨#[126]⟩ := by decide +kernel
        refine ⟨rfl, ?_⟩
        refine (Evl.ev_is (Evl.ev_andV (a := decide (33 ≤ c) && decide (c ≤ 126)) (b := decide (c ≠ 37)) (ev_chain Evl.ev_c (Evl.ev_var rfl) (rv_leS e33 rfl) fun _ => ⟨Evl.ev_c, rv_leS rfl e126⟩) fun _ => Evl.ev_is (Evl.ev_op (Evl.ev_cb (Evl.ea_cons (Evl.ev_var rfl) Evl.ea_nil) (fun H1 s Q q => ⟨⟨#[c]⟩, rfl, rfl, q H1 (Evl.Ex.refl H1)⟩)) Evl.ev_c (Evl.rv_ne rfl)) (by
          show V.bl (!decide (V.int ((c : Nat) : Int) = V.int 37)) = V.bl (decide (c ≠ 37))
          congr 1
          by_cases h : c = 37
          · subst h; rfl
          · rw [decide_eq_true h, decide_eq_false (fun z => h (by injection z with z; omega))]; rfl)) rfl) _ (Evl.Ex.refl _) _ fun H4 s4 => ⟨_, s4 _ _ h1, ?_, ?_, fun a o ha => ?_⟩
        · rw [List.length_map, List.length_take]; exact Nat.lt_of_le_of_lt (Nat.min_le_left _ _) (Nat.lt_of_lt_of_le (show i < 5 by omega) (by decide))
        · have et : z.cps.toList.take (i + 1) = z.cps.toList.take i ++ [c] := by rw [List.take_add_one, hc']; rfl
          rw [upd_same, et, List.map_append]; rfl
        · have nD : H1 D = none := hD
          rw [upd_ne (ne_of_none ha nD)]
          exact s4 _ _ (h2 a o ha)
      · rintro H2 ⟨h1, h2⟩
        have et : z.cps.toList.take z.cps.size = z.cps.toList := by rw [← Array.length_toList, List.take_length]
        rw [et] at h1
        have e5 : (z.cps.toList.map fun c => V.bl (sgC c)) = (z.cps.toList.map sgC).map V.bl := by rw [List.map_map]; rfl
        rw [e5] at h1
        refine ⟨D, _, rfl, SqL.of h1, ?_⟩
        have := k H2 (s1.trans h2)
        rw [q] at this
        exact this
end
end Ss
namespace Ss
open PySem L2
section
variable {P : Program} {w : World} {K : PySem.W.Frag} {mg : Str → Option Value} {base : Heap}
abbrev sRinit : Stmt := inClass (topS 14) 2
theorem scRinit : FnScope ["self", "tokens", "token"] ["self", "tokens"] (defScope sRinit) := ⟨rfl, rfl, rfl, by decide +kernel, rfl, by decide +kernel, by decide +kernel⟩
theorem ok_Rinit {f Cb : Addr} {fd : FuncData} (F : Fun K "__init__" "Rule.__init__" sRinit f fd) (T : G0 mg) (Dtok : Dk P w K mg base CX0 1 "is_token" ["text"] spIsTok) (DBadRule : EDef P w K mg base 3 "BadRule" Cb "ValueError.__init__" ["self", "worth"] (spErr K Cb ["worth"] 1)) :
    FnR P w K mg base (L2.CX P w) 5 f (fun vs H Q E => ∃ ws rest, vs = ws ++ rest ∧ ws.length = 1 ∧ rest.length ≤ sizeLine ∧ ∀ p, H p = none → spRI Cb K (ws ++ [V.ref p]) (upd H p (.tup rest)) Q E) := by
  obtain ⟨oc, od, kV, doc, pm, an, cdv, ct, osl, rfl, lk, hcd⟩ := F.ex
  refine StX.fn_star (ps := ["self"]) (pv := "tokens") (sp := spRI Cb K) lk hcd scRinit StX.cxUp (StX.bind_star1 (B := fun l => bindArgs (PySem.W.fnOf "__init__" "Rule.__init__" (defArgs sRinit) (defBody sRinit) (defScope sRinit) .none kV doc pm an cdv ct) ⟨l, []⟩) (p1 := "self") (pv := "tokens") (fun a => rfl) (fun a r rs => rfl)) (fun A outer s H vs Q E hr h => ?_)
  obtain ⟨p, t, C, dx, toks, rfl, ht, hp, cl, na, hl, hw, k1, k2⟩ := h
  refine ⟨_, (pss_cons (ps_for (passes_of rfl) rfl (pi_tup (pv 1)) (pg_name (i := 2) scRinit.nd rfl (.inl rfl)) (pss_one (ps_if (pt_not (pt_val (pe_cd Dtok hr pass0 (pa_cons (pv 2) pa_nil)))) (pss_one (ps_raise rfl (takes_of rfl rfl rfl rfl) (pmk_ec (n := 1) DBadRule hr (pa_cons (pv 2) pa_nil) rfl (by decide)))) pss_nil))) (pss_cons (ps_if (PW.pt (pw_and (pt_cmpR op_gt (pe_callB call_len_seq (by rfl) T.len (by decide +kernel) (pa_cons (pv 1) pa_nil)) pe_int (nomark _)) (pw_and1 (pt_cmpR op_eq (pe_ix ix_tup (pv 1) pe_int (fun _ _ => rfl)) (pe_ix ix_tup (pv 1) pe_int (fun _ _ => rfl)) (nomark _))))) (pss_one (ps_raise rfl (takes_of rfl rfl rfl rfl) (pmk_ec (n := 1) DBadRule hr (pa_cons (pe_ix ix_tup (pv 1) pe_int (fun _ _ => rfl)) pa_nil) rfl (by decide)))) pss_nil) (pss_one (ps_fld (pv 0) (pv 1) rfl)))), ?_⟩
  refine ⟨_, rfl, t, rfl, ⟨_, SqT.of ht⟩, for_it (walk_tup (xs := toks.map V.str)) (fun i σ H' => ∃ v : Option V, σ = [some (.ref p), some (.ref t), v] ∧ Same H H' ∧ ∀ (j : Nat) (z : Str), j < i → toks[j]? = some z → tokOk z = true) ⟨none, rfl, Same.refl H, fun j z hj => absurd hj (Nat.not_lt_zero _)⟩
    (fun i σ H' _ h => by obtain ⟨_, _, s, _⟩ := h; exact Evl.ex_t s (SqT.of ht)) ?_ ?_⟩
  · rintro i x σ H1 H2 hi ⟨v, rfl, s1, ok⟩ ⟨rfl, hx⟩
    obtain ⟨z, hz, rfl⟩ : ∃ z, toks[i]? = some z ∧ x = V.str z := by
      rw [List.getElem?_map] at hx
      cases e : toks[i]? with
      | none => rw [e] at hx; cases hx
      | some y => rw [e] at hx; cases hx; exact ⟨y, rfl, rfl⟩
    have hwz := hw z (List.mem_of_getElem? hz)
    refine ⟨_, rfl, z, rfl, Nat.le_trans hwz.1 (by decide), fun H3 s3 => ⟨_, rfl, ?_⟩⟩
    refine ite2 (fun c => ?_) (fun c => ?_)
    · have hb : badOf toks = some z := by
        have c : tokOk z = false := by simpa using c
        match toks, hl, i, hz, ok with
        | [a], _, 0, hz, _ => cases hz; show (if tokOk z = true then _ else _) = _; rw [c]; rfl
        | [a, b], _, 0, hz, _ => cases hz; show (if tokOk z = true then _ else _) = _; rw [c]; rfl
        | [a, b], _, 1, hz, ok =>
          cases hz
          have := ok 0 a (by decide) rfl
          show (if tokOk a = true then (if tokOk z = true then _ else _) else _) = _
          rw [if_pos this, c]; rfl
      refine emkr_one (i := 2) rfl (wth_str hwz) fun dd fs v' H' s h1 h2 h3 => ?_
      cases h3
      exact k2 z hb dd fs H' ((s1.trans s3).trans s) h1 h2
    · have c : tokOk z = true := by simpa using c
      refine ⟨_, rfl, s1.trans s3, fun j y hj hy => ?_⟩
      by_cases e : j = i
      · subst e; rw [hz] at hy; cases hy; exact c
      · exact ok j y (by omega) hy
  · rintro σ H1 ⟨v, rfl, s1, ok⟩
    rw [List.length_map] at ok
    have ht1 := SqT.of (K := K) (s1 _ _ ht)
    have hp1 := s1 _ _ hp
    have all : ∀ z ∈ toks, tokOk z = true := fun z hz => by
      obtain ⟨j, hj, e⟩ := List.getElem_of_mem hz
      exact ok j z hj (by rw [List.getElem?_eq_getElem hj, e])
    have il : (toks.map V.str).length = toks.length := List.length_map _
    have it : ∀ (H2 : Hp) (s2 : Same H1 H2) (i : Nat) (z : Str) (_ : toks[i]? = some z) (σ : L2.St) (_ : σ[1]? = some (some (.ref t))), Evl.Ev (tOp (rIxT K) (tVar 1) (tC (.int (i : Nat)))) σ H2 (.str z) := fun H2 s2 i z hz σ h1 =>
      Evl.ev_op (Evl.ev_var h1) Evl.ev_c (Evl.rv_ixT (SqT.of (s2 _ _ (s1 _ _ ht))) (atI_nat (by rw [List.getElem?_map, hz]; rfl)))
    dsimp only
    match toks, hl, ht, hw, k1, k2, all, il, it with
    | [a], _, ht, hw, k1, k2, all, il, it =>
      refine Evl.q_when (b := false) (Evl.et_is (Evl.et_and (a := decide ((1 : Int) < (([a] : List Str).length : Int))) (b := false) (Evl.et_test (Evl.ev_op (Evl.ev_cb (Evl.ea_cons (Evl.ev_var rfl) Evl.ea_nil) (fun H1 s Q q => ⟨t, _, rfl, .inr (SqT.of (s _ _ (s1 _ _ ht))), q H1 (Evl.Ex.refl H1)⟩)) Evl.ev_c Evl.rv_I0)) (fun z => by cases z)) rfl) (fun z => Bool.noConfusion z) fun _ H2 s2 => ?_
      refine ⟨_, rfl, _, rfl, p, C, dx, [], rfl, s2 _ _ hp1, cl, na, by decide, ?_⟩
      exact k1 (by show (if tokOk a = true then none else some a) = none; rw [if_pos (all a (by simp))]) H2 (s1.trans s2)
    | [a, b], _, ht, hw, k1, k2, all, il, it =>
      have ta := all a (by simp)
      have tb := all b (by simp)
      refine Evl.q_when (b := decide (a = b)) (Evl.et_is (Evl.et_and (a := decide ((1 : Int) < (([a, b] : List Str).length : Int))) (b := decide (V.str a = V.str b)) (Evl.et_test (Evl.ev_op (Evl.ev_cb (Evl.ea_cons (Evl.ev_var rfl) Evl.ea_nil) (fun H1 s Q q => ⟨t, _, rfl, .inr (SqT.of (s _ _ (s1 _ _ ht))), q H1 (Evl.Ex.refl H1)⟩)) Evl.ev_c Evl.rv_I0)) (fun _ => Evl.et_test (Evl.ev_op (it H1 (Same.refl H1) 0 a rfl [some (.ref p), some (.ref t), v] rfl) (it H1 (Same.refl H1) 1 b rfl [some (.ref p), some (.ref t), v] rfl) (Evl.rv_eq rfl)))) (by
        show (true && _) = _
        rw [Bool.true_and]
        exact decide_eq_decide.mpr ⟨fun z => by injection z, fun z => by rw [z]⟩)) (fun e H2 s2 => ?_) (fun e H2 s2 => ?_)
      · have e : a = b := of_decide_eq_true e
        have hb : badOf [a, b] = some a := by show (if tokOk a = true then (if tokOk b = true then (if a = b then some a else none) else some b) else some a) = _; rw [if_pos ta, if_pos tb, if_pos e]
        refine emkr_oneE (it _ s2 0 a rfl _ rfl) (wth_str (hw a (by simp))) fun dd fs v' H' s h1 h2 h3 => ?_
        cases h3
        exact k2 a hb dd fs H' ((s1.trans s2).trans s) h1 h2
      · have e : ¬ a = b := of_decide_eq_false e
        have hb : badOf [a, b] = none := by show (if tokOk a = true then (if tokOk b = true then (if a = b then some a else none) else some b) else some a) = _; rw [if_pos ta, if_pos tb, if_neg e]
        refine ⟨_, rfl, _, rfl, p, C, dx, [], rfl, s2 _ _ hp1, cl, na, by decide, ?_⟩
        exact k1 hb H2 (s1.trans s2)
    | [], hl, _, _, _, _, _, _, _ => exact absurd hl (by decide)
    | _ :: _ :: _ :: _, hl, _, _, _, _, _, _, _ => exact absurd hl (by simp)
end
end Ss
namespace Ss
open PySem L2
section
variable {P : Program} {w : World} {K : PySem.W.Frag} {mg : Str → Option Value} {base : Heap}
abbrev sOinit : Stmt := inClass (topS 15) 1
theorem scOinit : FnScope ["self", "token"] ["self", "token"] (defScope sOinit) := ⟨rfl, rfl, rfl, by decide +kernel, rfl, by decide +kernel, by decide +kernel⟩
theorem ok_Oinit {f g R C Cb : Addr} {fd : FuncData} (F : Fun K "__init__" "Out.__init__" sOinit f fd) (Rd : ClsRd K mg "Rule" R) (fv : PySem.W.findCls K (.ref R) (.type "type") "__init__" = some (.val (.ref g))) (kp : PySem.W.keepIn K (.ref g) = true) (c : RCl K C (RK.word .out))
    (Fr : FnR P w K mg base (L2.CX P w) 5 g (fun vs H Q E => ∃ ws rest, vs = ws ++ rest ∧ ws.length = 1 ∧ rest.length ≤ sizeLine ∧ ∀ p, H p = none → spRI Cb K (ws ++ [V.ref p]) (upd H p (.tup rest)) Q E)) :
    FnOk P w K mg base (L2.CX P w) 6 f fd ["self", "token"] (spNew Cb C .out) := by
  refine F.okX scOinit (fun vs H Q E h => ?_) (fun cdv A outer s H vs Q E hr h => ?_)
  · obtain ⟨p, dx, toks, rfl, hl, _⟩ := h
    rw [List.length_cons, List.length_map, hl]; rfl
  · obtain ⟨p, dx, toks, rfl, hl, hp, hw, k1, k2⟩ := h
    match toks, hl, hw, k1, k2 with
    | [a], _, hw, k1, k2 =>
      refine ⟨_, (pss_cons (ps_expr (pe_clsfn Rd Fr fv kp hr (passes_call (takes_of rfl rfl rfl rfl) (fun _ _ _ _ h => h)) (pa_cons (pv 0) (pa_cons (pv 1) pa_nil)))) (pss_cons (ps_fld (pv 0) (pe_tup (pa_cons (pv 1) pa_nil)) rfl) (pss_one (ps_fld (pv 0) (pe_tup pa_nil) rfl)))), ?_⟩
      refine ⟨_, rfl, _, rfl, [.ref p], [.str a], rfl, rfl, by show 1 ≤ sizeLine; decide, fun t ht => ⟨p, t, C, dx, [a], rfl, upd_same, ?_, c.cl, c.t, .inl rfl, hw, fun hb H1 s1 => ?_, fun z hz => (k2 z hz).mono (Same.new (Same.refl H) ht)⟩⟩
      · rw [upd_ne (ne_of_none hp ht)]; exact hp
      have ntp : p ≠ t := ne_of_none hp ht
      have hpx : upd H1 p (.ins C dx [("tokens", .ref t)]) p = some (.ins C dx [("tokens", .ref t)]) := upd_same
      have htx : upd H1 p (.ins C dx [("tokens", .ref t)]) t = some (.tup (([a] : List Str).map V.str)) := by rw [upd_ne ntp.symm]; exact s1 _ _ upd_same
      have off : Off p H (upd H1 p (.ins C dx [("tokens", .ref t)])) := fun a o na ha => by rw [upd_ne na]; exact s1 _ _ (by rw [upd_ne (ne_of_none ha ht)]; exact ha)
      refine ⟨_, rfl, by show 1 ≤ sizeLine; decide, fun r hr => ⟨_, rfl, p, C, dx, _, rfl, by rw [upd_ne (ne_of_none hpx hr)]; exact hpx, c.cl, c.r, by show 1 < 1000; decide, ?_⟩⟩
      rw [putF_rem]
      refine ⟨by show 0 ≤ sizeLine; decide, fun i hi => ⟨_, rfl, p, C, dx, _, rfl, by rw [upd_ne (ne_of_none upd_same hi)]; exact upd_same, c.cl, c.i, by show 2 < 1000; decide, ?_⟩⟩
      rw [putF_ins]
      obtain ⟨q1, q2⟩ := rule_end (k := .out) (toks := [a]) hp off htx hpx hr hi
      exact k1 hb _ q1 q2
abbrev sWinit : Stmt := inClass (topS 16) 1
theorem scWinit : FnScope ["self", "token"] ["self", "token"] (defScope sWinit) := ⟨rfl, rfl, rfl, by decide +kernel, rfl, by decide +kernel, by decide +kernel⟩
theorem ok_Winit {f g R C Cb : Addr} {fd : FuncData} (F : Fun K "__init__" "Twice.__init__" sWinit f fd) (Rd : ClsRd K mg "Rule" R) (fv : PySem.W.findCls K (.ref R) (.type "type") "__init__" = some (.val (.ref g))) (kp : PySem.W.keepIn K (.ref g) = true) (c : RCl K C (RK.word .twice))
    (Fr : FnR P w K mg base (L2.CX P w) 5 g (fun vs H Q E => ∃ ws rest, vs = ws ++ rest ∧ ws.length = 1 ∧ rest.length ≤ sizeLine ∧ ∀ p, H p = none → spRI Cb K (ws ++ [V.ref p]) (upd H p (.tup rest)) Q E)) :
    FnOk P w K mg base (L2.CX P w) 6 f fd ["self", "token"] (spNew Cb C .twice) := by
  refine F.okX scWinit (fun vs H Q E h => ?_) (fun cdv A outer s H vs Q E hr h => ?_)
  · obtain ⟨p, dx, toks, rfl, hl, _⟩ := h
    rw [List.length_cons, List.length_map, hl]; rfl
  · obtain ⟨p, dx, toks, rfl, hl, hp, hw, k1, k2⟩ := h
    match toks, hl, hw, k1, k2 with
    | [a], _, hw, k1, k2 =>
      refine ⟨_, (pss_cons (ps_expr (pe_clsfn Rd Fr fv kp hr (passes_call (takes_of rfl rfl rfl rfl) (fun _ _ _ _ h => h)) (pa_cons (pv 0) (pa_cons (pv 1) pa_nil)))) (pss_cons (ps_fld (pv 0) (pe_tup (pa_cons (pv 1) pa_nil)) rfl) (pss_one (ps_fld (pv 0) (pe_tup (pa_cons (pv 1) (pa_cons (pv 1) pa_nil))) rfl)))), ?_⟩
      refine ⟨_, rfl, _, rfl, [.ref p], [.str a], rfl, rfl, by show 1 ≤ sizeLine; decide, fun t ht => ⟨p, t, C, dx, [a], rfl, upd_same, ?_, c.cl, c.t, .inl rfl, hw, fun hb H1 s1 => ?_, fun z hz => (k2 z hz).mono (Same.new (Same.refl H) ht)⟩⟩
      · rw [upd_ne (ne_of_none hp ht)]; exact hp
      have ntp : p ≠ t := ne_of_none hp ht
      have hpx : upd H1 p (.ins C dx [("tokens", .ref t)]) p = some (.ins C dx [("tokens", .ref t)]) := upd_same
      have htx : upd H1 p (.ins C dx [("tokens", .ref t)]) t = some (.tup (([a] : List Str).map V.str)) := by rw [upd_ne ntp.symm]; exact s1 _ _ upd_same
      have off : Off p H (upd H1 p (.ins C dx [("tokens", .ref t)])) := fun a o na ha => by rw [upd_ne na]; exact s1 _ _ (by rw [upd_ne (ne_of_none ha ht)]; exact ha)
      refine ⟨_, rfl, by show 1 ≤ sizeLine; decide, fun r hr => ⟨_, rfl, p, C, dx, _, rfl, by rw [upd_ne (ne_of_none hpx hr)]; exact hpx, c.cl, c.r, by show 1 < 1000; decide, ?_⟩⟩
      rw [putF_rem]
      refine ⟨_, rfl, _, rfl, by show 2 ≤ sizeLine; decide, fun i hi => ⟨_, rfl, p, C, dx, _, rfl, by rw [upd_ne (ne_of_none upd_same hi)]; exact upd_same, c.cl, c.i, by show 2 < 1000; decide, ?_⟩⟩
      rw [putF_ins]
      obtain ⟨q1, q2⟩ := rule_end (k := .twice) (toks := [a]) hp off htx hpx hr hi
      exact k1 hb _ q1 q2
abbrev sSinit : Stmt := inClass (topS 17) 2
theorem scSinit : FnScope ["self", "first", "second"] ["self", "first", "second"] (defScope sSinit) := ⟨rfl, rfl, rfl, by decide +kernel, rfl, by decide +kernel, by decide +kernel⟩
theorem ok_Sinit {f g R C Cb : Addr} {fd : FuncData} (F : Fun K "__init__" "Swapped.__init__" sSinit f fd) (Rd : ClsRd K mg "Rule" R) (fv : PySem.W.findCls K (.ref R) (.type "type") "__init__" = some (.val (.ref g))) (kp : PySem.W.keepIn K (.ref g) = true) (c : RCl K C (RK.word .swapped))
    (Fr : FnR P w K mg base (L2.CX P w) 5 g (fun vs H Q E => ∃ ws rest, vs = ws ++ rest ∧ ws.length = 1 ∧ rest.length ≤ sizeLine ∧ ∀ p, H p = none → spRI Cb K (ws ++ [V.ref p]) (upd H p (.tup rest)) Q E)) :
    FnOk P w K mg base (L2.CX P w) 6 f fd ["self", "first", "second"] (spNew Cb C .swapped) := by
  refine F.okX scSinit (fun vs H Q E h => ?_) (fun cdv A outer s H vs Q E hr h => ?_)
  · obtain ⟨p, dx, toks, rfl, hl, _⟩ := h
    rw [List.length_cons, List.length_map, hl]; rfl
  · obtain ⟨p, dx, toks, rfl, hl, hp, hw, k1, k2⟩ := h
    match toks, hl, hw, k1, k2 with
    | [a, b], _, hw, k1, k2 =>
      refine ⟨_, (pss_cons (ps_expr (pe_clsfn Rd Fr fv kp hr (passes_call (takes_of rfl rfl rfl rfl) (fun _ _ _ _ h => h)) (pa_cons (pv 0) (pa_cons (pv 1) (pa_cons (pv 2) pa_nil))))) (pss_cons (ps_fld (pv 0) (pe_tup (pa_cons (pv 1) (pa_cons (pv 2) pa_nil))) rfl) (pss_one (ps_fld (pv 0) (pe_tup (pa_cons (pv 2) (pa_cons (pv 1) pa_nil))) rfl)))), ?_⟩
      refine ⟨_, rfl, _, rfl, _, rfl, [.ref p], [.str a, .str b], rfl, rfl, by show 2 ≤ sizeLine; decide, fun t ht => ⟨p, t, C, dx, [a, b], rfl, upd_same, ?_, c.cl, c.t, .inr rfl, hw, fun hb H1 s1 => ?_, fun z hz => (k2 z hz).mono (Same.new (Same.refl H) ht)⟩⟩
      · rw [upd_ne (ne_of_none hp ht)]; exact hp
      have ntp : p ≠ t := ne_of_none hp ht
      have hpx : upd H1 p (.ins C dx [("tokens", .ref t)]) p = some (.ins C dx [("tokens", .ref t)]) := upd_same
      have htx : upd H1 p (.ins C dx [("tokens", .ref t)]) t = some (.tup (([a, b] : List Str).map V.str)) := by rw [upd_ne ntp.symm]; exact s1 _ _ upd_same
      have off : Off p H (upd H1 p (.ins C dx [("tokens", .ref t)])) := fun a o na ha => by rw [upd_ne na]; exact s1 _ _ (by rw [upd_ne (ne_of_none ha ht)]; exact ha)
      refine ⟨_, rfl, _, rfl, by show 2 ≤ sizeLine; decide, fun r hr => ⟨_, rfl, p, C, dx, _, rfl, by rw [upd_ne (ne_of_none hpx hr)]; exact hpx, c.cl, c.r, by show 1 < 1000; decide, ?_⟩⟩
      rw [putF_rem]
      refine ⟨_, rfl, _, rfl, by show 2 ≤ sizeLine; decide, fun i hi => ⟨_, rfl, p, C, dx, _, rfl, by rw [upd_ne (ne_of_none upd_same hi)]; exact upd_same, c.cl, c.i, by show 2 < 1000; decide, ?_⟩⟩
      rw [putF_ins]
      obtain ⟨q1, q2⟩ := rule_end (k := .swapped) (toks := [a, b]) hp off htx hpx hr hi
      exact k1 hb _ q1 q2
abbrev sKinit : Stmt := inClass (topS 18) 1
theorem scKinit : FnScope ["self", "first", "second"] ["self", "first", "second"] (defScope sKinit) := ⟨rfl, rfl, rfl, by decide +kernel, rfl, by decide +kernel, by decide +kernel⟩
theorem ok_Kinit {f g R C Cb : Addr} {fd : FuncData} (F : Fun K "__init__" "Taken.__init__" sKinit f fd) (Rd : ClsRd K mg "Rule" R) (fv : PySem.W.findCls K (.ref R) (.type "type") "__init__" = some (.val (.ref g))) (kp : PySem.W.keepIn K (.ref g) = true) (c : RCl K C (RK.word .taken))
    (Fr : FnR P w K mg base (L2.CX P w) 5 g (fun vs H Q E => ∃ ws rest, vs = ws ++ rest ∧ ws.length = 1 ∧ rest.length ≤ sizeLine ∧ ∀ p, H p = none → spRI Cb K (ws ++ [V.ref p]) (upd H p (.tup rest)) Q E)) :
    FnOk P w K mg base (L2.CX P w) 6 f fd ["self", "first", "second"] (spNew Cb C .taken) := by
  refine F.okX scKinit (fun vs H Q E h => ?_) (fun cdv A outer s H vs Q E hr h => ?_)
  · obtain ⟨p, dx, toks, rfl, hl, _⟩ := h
    rw [List.length_cons, List.length_map, hl]; rfl
  · obtain ⟨p, dx, toks, rfl, hl, hp, hw, k1, k2⟩ := h
    match toks, hl, hw, k1, k2 with
    | [a, b], _, hw, k1, k2 =>
      refine ⟨_, (pss_cons (ps_expr (pe_clsfn Rd Fr fv kp hr (passes_call (takes_of rfl rfl rfl rfl) (fun _ _ _ _ h => h)) (pa_cons (pv 0) (pa_cons (pv 1) (pa_cons (pv 2) pa_nil))))) (pss_cons (ps_fld (pv 0) (pe_tup (pa_cons (pv 1) pa_nil)) rfl) (pss_one (ps_fld (pv 0) (pe_tup (pa_cons (pv 2) pa_nil)) rfl)))), ?_⟩
      refine ⟨_, rfl, _, rfl, _, rfl, [.ref p], [.str a, .str b], rfl, rfl, by show 2 ≤ sizeLine; decide, fun t ht => ⟨p, t, C, dx, [a, b], rfl, upd_same, ?_, c.cl, c.t, .inr rfl, hw, fun hb H1 s1 => ?_, fun z hz => (k2 z hz).mono (Same.new (Same.refl H) ht)⟩⟩
      · rw [upd_ne (ne_of_none hp ht)]; exact hp
      have ntp : p ≠ t := ne_of_none hp ht
      have hpx : upd H1 p (.ins C dx [("tokens", .ref t)]) p = some (.ins C dx [("tokens", .ref t)]) := upd_same
      have htx : upd H1 p (.ins C dx [("tokens", .ref t)]) t = some (.tup (([a, b] : List Str).map V.str)) := by rw [upd_ne ntp.symm]; exact s1 _ _ upd_same
      have off : Off p H (upd H1 p (.ins C dx [("tokens", .ref t)])) := fun a o na ha => by rw [upd_ne na]; exact s1 _ _ (by rw [upd_ne (ne_of_none ha ht)]; exact ha)
      refine ⟨_, rfl, by show 1 ≤ sizeLine; decide, fun r hr => ⟨_, rfl, p, C, dx, _, rfl, by rw [upd_ne (ne_of_none hpx hr)]; exact hpx, c.cl, c.r, by show 1 < 1000; decide, ?_⟩⟩
      rw [putF_rem]
      refine ⟨_, rfl, by show 1 ≤ sizeLine; decide, fun i hi => ⟨_, rfl, p, C, dx, _, rfl, by rw [upd_ne (ne_of_none upd_same hi)]; exact upd_same, c.cl, c.i, by show 2 < 1000; decide, ?_⟩⟩
      rw [putF_ins]
      obtain ⟨q1, q2⟩ := rule_end (k := .taken) (toks := [a, b]) hp off htx hpx hr hi
      exact k1 hb _ q1 q2
end
end Ss
namespace Ss
open PySem L2
section
variable {P : Program} {w : World} {K : PySem.W.Frag} {mg : Str → Option Value} {base : Heap}
abbrev sRuled : Stmt := topS 32
theorem scRuled : FnScope ["rule"] ["rule"] (defScope sRuled) := ⟨rfl, rfl, rfl, by decide +kernel, rfl, by decide +kernel, by decide +kernel⟩
theorem ok_ruled {Cb : Addr} {Cf : RK → Addr} (F : DefAt K mg "_law_ruled" sRuled) (DOut : NewD P w K mg base (L2.CX P w) (Cf .out) 6 "Out" ["self", "token"] (spNew Cb (Cf .out) .out)) (DTwice : NewD P w K mg base (L2.CX P w) (Cf .twice) 6 "Twice" ["self", "token"] (spNew Cb (Cf .twice) .twice))
    (DSwapped : NewD P w K mg base (L2.CX P w) (Cf .swapped) 6 "Swapped" ["self", "first", "second"] (spNew Cb (Cf .swapped) .swapped)) (DTaken : NewD P w K mg base (L2.CX P w) (Cf .taken) 6 "Taken" ["self", "first", "second"] (spNew Cb (Cf .taken) .taken)) :
    Dk P w K mg base (L2.CX P w) 8 "_law_ruled" ["rule"] (spRuled K Cb Cf) := by
  obtain ⟨f, fd, F, mf⟩ := F.ex
  refine ⟨f, fd, F.okX scRuled (fun vs H Q E h => ?_) (fun cdv A outer s H vs Q E hr h => ?_), mf, F.kp, F.binds fun _ _ _ _ _ _ us hl => match us, hl with | [_], _ => rfl⟩
  · obtain ⟨q, k, toks, rfl, _⟩ := h; rfl
  · obtain ⟨q, k, toks, rfl, hq, hl, hw, k1, k2⟩ := h
    refine ⟨_, (pss_cons (ps_if (pt_cmpR op_eq (pe_ix ix_tup (pv 0) pe_int (fun _ _ => rfl)) pe_str (nomark _)) (pss_one (ps_ret (pe_mk DOut hr (passes_call (takes_of rfl rfl rfl rfl) (fun _ _ _ _ h => h)) (pa_cons (pe_ix ix_tup (pv 0) pe_int (fun _ _ => rfl)) pa_nil)))) pss_nil) (pss_cons (ps_if (pt_cmpR op_eq (pe_ix ix_tup (pv 0) pe_int (fun _ _ => rfl)) pe_str (nomark _)) (pss_one (ps_ret (pe_mk DTwice hr (passes_call (takes_of rfl rfl rfl rfl) (fun _ _ _ _ h => h)) (pa_cons (pe_ix ix_tup (pv 0) pe_int (fun _ _ => rfl)) pa_nil)))) pss_nil) (pss_cons (ps_if (pt_cmpR op_eq (pe_ix ix_tup (pv 0) pe_int (fun _ _ => rfl)) pe_str (nomark _)) (pss_one (ps_ret (pe_mk DSwapped hr (passes_call (takes_of rfl rfl rfl rfl) (fun _ _ _ _ h => h)) (pa_cons (pe_ix ix_tup (pv 0) pe_int (fun _ _ => rfl)) (pa_cons (pe_ix ix_tup (pv 0) pe_int (fun _ _ => rfl)) pa_nil))))) pss_nil) (pss_one (ps_ret (pe_mk DTaken hr (passes_call (takes_of rfl rfl rfl rfl) (fun _ _ _ _ h => h)) (pa_cons (pe_ix ix_tup (pv 0) pe_int (fun _ _ => rfl)) (pa_cons (pe_ix ix_tup (pv 0) pe_int (fun _ _ => rfl)) pa_nil)))))))), ?_⟩
    have it : ∀ (H2 : Hp) (s2 : Same H H2) (i : Nat) (z : Str) (_ : (k.word :: toks)[i]? = some z), Evl.Ev (tOp (rIxT K) (tVar 0) (tC (.int (i : Nat)))) [some (.ref q)] H2 (.str z) := fun H2 s2 i z hz =>
      Evl.ev_op (Evl.ev_var rfl) Evl.ev_c (Evl.rv_ixT (Evl.ex_t s2 hq) (atI_nat (by rw [List.getElem?_map, hz]; rfl)))
    have te : ∀ (H2 : Hp) (s2 : Same H H2) (w : Str), Evl.EvT (tTest (tOp rEq (tOp (rIxT K) (tVar 0) (tC (.int ((0 : Nat) : Int)))) (tC (.str w)))) [some (.ref q)] H2 (decide (V.str k.word = V.str w)) := fun H2 s2 w =>
      Evl.et_test (Evl.ev_op (it H2 s2 0 k.word rfl) Evl.ev_c (Evl.rv_eq rfl))
    -- behind the making
    have fin : ∀ (H2 : Hp) (s2 : Same H H2) (x dx : Addr), H2 x = none → H2 dx = none → dx ≠ x → spNew Cb (Cf k) k (.ref x :: toks.map V.str) (upd (upd H2 dx (.own x)) x (.ins (Cf k) dx [])) (fun v H3 => v = .non ∧ Q (.ref x) H3) E := fun H2 s2 x dx nx ndx nex => by
      refine ⟨x, dx, toks, rfl, hl, upd_same, hw, fun hb H3 o r => ⟨rfl, k1 hb x H3 (fun a u ha => ?_) (Evl.fresh_back s2 nx) r⟩, fun z hz => (k2 z hz).mono (s2.trans ((Evl.Ex.new ndx).trans (Evl.Ex.new (by rw [upd_ne nex.symm]; exact nx))))⟩
      have h2 := s2 _ _ ha
      exact o a u (ne_of_none h2 nx) (by rw [upd_ne (ne_of_none h2 nx), upd_ne (ne_of_none h2 ndx)]; exact h2)
    match k, toks, hl, it, te, fin with
    | .out, [a], _, it, te, fin =>
      refine Evl.q_when (b := true) (Evl.et_is (te H (Same.refl H) "out") (by decide +kernel)) (fun _ H1 s1 => ?_) (fun e => Bool.noConfusion e)
      exact it H1 s1 1 a rfl H1 (Evl.Ex.refl H1) _ fun H2 s2 => fun x dx nx ndx nex => fin H2 (s1.trans s2) x dx nx ndx nex
    | .twice, [a], _, it, te, fin =>
      refine Evl.q_when (b := false) (Evl.et_is (te H (Same.refl H) "out") (by decide +kernel)) (fun e => Bool.noConfusion e) (fun _ H1 s1 => ?_)
      refine Evl.q_when (b := true) (Evl.et_is (te H1 s1 "twice") (by decide +kernel)) (fun _ H2 s2 => ?_) (fun e => Bool.noConfusion e)
      exact it H2 (s1.trans s2) 1 a rfl H2 (Evl.Ex.refl H2) _ fun H3 s3 => fun x dx nx ndx nex => fin H3 ((s1.trans s2).trans s3) x dx nx ndx nex
    | .swapped, [a, b], _, it, te, fin =>
      refine Evl.q_when (b := false) (Evl.et_is (te H (Same.refl H) "out") (by decide +kernel)) (fun e => Bool.noConfusion e) (fun _ H1 s1 => ?_)
      refine Evl.q_when (b := false) (Evl.et_is (te H1 s1 "twice") (by decide +kernel)) (fun e => Bool.noConfusion e) (fun _ H2 s2 => ?_)
      refine Evl.q_when (b := true) (Evl.et_is (te H2 (s1.trans s2) "swapped") (by decide +kernel)) (fun _ H3 s3 => ?_) (fun e => Bool.noConfusion e)
      have t3 := (s1.trans s2).trans s3
      exact it H3 t3 1 a rfl H3 (Evl.Ex.refl H3) _ fun H4 s4 => it H4 (t3.trans s4) 2 b rfl H4 (Evl.Ex.refl H4) _ fun H5 s5 => fun x dx nx ndx nex => fin H5 ((t3.trans s4).trans s5) x dx nx ndx nex
    | .taken, [a, b], _, it, te, fin =>
      refine Evl.q_when (b := false) (Evl.et_is (te H (Same.refl H) "out") (by decide +kernel)) (fun e => Bool.noConfusion e) (fun _ H1 s1 => ?_)
      refine Evl.q_when (b := false) (Evl.et_is (te H1 s1 "twice") (by decide +kernel)) (fun e => Bool.noConfusion e) (fun _ H2 s2 => ?_)
      refine Evl.q_when (b := false) (Evl.et_is (te H2 (s1.trans s2) "swapped") (by decide +kernel)) (fun e => Bool.noConfusion e) (fun _ H3 s3 => ?_)
      have t3 := (s1.trans s2).trans s3
      exact it H3 t3 1 a rfl H3 (Evl.Ex.refl H3) _ fun H4 s4 => it H4 (t3.trans s4) 2 b rfl H4 (Evl.Ex.refl H4) _ fun H5 s5 => fun x dx nx ndx nex => fin H5 ((t3.trans s4).trans s5) x dx nx ndx nex
end
end Ss
namespace Ss
open PySem L2
section
variable {P : Program} {w : World} {K : PySem.W.Frag} {mg : Str → Option Value} {base : Heap}
abbrev sStands : Stmt := inClass (topS 14) 8
theorem scStands : FnScope ["self", "tokens", "place"] ["self", "tokens", "place"] (defScope sStands) := ⟨rfl, rfl, rfl, by decide +kernel, rfl, by decide +kernel, by decide +kernel⟩
/-- whether a rule stands at a place -/
def spStands (K : PySem.W.Frag) (Cf : RK → Addr) : Sp := fun vs H Q _ => ∃ (p t : Addr) (pl : Int) (kd : RK) (toks ts : List Str), vs = [.ref p, .ref t, .int pl] ∧ RuleAt H (Cf kd) p kd toks ∧ SqL K H t (ts.map V.str) ∧ ts.all okS = true ∧ toks.all okS = true ∧ ∀ H', Same H H' → Q (.bl (standsP ts (kd.rem toks) pl)) H'
theorem rem_all {k : RK} {toks : List Str} {p : Str → Bool} (h : toks.all p = true) : (k.rem toks).all p = true := by
  match k, toks, h with
  | .out, [a], h => exact h
  | .twice, [a], h => exact h
  | .swapped, [a, b], h => exact h
  | .taken, [a, b], h =>
    simp only [List.all_cons, List.all_nil, Bool.and_true, Bool.and_eq_true] at h ⊢
    simp only [RK.rem, List.all_cons, List.all_nil, Bool.and_true]
    exact h.1
  | .out, [], _ => rfl
  | .out, _ :: _ :: _, _ => rfl
  | .twice, [], _ => rfl
  | .twice, _ :: _ :: _, _ => rfl
  | .swapped, [], _ => rfl
  | .swapped, [_], _ => rfl
  | .swapped, _ :: _ :: _ :: _, _ => rfl
  | .taken, [], _ => rfl
  | .taken, [_], _ => rfl
  | .taken, _ :: _ :: _ :: _, _ => rfl
theorem ok_stands {C R : Addr} {Cf : RK → Addr} (F : MethAt K C "stands" "Rule.stands" sStands) (T : G0 mg) (Z : RTab K mg Cf R) : Mm P w K mg base CX0 C 1 "stands" ["self", "tokens", "place"] (spStands K Cf) := by
  obtain ⟨f, fd, F, mf⟩ := F.ex
  refine ⟨f, fd, F.ok scStands (fun vs H Q E h => ?_) (fun cdv A outer s H vs Q E hr h => ?_), mf, F.binds fun _ _ _ _ _ _ us hl => match us, hl with | [_, _, _], _ => rfl⟩
  · obtain ⟨p, t, pl, kd, toks, ts, rfl, _⟩ := h; rfl
  · obtain ⟨p, t, pl, kd, toks, ts, rfl, hR, ht, o1, o2, k⟩ := h
    refine ⟨_, (pss_one (ps_ret (pe_and (pe_cmpR op_ge (pv 2) pe_int (nomark _)) (pe_one (pe_cmpR (op_eqD hr.units) (pe_callTy call_tuple_of (by rfl) T.tuple (by decide +kernel) (pa_cons (pe_slice sl_list (pv 1) (po_some (pv 2)) (po_some (pe_op op_add (pv 2) (pe_callB call_len_seq (by rfl) T.len (by decide +kernel) (pa_cons (pe_fld (pv 0) rfl) pa_nil))))) pa_nil)) (pe_fld (pv 0) rfl) (nomark _)))))), ?_⟩
    obtain ⟨dx, tt, rr, ii, h1, h2, h3, h4⟩ := id hR
    have fr : ∀ {G : Hp} {σ : L2.St}, Same H G → σ[0]? = some (some (.ref p)) → Evl.Ev (tFld K (tVar 0) "removed") σ G (.ref rr) := fun s h G1 s1 Q1 q1 => ⟨_, h, p, Cf kd, dx, _, _, rfl, s1 _ _ (s _ _ h1), (Z.cl kd).cl, (Z.cl kd).r, rfl, q1 G1 (Evl.Ex.refl G1)⟩
    refine Evl.s_ret (v := .bl (standsP ts (kd.rem toks) pl)) ?_ fun H' s' => k H' s'
    unfold standsP
    refine Evl.ev_andV (a := decide (0 ≤ pl)) (Evl.ev_is (Evl.ev_op (Evl.ev_var rfl) Evl.ev_c Evl.rv_I0) (by congr 1)) fun z => ?_
    have z := of_decide_eq_true z
    obtain ⟨n, rfl⟩ : ∃ n : Nat, pl = (n : Int) := ⟨pl.toNat, by omega⟩
    have e : cutV (ts.map V.str) (some ((n : Nat) : Int)) (some (((n : Nat) : Int) + (((kd.rem toks).length : Nat) : Int))) = ((ts.drop n).take (kd.rem toks).length).map V.str := by rw [cut_nat, ← List.map_drop, ← List.map_take]
    refine ev_eqTS (a := (ts.drop n).take (kd.rem toks).length) (b := kd.rem toks) (fun G s Q1 q1 => ?_) (fr (Evl.Ex.refl H) rfl) (SqT.of h3) ?_ (rem_all o2)
    · refine (Evl.el_sl (Evl.ev_var rfl) (Evl.eo_some (Evl.ev_var rfl)) (Evl.eo_some (Evl.ev_op (Evl.ev_var rfl) (Evl.ev_is (Evl.ev_cb (Evl.ea_cons (fr (Evl.Ex.refl H) rfl) Evl.ea_nil) (fun H1 s Q q => ⟨rr, _, rfl, .inr (SqT.of (s _ _ h3)), q H1 (Evl.Ex.refl H1)⟩)) (by rw [List.length_map])) Evl.rv_I0)) ht) G s _ fun q G2 nq s2 e2 => ⟨q, _, rfl, .inl ⟨SqL.of e2, fun l hl => ?_⟩⟩
      rw [e]
      exact q1 l _ (Evl.fresh_back s2 hl) (s2.trans (Evl.Ex.new hl)) upd_same
    · refine List.all_eq_true.mpr fun x hx => List.all_eq_true.mp o1 x (List.mem_of_mem_drop (List.mem_of_mem_take hx))
end
end Ss
namespace Ss
open PySem L2
section
variable {P : Program} {w : World} {K : PySem.W.Frag} {mg : Str → Option Value} {base : Heap}
abbrev sSat : Stmt := topS 19
theorem scSat : FnScope ["text", "steps", "tokens", "written", "rule", "place", "own", "more", "at", "slipped", "token"] ["text", "steps"] (defScope sSat) := ⟨rfl, rfl, rfl, by decide +kernel, rfl, by decide +kernel, by decide +kernel⟩
/-- the error of a wrong place, behind H -/
def BadP (Cn : Addr) (H : Hp) (z : Int) (E : XK) : Prop := ∀ (dd : Addr) (fs : List (Str × V)) (H' : Hp), Same H H' → H' dd = some (.xd fs) → fs.lookup ("place" : Str) = some (V.int z) → E (.ref Cn) (some dd) H'
/-- rules at places, as the program gets them -/
def StepsR (K : PySem.W.Frag) (Cf : RK → Addr) (H : Hp) (a : Addr) (rs : RS) : Prop := ∃ xs : List V, SqL K H a xs ∧ xs.length = rs.length ∧ ∀ (i : Nat) (r : (RK × List Str) × Int), rs[i]? = some r → ∃ t p, xs[i]? = some (.ref t) ∧ H t = some (.tup [.ref p, .int r.2]) ∧ RuleAt H (Cf r.1.1) p r.1.1 r.1.2
theorem StepsR.mono {K : PySem.W.Frag} {Cf : RK → Addr} {H H' : Hp} {a : Addr} {rs : RS} (h : StepsR K Cf H a rs) (s : Same H H') : StepsR K Cf H' a rs :=
  let ⟨xs, h1, h2, h3⟩ := h; ⟨xs, Evl.ex_l s h1, h2, fun i r e => let ⟨t, p, e1, e2, e3⟩ := h3 i r e; ⟨t, p, e1, s _ _ e2, e3.mono s⟩⟩
def RsOk (rs : RS) : Prop := ∀ r ∈ rs, r.1.2.length = r.1.1.many ∧ (∀ x ∈ r.1.2, wordOk x) ∧ r.2.natAbs < 10 ^ 30
/-- the tokens of a text -/
def toksOf (z : Str) : List Str := (rn [] z.cps.toList).map mkS
def spSat (K : PySem.W.Frag) (Cn : Addr) (Cf : RK → Addr) : Sp := fun vs H Q E => ∃ (z : Str) (a : Addr) (rs : RS), vs = [.str z, .ref a] ∧ z.length ≤ 100000 ∧ StepsR K Cf H a rs ∧ rs.length ≤ 100 ∧ (toksOf z).length ≤ 1000 ∧ (∀ x ∈ toksOf z, wordOk x) ∧ RsOk rs ∧
  (∀ M, wrAll (toksOf z) (rsP rs) = .inr M → ∀ H', Same H H' → Q (.str (Txt.join " " (wrOut (toksOf z) M))) H') ∧ (∀ p, wrAll (toksOf z) (rsP rs) = .inl p → BadP Cn H p E)
theorem wth_int {K : PySem.W.Frag} {H : Hp} {i : Int} (h : i.natAbs < 10 ^ 30) : Wth K H (.int i) (.int i) := by
  refine ⟨.int i, rfl, rfl, .inl ?_⟩
  show i.natAbs.log2 < 1920
  by_cases z : i.natAbs = 0
  · rw [z]; decide
  · exact (Nat.log2_lt z).mpr (Nat.lt_trans h (by decide))
/-- what the dict of the places that were written holds -/
def WrAt (H : Hp) (kvs : List (L2.Key × V)) (M : Wr) : Prop := ∀ x : Int, match M x with
  | none => valV kvs (.inl x) = none
  | some l => ∃ q, valV kvs (.inl x) = some (.ref q) ∧ H q = some (.tup (l.map V.str))
theorem WrAt.mono {H H' : Hp} {kvs : List (L2.Key × V)} {M : Wr} (h : WrAt H kvs M) (s : Same H H') : WrAt H' kvs M := fun x => by
  have q := h x
  cases e : M x with
  | none => rw [e] at q; exact q
  | some l => rw [e] at q; obtain ⟨a, b, c⟩ := q; exact ⟨a, b, s _ _ c⟩
theorem WrAt.some? {H : Hp} {kvs : List (L2.Key × V)} {M : Wr} (h : WrAt H kvs M) (x : Int) : (valV kvs (.inl x)).isSome = (M x).isSome := by
  have q := h x
  cases e : M x with
  | none => rw [e] at q; rw [show valV kvs (.inl x) = none from q]; rfl
  | some l => rw [e] at q; obtain ⟨a, b, _⟩ := q; rw [b]; rfl
/-- how long what is written is -/
def WrB (M : Wr) : Prop := ∀ x l, M x = some l → l.length ≤ 2 ∧ ∀ y ∈ l, wordOk y
theorem rem_len {k : RK} {toks : List Str} (h : toks.length = k.many) : 1 ≤ (k.rem toks).length ∧ (k.rem toks).length ≤ 2 := by
  match k, toks, h with
  | .out, [a], _ => exact ⟨Nat.le_refl _, by show 1 ≤ 2; decide⟩
  | .twice, [a], _ => exact ⟨Nat.le_refl _, by show 1 ≤ 2; decide⟩
  | .swapped, [a, b], _ => exact ⟨by show 1 ≤ 2; decide, Nat.le_refl _⟩
  | .taken, [a, b], _ => exact ⟨Nat.le_refl _, by show 1 ≤ 2; decide⟩
theorem ins_ok {k : RK} {toks : List Str} (h : toks.length = k.many) (w : ∀ x ∈ toks, wordOk x) : (k.ins toks).length ≤ 2 ∧ ∀ y ∈ k.ins toks, wordOk y := by
  match k, toks, h with
  | .out, [a], _ => exact ⟨by show 0 ≤ 2; decide, fun y hy => by cases hy⟩
  | .twice, [a], _ => exact ⟨Nat.le_refl _, fun y hy => w y (by
      rcases List.mem_cons.mp hy with rfl | hy
      · exact List.mem_singleton.mpr rfl
      · exact hy)⟩
  | .swapped, [a, b], _ => exact ⟨Nat.le_refl _, fun y hy => w y (by
      rcases List.mem_cons.mp hy with rfl | hy
      · exact List.mem_cons_of_mem _ (List.mem_singleton.mpr rfl)
      · rw [List.mem_singleton.mp hy]; exact List.mem_cons_self)⟩
  | .taken, [a, b], _ => exact ⟨by show 1 ≤ 2; decide, fun y hy => w y (by rw [List.mem_singleton.mp hy]; exact List.mem_cons_of_mem _ (List.mem_singleton.mpr rfl))⟩
theorem wrNext_b {M : Wr} {rem ins : List Str} {pl : Int} (h : WrB M) (hi : ins.length ≤ 2 ∧ ∀ y ∈ ins, wordOk y) : WrB (wrNext M rem ins pl) := fun x l e => by
  unfold wrNext at e
  split at e
  · cases e; exact hi
  · split at e
    · cases e; exact ⟨by decide, fun y hy => by cases hy⟩
    · exact h x l e
theorem ev_any {K : PySem.W.Frag} {σ : L2.St} {H : Hp} {te : TE} {bs : List Bool} (h : Evl.EvL te σ H (bs.map V.bl)) : Evl.Ev (tCB (rAny K) (tCons te tNil)) σ H (.bl (bs.any id)) := fun H1 s Q q => h H1 s _ fun p H2 np s2 h2 => ⟨p, bs, rfl, SqL.of h2, q H2 s2⟩
theorem wrOut_len {M : Wr} {ts : List Str} (h : WrB M) (n : Nat) : ((List.range n).map fun (n : Nat) => (M (n : Int)).getD [ts.getD n Str.empty]).flatten.length ≤ 2 * n := by
  induction n with
  | zero => exact Nat.le_refl _
  | succ n ih =>
    rw [List.range_succ, List.map_append, List.flatten_append, List.length_append]
    have : ([n].map fun (n : Nat) => (M (n : Int)).getD [ts.getD n Str.empty]).flatten.length ≤ 2 := by
      simp only [List.map_cons, List.map_nil, List.flatten_cons, List.flatten_nil, List.append_nil]
      cases e : M (n : Int) with
      | none => show 1 ≤ 2; decide
      | some l => exact (h _ _ e).1
    omega
theorem ok_sat {Cn R : Addr} {Cf : RK → Addr} (F : DefAt K mg "slipped_at" sSat) (T : G0 mg) (nany : mg "any" = none) (Z : RTab K mg Cf R) (Dtoks : Dk P w K mg base CX0 2 "tokens_of" ["text"] spRuns) (Dst : ∀ kd, Mm P w K mg base CX0 (Cf kd) 1 "stands" ["self", "tokens", "place"] (spStands K Cf))
    (DNoPlace : EDef P w K mg base 3 "NoPlace" Cn "ValueError.__init__" ["self", "place"] (spErr K Cn ["place"] 1)) : Dk P w K mg base (L2.CX P w) 6 "slipped_at" ["text", "steps"] (spSat K Cn Cf) := by
  obtain ⟨f, fd, F, mf⟩ := F.ex
  refine ⟨f, fd, F.okX scSat (fun vs H Q E h => ?_) (fun cdv A outer s H vs Q E hr h => ?_), mf, F.kp, F.binds fun _ _ _ _ _ _ us hl => match us, hl with | [_, _], _ => rfl⟩
  · obtain ⟨z, a, rs, rfl, _⟩ := h; rfl
  · obtain ⟨z, a, rs, rfl, hz, hS, hn, ht, hw, hok, k1, k2⟩ := h
    refine ⟨_, (pss_cons (ps_set (i := 2) scSat.nd rfl (Or.inl rfl) (pe_cd Dtoks hr pass0 (pa_cons (pv 0) pa_nil))) (pss_cons (ps_set (i := 3) scSat.nd rfl (Or.inr rfl) pe_dnewK) (pss_cons (ps_for (passes_of rfl) rfl (pi_list (pv 1)) (pg_tup (by rfl) (pgs_cons (pg_name (i := 4) scSat.nd rfl (.inl rfl)) (pgs_cons (pg_name (i := 5) scSat.nd rfl (.inr rfl)) pgs_nil))) (pss_cons (ps_setLc (i := 6) (own := [("more", 7)]) (g := gName 7)  rfl scSat.nd rfl rfl (sw_true rfl rfl rfl (by decide +kernel)) (pi_range1 (by rfl) T.range (pa_cons (pe_callB call_len_seq (by rfl) T.len (by decide +kernel) (pa_cons (pe_fld (pv 4) rfl) pa_nil)) pa_nil)) (blkOk_by (N := ["text", "steps", "tokens", "written", "rule", "place", "own", "more", "at", "slipped", "token"]) (sc := defScope sSat) (by decide +kernel)) (fun _ _ _ _ _ => (pg_name (i := 7) scSat.nd rfl (.inl rfl))) (fun _ _ _ _ _ => pts_nil) (fun _ _ _ _ _ => (pe_op op_add (pv 5) (pv 7)))) (pss_cons (ps_if (PW.pt (pw_or (pt_not (pt_val (pe_mdF (pv 4) (fun k => (Z.cl k).cl) Dst hr pass0 (pa_cons (pv 2) (pa_cons (pv 5) pa_nil))))) (pw_or1 (pt_val (pe_callB (cr_any rfl) (by rfl) nany (by decide +kernel) (pa_cons (pe_lc (own := [("at", 8)]) (g := gName 8) rfl scSat.nd (pi_list (pv 6)) (blkOk_by (N := ["text", "steps", "tokens", "written", "rule", "place", "own", "more", "at", "slipped", "token"]) (sc := defScope sSat) (by decide +kernel)) (fun _ _ _ _ _ => (pg_name (i := 8) scSat.nd rfl (.inl rfl))) (fun _ _ _ _ _ => pts_nil) (fun _ _ _ _ _ => (pe_cmp (pc_din (Room.u1 hr) (pv 8) (pv 3)) rfl))) pa_nil)))))) (pss_one (ps_raise rfl (takes_of rfl rfl rfl rfl) (pmk_ec (n := 1) DNoPlace hr (pa_cons (pv 5) pa_nil) rfl (by decide)))) pss_nil) (pss_cons (ps_expr (pe_dupd (pv 3) (pe_dc (own := [("at", 8)]) (g := gName 8) rfl scSat.nd (pi_list (pv 6)) (blkOk_by (N := ["text", "steps", "tokens", "written", "rule", "place", "own", "more", "at", "slipped", "token"]) (sc := defScope sSat) (by decide +kernel)) (fun _ _ _ _ _ => (pg_name (i := 8) scSat.nd rfl (.inl rfl))) (fun _ _ _ _ _ => pts_nil) (fun _ _ _ _ _ => (pv 8)) (fun _ _ _ _ _ => (pe_tup pa_nil))) ⟨rfl, rfl, rfl, rfl⟩)) (pss_one (ps_dput (Room.u1 hr) (pv 3) (pv 5) (pe_fld (pv 4) rfl) rfl)))))) (pss_cons (ps_set (i := 9) scSat.nd rfl (Or.inl rfl) (pe_lst pa_nil)) (pss_cons (ps_for (passes_of rfl) rfl (pi_enum (by rfl) T.enumerate (pa_cons (pv 2) pa_nil)) (pg_tup (by rfl) (pgs_cons (pg_name (i := 8) scSat.nd rfl (.inl rfl)) (pgs_cons (pg_name (i := 10) scSat.nd rfl (.inl rfl)) pgs_nil))) (pss_one (ps_expr (pe_bm PySem.F.plainAttrs_list PySem.F.slot_list_extend PySem.F.type_list_extend mt_extT (pv 9) (pa_cons (pe_dget2 (Room.u1 hr) (pv 3) (pv 8) (pe_tup (pa_cons (pv 10) pa_nil)) ⟨rfl, rfl, rfl, rfl⟩) pa_nil))))) (pss_one (ps_ret (pe_bm PySem.F.plainAttrs_str PySem.F.slot_str_join PySem.F.type_str_join mt_join pe_str (pa_cons (pv 9) pa_nil))))))))), ?_⟩
    refine ⟨_, rfl, z, rfl, by omega, fun tk H1 ntk s1 e1 => ?_⟩
    rw [map_mk] at e1
    have e1 : H1 tk = some (.lst ((toksOf z).map V.str)) := e1
    generalize htz : toksOf z = ts at *
    intro wd hwd
    have nwd : tk ≠ wd := ne_of_none e1 hwd
    have s2 : Same H1 (upd H1 wd (.dK [])) := Same.new (Same.refl H1) hwd
    have e2 : upd H1 wd (.dK []) wd = some (.dK []) := upd_same
    generalize upd H1 wd (.dK []) = H2 at s2 e2
    obtain ⟨xs, hx, lx, hxs⟩ := hS
    have sL : (100000 : Nat) ≤ sizeLine := by decide
    have okT : ts.all okS = true := List.all_eq_true.mpr fun x hx => okS_word (hw x hx)
    refine Evl.q_forL (Evl.ev_var rfl) (Evl.ex_l (s1.trans s2) hx) (fun i σ' G => ∃ (M : Wr) (kvs : List (L2.Key × V)) (y4 y5 y6 y8 : Option V), σ' = [some (.str z), some (.ref a), some (.ref tk), some (.ref wd), y4, y5, y6, none, y8, none, none] ∧ wrAll ts (rsP (rs.take i)) = .inr M ∧ WrAt G kvs M ∧ WrB M ∧ G wd = some (.dK kvs) ∧ kvs.length ≤ 3 * i ∧ Same H1 G)
      (fun G s => ⟨fun _ => none, [], none, none, none, none, rfl, rfl, fun x => rfl, (fun x l e => nomatch e), s _ _ e2, Nat.le_refl _, s2.trans s⟩) (fun i σ' G _ h => by
        obtain ⟨_, _, _, _, _, _, _, _, _, _, _, _, sG⟩ := h
        exact Evl.ex_l (s1.trans sG) hx) ?_ ?_
    · rintro i x _ G hi ⟨M, kvs, y4, y5, y6, y8, rfl, hM, hA, hB, hwG, hkl, sG⟩
      have lt : i < rs.length := by rw [← lx]; exact (List.getElem?_eq_some_iff.mp hi).1
      obtain ⟨r, hr'⟩ : ∃ r, rs[i]? = some r := ⟨_, List.getElem?_eq_getElem lt⟩
      obtain ⟨⟨kd, toks⟩, pl⟩ := r
      obtain ⟨t, p, ex, et, hR⟩ := hxs i _ hr'
      obtain rfl : x = .ref t := by rw [ex] at hi; cases hi; rfl
      obtain ⟨ltk, wtk, lpl⟩ := hok _ (List.mem_of_getElem? hr')
      dsimp only at et hR ltk wtk lpl
      have sHG := s1.trans sG
      have okK : toks.all okS = true := okS_words wtk
      have lm := rem_len ltk
      have hP : (rsP rs)[i]? = some ((kd.rem toks, kd.ins toks), pl) := by unfold rsP; rw [List.getElem?_map, hr']; rfl
      have hstep : wrAll ts (rsP (rs.take (i + 1))) = if standsP ts (kd.rem toks) pl && freeP M (kd.rem toks) pl then .inr (wrNext M (kd.rem toks) (kd.ins toks) pl) else .inl pl := by
        have q := wr_succ (ts := ts) hP
        unfold rsP at q hM ⊢
        rw [List.map_take] at hM ⊢
        rw [q, hM]; rfl
      refine ⟨t, _, rfl, SqT.of (sHG _ _ et), rfl, _, _, rfl, _, _, rfl, rfl, ?_⟩
      -- own
      obtain ⟨dx, tt, rr, ii, g1, g2, g3, g4⟩ := id (hR.mono sHG)
      have c := Z.cl kd
      have frem : ∀ {G' : Hp} {σ : L2.St}, Same G G' → σ[4]? = some (some (.ref p)) → Evl.Ev (tFld K (tVar 4) "removed") σ G' (.ref rr) := fun s h G1 s1 Q1 q1 => ⟨_, h, p, Cf kd, dx, _, _, rfl, s1 _ _ (s _ _ g1), c.cl, c.r, rfl, q1 G1 (Evl.Ex.refl G1)⟩
      let ow : List Int := (List.range (kd.rem toks).length).map fun (n : Nat) => pl + (n : Int)
      have how : ow.length = (kd.rem toks).length := by simp [ow]
      have eown : Evl.given (((kd.rem toks).length : Nat) : Int).toNat (fun _ => true) (fun (n : Nat) => V.int (pl + (n : Int))) = ow.map V.int := by
        unfold Evl.given
        rw [List.filter_eq_self.mpr (fun _ _ => rfl), Int.toNat_natCast, List.map_map]; rfl
      refine Evl.q_asgL (xs := ow.map V.int) ?_ fun o G2 no sg2 eo => ?_
      · rw [← eown]
        refine Evl.el_lcR1 (n := (((kd.rem toks).length : Nat) : Int)) (fun _ => true) (fun (n : Nat) => V.int (pl + (n : Int))) (Evl.ea_cons (Evl.ev_is (Evl.ev_cb (Evl.ea_cons (frem (Evl.Ex.refl G) rfl) Evl.ea_nil) (fun H1 s Q q => ⟨rr, _, rfl, .inr (SqT.of (s _ _ g3)), q H1 (Evl.Ex.refl H1)⟩)) (by rw [List.length_map])) Evl.ea_nil) (by omega) (fun _ => rfl) (fun n G' s _ => fun H1 s1 Q q => q H1 (Evl.Ex.refl H1)) (fun n G' s _ _ => Evl.ev_op (Evl.ev_var rfl) (Evl.ev_var rfl) Evl.rv_I0)
      have now : wd ≠ o := ne_of_none hwG no
      have hR2 := hR.mono (sHG.trans sg2)
      have hA2 := hA.mono sg2
      have hw2 := sg2 _ _ hwG
      have htk : ∀ {G' : Hp}, Same G2 G' → SqL K G' tk (ts.map V.str) := fun s => SqL.of (s _ _ (sg2 _ _ (sG _ _ e1)))
      -- the test
      have evS : Evl.Ev (tMethF Cf "stands" (spStands K Cf) E0 (tVar 4) (tCons (tVar 2) (tCons (tVar 5) tNil))) [some (.str z), some (.ref a), some (.ref tk), some (.ref wd), some (.ref p), some (.int pl), some (.ref o), none, y8, none, none] G2 (.bl (standsP ts (kd.rem toks) pl)) := fun G3 s3 Q3 q3 => by
        obtain ⟨dx', tt', rr', ii', f1, f2, f3, f4⟩ := id (hR2.mono s3)
        exact ⟨kd, _, rfl, p, dx', _, rfl, f1, rfl, _, rfl, _, rfl, p, tk, pl, kd, toks, ts, rfl, hR2.mono s3, htk s3, okT, okK, fun G4 s4 => q3 G4 s4⟩
      have evA : Evl.Ev (tCB (rAny K) (tCons (tLc (iList K (tVar 6)) (gName 8) tYes (tDIn (tVar 8) (tVar 3)) [8]) tNil)) [some (.str z), some (.ref a), some (.ref tk), some (.ref wd), some (.ref p), some (.int pl), some (.ref o), none, y8, none, none] G2 (.bl (!freeP M (kd.rem toks) pl)) := by
        have eb : Evl.given (ow.map V.int).length (fun _ => true) (fun (n : Nat) => V.bl (M (pl + (n : Int))).isSome) = (((List.range (kd.rem toks).length).map fun (n : Nat) => (M (pl + (n : Int))).isSome)).map V.bl := by
          unfold Evl.given
          rw [List.filter_eq_self.mpr (fun _ _ => rfl), List.length_map, how, List.map_map]; rfl
        have ef : ((List.range (kd.rem toks).length).map fun (n : Nat) => (M (pl + (n : Int))).isSome).any id = !freeP M (kd.rem toks) pl := by
          unfold freeP
          rw [List.any_map, List.not_all_eq_any_not]
          congr 1
          funext n
          simp
        rw [← ef]
        refine ev_any ?_
        rw [← eb]
        refine Evl.el_lcL (fun _ => true) _ (Evl.ev_var rfl) (SqL.of eo) (by rw [List.length_map, how]; omega) (fun _ => rfl) ?_ ?_
        · exact fun n x G' s hx H1 s1 Q q => q H1 (Evl.Ex.refl H1)
        · intro n x G' s hx _
          rw [List.getElem?_map] at hx
          obtain ⟨y, hy, rfl⟩ : ∃ y, ow[n]? = some y ∧ x = V.int y := by
            cases e : ow[n]? with
            | none => rw [e] at hx; cases hx
            | some y => rw [e] at hx; cases hx; exact ⟨y, rfl, rfl⟩
          have hy : y = pl + (n : Int) := by
            have := (List.getElem?_eq_some_iff.mp hy).2
            simp only [ow, List.getElem_map, List.getElem_range] at this
            exact this.symm
          subst hy
          intro H5 s5 Q5 q5
          refine ⟨_, rfl, _, rfl, wd, _, rfl, DGet.k (k := .inl (pl + (n : Int))) ((s.trans s5) _ _ hw2), ?_⟩
          rw [(hA2.mono (s.trans s5)).some?]
          exact q5 H5 (Evl.Ex.refl H5)
      have ebad : ¬ (standsP ts (kd.rem toks) pl && freeP M (kd.rem toks) pl) = true → wrAll ts (rsP rs) = .inl pl := fun c => by
        rw [if_neg c] at hstep
        unfold rsP at hstep ⊢
        rw [List.map_take] at hstep
        exact wr_take hstep
      refine Evl.q_when (b := !(standsP ts (kd.rem toks) pl && freeP M (kd.rem toks) pl)) (Evl.et_is (Evl.et_or (Evl.et_not (Evl.et_B evS)) fun _ => Evl.et_B evA) (by rw [Bool.not_and])) (fun c G3 s3 => ?_) (fun c G3 s3 => ?_)
      · have c : ¬ (standsP ts (kd.rem toks) pl && freeP M (kd.rem toks) pl) = true := by
          intro z; rw [z] at c; cases c
        refine emkr_one (i := 5) rfl (wth_int lpl) fun dd fs v' H' s h1 h2 h3 => ?_
        cases h3
        exact k2 pl (ebad c) dd fs H' ((sHG.trans sg2).trans (s3.trans s)) h1 h2
      have c : (standsP ts (kd.rem toks) pl && freeP M (kd.rem toks) pl) = true := by
        cases e : (standsP ts (kd.rem toks) pl && freeP M (kd.rem toks) pl) with
        | true => rfl
        | false => rw [e] at c; cases c
      rw [if_pos c] at hstep
      -- written.update(..)
      refine ⟨_, rfl, wd, rfl, .inl ⟨kvs, .inl (s3 _ _ hw2)⟩, ?_⟩
      refine ed_blank (o := o) (ns := ow) (Evl.ev_var rfl) (SqL.of (s3 _ _ eo)) (by rw [how]; omega) (fun _ => rfl) (fun _ => rfl) G3 (Evl.Ex.refl G3) _ fun D ls G4 nD s4 eD lD hBl => ?_
      have s34 := s3.trans s4
      have nwD : wd ≠ D := ne_of_none (s3 _ _ hw2) nD
      refine ⟨D, kvs, ls, rfl, s34 _ _ hw2, eD, nwD, by rw [how] at lD; exact Nat.le_trans (show _ ≤ 1000 by omega) (by decide), ?_⟩
      -- written[place] = rule.inserted
      have hR4 := hR2.mono s34
      obtain ⟨dx', tt', rr', ii', f1, f2, f3, f4⟩ := id hR4
      have np : ∀ {b : Addr} {ob : HO}, G4 b = some ob → (∀ ks, ob ≠ .dK ks) → b ≠ wd := fun hb hne e => by subst e; rw [s34 _ _ hw2] at hb; cases hb; exact hne _ rfl
      refine ⟨_, rfl, p, Cf kd, dx', _, _, rfl, by rw [upd_ne (np f1 fun _ e => nomatch e)]; exact f1, (Z.cl kd).cl, (Z.cl kd).i, rfl, _, rfl, _, rfl, wd, _, rfl, DPut.k (k := .inl pl) upd_same (Nat.lt_of_le_of_lt (length_mergeK ls kvs) (Nat.lt_of_le_of_lt (show _ ≤ 1000 by rw [how] at lD; omega) (by decide))), ?_⟩
      have sEnd : Same H1 (upd (upd G4 wd (.dK (mergeK kvs ls))) wd (.dK (putK (mergeK kvs ls) (.inl pl) (.ref ii')))) := fun b ob hb => by
        have nb := ne_of_none hb hwd
        rw [upd_ne nb, upd_ne nb]
        exact s34 _ _ (sg2 _ _ (sG _ _ hb))
      refine ⟨_, _, _, _, _, _, rfl, hstep, fun x => ?_, wrNext_b hB (ins_ok ltk wtk), upd_same, Nat.le_trans (length_putK _ _ _) (by have := length_mergeK ls kvs; rw [how] at lD; omega), sEnd⟩
      have tup : ∀ {q : Addr} {l : List V}, G4 q = some (.tup l) → upd (upd G4 wd (.dK (mergeK kvs ls))) wd (.dK (putK (mergeK kvs ls) (.inl pl) (.ref ii'))) q = some (.tup l) := fun h => by
        have nb := np h fun _ e => nomatch e
        rw [upd_ne nb, upd_ne nb]; exact h
      rw [valV_put]
      unfold wrNext
      by_cases e : x = pl
      · rw [if_pos e]
        subst e
        exact ⟨ii', by rw [if_pos rfl], tup f4⟩
      · rw [if_neg e]
        have ne : ¬ (Sum.inl x : L2.Key) = .inl pl := fun z => e (by injection z)
        by_cases c2 : pl ≤ x ∧ x < pl + ((kd.rem toks).length : Nat)
        · rw [if_pos c2]
          have hin : x ∈ ow := List.mem_map.mpr ⟨(x - pl).toNat, List.mem_range.mpr (by omega), by omega⟩
          rcases merge_val (j := .inl x) ls kvs with ⟨v, m1, m2⟩ | ⟨m1, _⟩
          · obtain ⟨x', q, e1', _, e3⟩ := hBl.1 _ m1
            have e1' := (Prod.mk.inj e1').2
            subst e1'
            exact ⟨q, by rw [if_neg ne]; exact m2, tup e3⟩
          · obtain ⟨v, hv⟩ := hBl.2 x hin
            exact absurd hv (m1 v)
        · rw [if_neg c2]
          rcases merge_val (j := .inl x) ls kvs with ⟨v, m1, m2⟩ | ⟨_, m2⟩
          · obtain ⟨x', q, e1', e2', _⟩ := hBl.1 _ m1
            have e1' := (Prod.mk.inj e1').1
            injection e1' with e1'
            subst e1'
            obtain ⟨n, hn1, hn2⟩ := List.mem_map.mp e2'
            have := List.mem_range.mp hn1
            exact absurd ⟨by omega, by omega⟩ c2
          · have q := hA2 x
            cases eM : M x with
            | none => rw [eM] at q; show (if _ then _ else _) = _; rw [if_neg ne, m2]; exact q
            | some l => rw [eM] at q; obtain ⟨q0, q1, q2⟩ := q; exact ⟨q0, by rw [if_neg ne, m2]; exact q1, tup (s34 _ _ q2)⟩
    · rintro _ G ⟨M, kvs, y4, y5, y6, y8, rfl, hM, hA, hB, hwG, hkl, sG⟩
      rw [lx, List.take_length] at hM
      refine Evl.q_asgL (Evl.el_lst Evl.ea_nil (by decide)) fun sl G2 nsl sg2 esl => ?_
      have tkG := fun {G' : Hp} (s : Same G2 G') => s _ _ (sg2 _ _ (sG _ _ e1))
      refine ⟨_, rfl, tk, _, rfl, SqL.of (tkG (Same.refl G2)), for_it (walk_enum (xs := ts.map V.str)) (fun i σ H' => ∃ y8' y10, σ = [some (.str z), some (.ref a), some (.ref tk), some (.ref wd), y4, y5, y6, none, y8', some (.ref sl), y10] ∧ H' sl = some (.lst ((((List.range i).map fun (n : Nat) => (M (n : Int)).getD [ts.getD n Str.empty]).flatten).map V.str)) ∧ Same G H')
        ⟨_, _, rfl, esl, sg2⟩ (fun i σ H' _ h => by
          obtain ⟨_, _, _, _, s⟩ := h
          exact SqL.of (s _ _ (sG _ _ e1))) ?_ ?_⟩
      · rintro i x σ K1 K2 hi ⟨y8', y10, rfl, hsl, sK⟩ ⟨t0, x1, x2, rfl, ht0, rfl, ex1, ex2⟩
        rw [List.length_map] at hi
        cases ex1
        obtain ⟨tok, etok, rfl⟩ : ∃ t, ts[i]? = some t ∧ x2 = V.str t := by
          have ex2 : (ts.map V.str)[i]? = some x2 := ex2
          rw [List.getElem?_map] at ex2
          cases e : ts[i]? with
          | none => rw [e] at ex2; cases ex2
          | some y => rw [e] at ex2; cases ex2; exact ⟨y, rfl, rfl⟩
        refine ⟨t0, _, rfl, SqT.of upd_same, rfl, _, _, rfl, _, _, rfl, rfl, ?_⟩
        have nsl0 : sl ≠ t0 := ne_of_none hsl ht0
        have sK2 : Same G (upd K1 t0 (.tup [.int (i : Nat), .str tok])) := sK.trans (Same.new (Same.refl K1) ht0)
        have hsl2 : upd K1 t0 (.tup [.int (i : Nat), .str tok]) sl = some (.lst ((((List.range i).map fun (n : Nat) => (M (n : Int)).getD [ts.getD n Str.empty]).flatten).map V.str)) := by rw [upd_ne nsl0]; exact hsl
        generalize upd K1 t0 (.tup [.int (i : Nat), .str tok]) = K3 at sK2 hsl2
        refine ⟨_, rfl, .inl ⟨rfl, _, SqL.of hsl2⟩, _, rfl, wd, rfl, .inl ⟨kvs, .inl (sK2 _ _ hwG)⟩, _, rfl, _, rfl, by show 1 ≤ sizeLine; decide, fun t1 ht1 => ?_⟩
        have nsl1 : sl ≠ t1 := ne_of_none hsl2 ht1
        have sK4 : Same G (upd K3 t1 (.tup [.str tok])) := sK2.trans (Same.new (Same.refl K3) ht1)
        refine ⟨_, DGet.k (k := .inl (i : Int)) (sK4 _ _ hwG), ?_⟩
        have egd : ts.getD i Str.empty = tok := by rw [List.getD_eq_getElem?_getD, etok]; rfl
        have fin : ∀ (q : Addr) (l : List Str), upd K3 t1 (.tup [.str tok]) q = some (.tup (l.map V.str)) → l = (M (i : Int)).getD [ts.getD i Str.empty] → l.length ≤ 2 → (valV kvs (.inl (i : Int))).getD (.ref t1) = .ref q → rExtT K (.ref sl) [(valV kvs (.inl (i : Int))).getD (.ref t1)] (upd K3 t1 (.tup [.str tok])) (fun _ H1 => ∃ y8' y10, ([some (.str z), some (.ref a), some (.ref tk), some (.ref wd), y4, y5, y6, none, some (.int (i : Nat)), some (.ref sl), some (.str tok)] : L2.St) = [some (.str z), some (.ref a), some (.ref tk), some (.ref wd), y4, y5, y6, none, y8', some (.ref sl), y10] ∧ H1 sl = some (.lst ((((List.range (i + 1)).map fun (n : Nat) => (M (n : Int)).getD [ts.getD n Str.empty]).flatten).map V.str)) ∧ Same G H1) := fun q l hq hl hl2 hv => by
          refine ⟨sl, q, _, l.map V.str, rfl, by rw [hv], by rw [upd_ne nsl1]; exact hsl2, hq, (by have := wrOut_len (ts := ts) hB i; rw [List.length_map, List.length_map]; omega), _, _, rfl, ?_, fun b ob hb => ?_⟩
          · rw [upd_same, List.range_succ, List.map_append, List.flatten_append, List.map_append, hl]
            simp
          · have nb : b ≠ sl := ne_of_none hb nsl
            rw [upd_ne nb]; exact sK4 _ _ hb
        have q := hA (i : Int)
        cases eM : M (i : Int) with
        | none =>
          rw [eM] at q
          have q : valV kvs (.inl (i : Int)) = none := q
          refine fin t1 [tok] upd_same (by rw [eM, egd]; rfl) (by show 1 ≤ 2; decide) (by rw [q]; rfl)
        | some l =>
          rw [eM] at q
          obtain ⟨q0, q1, q2⟩ := q
          exact fin q0 l (sK4 _ _ q2) (by rw [eM]; rfl) (hB _ _ eM).1 (by rw [q1]; rfl)
      · rintro _ K1 ⟨y8', y10, rfl, hsl, sK⟩
        rw [List.length_map] at hsl
        have wo : ∀ y ∈ wrOut ts M, wordOk y := fun y hy => by
          unfold wrOut at hy
          obtain ⟨l, hl, hy⟩ := List.mem_flatten.mp hy
          obtain ⟨n, hn', rfl⟩ := List.mem_map.mp hl
          have hn' := List.mem_range.mp hn'
          cases eM : M (n : Int) with
          | none =>
            rw [eM] at hy
            rw [List.mem_singleton.mp (show y ∈ [ts.getD n Str.empty] from hy), List.getD_eq_getElem?_getD, List.getElem?_eq_getElem hn']
            exact hw _ (List.getElem_mem hn')
          | some l => rw [eM] at hy; exact (hB _ _ eM).2 y hy
        have lo : (wrOut ts M).length ≤ 100000 := by
          unfold wrOut
          have b : ∀ (n : Nat), ((((List.range n).map fun (n : Nat) => (M (n : Int)).getD [ts.getD n Str.empty]).flatten)).length ≤ 2 * n := wrOut_len hB
          have := b ts.length
          omega
        refine ⟨rfl, _, rfl, " ", sl, wrOut ts M, rfl, rfl, .inl (SqL.of hsl), joinB wo lo, ?_⟩
        exact k1 M hM K1 ((s1.trans sG).trans sK)
end
end Ss
namespace Ss
open PySem L2
section
variable {P : Program} {w : World} {K : PySem.W.Frag} {mg : Str → Option Value} {base : Heap}
abbrev sTold : Stmt := topS 33
theorem scTold : FnScope ["text", "steps", "wrong"] ["text", "steps"] (defScope sTold) := ⟨rfl, rfl, rfl, by decide +kernel, rfl, by decide +kernel, by decide +kernel⟩
/-- the body of the try, its suite -/
def tbT (K : PySem.W.Frag) (Cn : Addr) (Cf : RK → Addr) (W : WX) : TS := tRet (tCallS (spSat K Cn Cf) (WE W) (tCons (tVar 0) (tCons (tVar 1) tNil)))
def tsT (Cn : Addr) (a : Addr) (cls : Value) (d : Option Addr) : TS := tRet (tTup (tCons (tC (.str "no")) (tCons (tXf a cls d Cn "place" (tVar 2)) tNil)))
/-- the text, or the place that was refused -/
def spTold (K : PySem.W.Frag) (Cf : RK → Addr) : Sp := fun vs H Q _ => ∃ (z : Str) (a : Addr) (rs : RS), vs = [.str z, .ref a] ∧ z.length ≤ 100000 ∧ StepsR K Cf H a rs ∧ rs.length ≤ 100 ∧ (toksOf z).length ≤ 1000 ∧ (∀ x ∈ toksOf z, wordOk x) ∧ RsOk rs ∧
  (∀ M, wrAll (toksOf z) (rsP rs) = .inr M → ∀ H', Same H H' → Q (.str (Txt.join " " (wrOut (toksOf z) M))) H') ∧ (∀ p, wrAll (toksOf z) (rsP rs) = .inl p → ∀ (q : Addr) (H' : Hp), Same H H' → H' q = some (.tup [.str "no", .int p]) → Q (.ref q) H')
theorem ok_told {Cn : Addr} {Cf : RK → Addr} (F : DefAt K mg "_law_told" sTold) (DR : Dk P w K mg base (L2.CX P w) 6 "slipped_at" ["text", "steps"] (spSat K Cn Cf)) (gB : mg "NoPlace" = some (.ref Cn))
    (ec : EC K Cn "ValueError.__init__") (no : PySem.W.findIn K (.ref Cn) "place" = some none) (ex : PySem.W.exmOne K (.ref Cn) (.ref Cn) = some true) :
    Dk P w K mg base CX0 7 "_law_told" ["text", "steps"] (spTold K Cf) := by
  obtain ⟨f, fd, F, mf⟩ := F.ex
  refine ⟨f, fd, F.ok scTold (fun vs H Q E h => ?_) (fun cdv A outer s H vs Q E hr h => ?_), mf, F.kp, F.binds fun _ _ _ _ _ _ us hl => match us, hl with | [_, _], _ => rfl⟩
  · obtain ⟨z, a, rs, rfl, _⟩ := h; rfl
  · obtain ⟨z, a, rs, rfl, hz, hS, hn, ht, hw, hok, k1, k2⟩ := h
    obtain ⟨fR, fdR, FR, mR, kpR, bR⟩ := DR.ex
    refine ⟨_, pss_one (ps_try_as (i := 2) (tb := tbT K Cn Cf) (ts := tsT Cn) (Wout := fun _ _ _ _ => False) rfl rfl scTold.nd rfl rfl ⟨rfl, by decide, .inl gB⟩ takes0
        (fun W pn xe tk _ => pss_one (ps_ret (pe_callS FR hr rfl mR kpR bR (fun σ => passAt tk σ) (pa_cons (pv 0) (pa_cons (pv 1) pa_nil)))))
        (fun a oe cls d pn hz hf => pss_one (ps_ret (pe_tup (pa_cons pe_str (pa_cons (pe_xf ec.xf no hz hf (pv 2)) pa_nil)))))), ?_⟩
    refine ⟨_, rfl, _, rfl, z, a, rs, rfl, hz, hS, hn, ht, hw, hok, fun M hM H' s => k1 M hM H' s, fun p hp => ?_⟩
    intro dd fs H' s1 h1 h2
    refine ⟨true, ex, fun _ a ha => ?_, fun z => Bool.noConfusion z⟩
    refine ⟨_, rfl, rfl, rfl, dd, fs, _, rfl, ?_, h2, ?_⟩
    · exact h1
    · exact ⟨by show 2 ≤ sizeLine; decide, fun q hq => k2 p hp q _ (Same.new s1 hq) upd_same⟩
def spFlat (K : PySem.W.Frag) : Sp := fun vs H Q _ => ∃ (a : Addr) (rs : List V) (ls : List (List Str)), vs = [.ref a] ∧ SqL K H a rs ∧ rs.length = ls.length ∧ (∀ (i : Nat) (l : List Str), ls[i]? = some l → ∃ q, rs[i]? = some (.ref q) ∧ H q = some (.lst (l.map V.str))) ∧ ls.length ≤ 1000 ∧ (∀ l ∈ ls, l.length ≤ 10) ∧
  ∀ (p : Addr) (H' : Hp), H p = none → Same H H' → H' p = some (.lst (ls.flatten.map V.str)) → Q (.ref p) H'
theorem flat_lenW : ∀ {ls : List (List Str)}, (∀ l ∈ ls, l.length ≤ 10) → ls.flatten.length ≤ 10 * ls.length
  | [], _ => Nat.le_refl _
  | l :: ls, h => by
    have h1 := h l List.mem_cons_self
    have h2 := flat_lenW (ls := ls) fun x hx => h x (List.mem_cons_of_mem _ hx)
    rw [List.flatten_cons, List.length_append, List.length_cons]
    omega
abbrev sFlat : Stmt := topS 34
theorem scFlat : FnScope ["rows", "found", "row"] ["rows"] (defScope sFlat) := ⟨rfl, rfl, rfl, by decide +kernel, rfl, by decide +kernel, by decide +kernel⟩
theorem ok_flat (F : DefAt K mg "_law_flat" sFlat) (T : G0 mg) : Dk P w K mg base CX0 1 "_law_flat" ["rows"] (spFlat K) := by
  obtain ⟨f, fd, F, mf⟩ := F.ex
  refine ⟨f, fd, F.ok scFlat (fun vs H Q E h => ?_) (fun cdv A outer s H vs Q E hr h => ?_), mf, F.kp, F.binds fun _ _ _ _ _ _ us hl => match us, hl with | [_], _ => rfl⟩
  · obtain ⟨a, rs, ls, rfl, _⟩ := h; rfl
  · obtain ⟨a, rs, ls, rfl, hS, hl, hr', hn, h10, k⟩ := h
    refine ⟨_, (pss_cons (ps_set (i := 1) scFlat.nd rfl (Or.inl rfl) (pe_lst pa_nil)) (pss_cons (ps_for PassesOwn.never rfl (pi_list (pv 0)) (pg_name (i := 2) scFlat.nd rfl (.inl rfl)) (pss_one (ps_set (i := 1) scFlat.nd rfl (Or.inl rfl) (pe_op op_cat (pv 1) (pv 2))))) (pss_one (ps_ret (pv 1))))), ?_⟩
    refine Evl.q_asgL (Evl.el_lst Evl.ea_nil (Nat.zero_le _)) fun p H1 np s1 e1 => ?_
    refine Evl.q_forLn (Evl.ev_var rfl) (Evl.ex_l s1 hS) (fun i σ' G => ∃ (q : Addr) (v2 : Option V), σ' = [some (.ref a), some (.ref q), v2] ∧ H q = none ∧ G q = some (.lst (((ls.take i).flatten).map V.str)) ∧ Same H G)
      (fun G s => ⟨p, none, rfl, np, s _ _ e1, s1.trans s⟩) (fun i σ' G _ h => by obtain ⟨_, _, _, _, _, s⟩ := h; exact Evl.ex_l s hS) ?_ ?_
    · rintro i x _ G hi ⟨q, v2, rfl, nq, hq, sG⟩
      have lt : i < ls.length := by rw [← hl]; exact (List.getElem?_eq_some_iff.mp hi).1
      obtain ⟨y, ex, ey⟩ := hr' i _ (List.getElem?_eq_getElem lt)
      obtain rfl : x = .ref y := by rw [ex] at hi; cases hi; rfl
      have lf : ∀ n, ((ls.take n).flatten).length ≤ 10 * n := fun n => by
        have := flat_lenW (ls := ls.take n) fun l h => h10 l (List.mem_of_mem_take h)
        have := List.length_take_le n ls
        omega
      refine ⟨_, rfl, _, rfl, q, y, _, _, rfl, rfl, hq, sG _ _ ey, ?_, fun r hr2 => ⟨r, _, rfl, Evl.fresh_back sG hr2, ?_, sG.trans (Same.new (Same.refl G) hr2)⟩⟩
      · rw [List.length_map, List.length_map]
        have := lf i
        have := h10 _ (List.getElem_mem lt)
        exact Nat.le_trans (show _ ≤ 100000 by omega) (by decide)
      · rw [upd_same, List.take_add_one, List.getElem?_eq_getElem lt, Option.toList_some, List.flatten_append, List.map_append]
        simp
    · rintro _ G ⟨q, v2, rfl, nq, hq, sG⟩
      rw [hl, List.take_length] at hq
      exact ⟨_, rfl, k q G nq sG hq⟩
end
end Ss
namespace Ss
open PySem L2
section
variable {P : Program} {w : World} {K : PySem.W.Frag} {mg : Str → Option Value} {base : Heap}
abbrev sLaw48 : Stmt := topS 35
theorem scLaw48 : FnScope ["script", "bag", "every", "turn", "tokens", "drawn", "rule", "where", "place", "used", "wrong", "shown", "token", "width", "own", "at", "due", "steps", "kept_v", "told"] ["script"] (defScope sLaw48) := ⟨rfl, rfl, rfl, by decide +kernel, rfl, by decide +kernel, by decide +kernel⟩
def spLaw (K : PySem.W.Frag) : Sp := fun vs H Q _ => ∃ (a : Addr) (ns : List Int), vs = [.ref a] ∧ SqL K H a (ns.map V.int) ∧ ns.length ≤ 63 ∧ ∀ H', Q (.bl true) H'
theorem ok_law {f Cb : Addr} {fd : FuncData} {Cf : RK → Addr} (F : Fun K "law" "law" sLaw48 f fd) (T : G0 mg) (Dbag : Dk P w K mg base CX0 1 "_law_bag" ["script", "at"] (spBag K)) (Dtake : Dk P w K mg base CX0 1 "_law_take" ["dice", "many"] spTake) (Dof : Dk P w K mg base CX0 2 "_law_of" ["dice", "some"] (spOf K))
    (Dtoken : Dk P w K mg base CX0 3 "_law_token" ["dice", "taken"] (spWord K SGN 4)) (Dlaid : Dk P w K mg base CX0 3 "_law_laid" ["bag", "tokens"] (spLaid K)) (Dmeet : Dk P w K mg base CX0 4 "_law_meeting" ["bag", "tokens", "every"] (spMeet K)) (Dbefore : Dk P w K mg base CX0 1 "_law_before" ["rule"] (spParts K RK.rem)) (Dbehind : Dk P w K mg base CX0 1 "_law_behind" ["rule"] (spParts K RK.ins))
    (Dwhere : Dk P w K mg base CX0 2 "_law_where" ["rule", "tokens"] (spWhere K)) (DR : Dk P w K mg base (L2.CX P w) 8 "_law_ruled" ["rule"] (spRuled K Cb Cf)) (Dtold : Dk P w K mg base CX0 7 "_law_told" ["text", "steps"] (spTold K Cf)) (Dflat : Dk P w K mg base CX0 1 "_law_flat" ["rows"] (spFlat K)) : FnOk P w K mg base CX0 9 f fd ["script"] (spLaw K) := by
  refine F.ok scLaw48 (fun vs H Q E h => ?_) (fun cdv A outer s H vs Q E hr h => ?_)
  · obtain ⟨a, ns, rfl, _⟩ := h; rfl
  · obtain ⟨a, ns, rfl, hS, hl, k⟩ := h
    refine ⟨_, (pss_cons (ps_set (i := 1) scLaw48.nd rfl (Or.inr rfl) (pe_cd Dbag hr pass0 (pa_cons (pv 0) (pa_cons pe_int pa_nil)))) (pss_cons (ps_set (i := 2) scLaw48.nd rfl (Or.inr rfl) (pe_lst (pa_cons (pe_cd Dtoken hr pass0 (pa_cons (pv 1) (pa_cons (pe_lst pa_nil) pa_nil))) pa_nil))) (pss_cons (ps_for PassesOwn.never rfl (pi_range1 (by rfl) T.range (pa_cons (pe_op op_add pe_int (pe_cd Dtake hr pass0 (pa_cons (pv 1) (pa_cons pe_int pa_nil)))) pa_nil)) (pg_name (i := 3) scLaw48.nd rfl (.inl rfl)) (pss_one (ps_expr (pe_bm PySem.F.plainAttrs_list PySem.F.slot_list_append PySem.F.type_list_append mt_append (pv 2) (pa_cons (pe_cd Dtoken hr pass0 (pa_cons (pv 1) (pa_cons (pv 2) pa_nil))) pa_nil))))) (pss_cons (ps_setLc (i := 4) (own := [("turn", 3)]) (g := gName 3)  rfl scLaw48.nd rfl rfl (sw_true rfl rfl rfl (by decide +kernel)) (pi_range1 (by rfl) T.range (pa_cons (pe_cd Dtake hr pass0 (pa_cons (pv 1) (pa_cons pe_int pa_nil))) pa_nil)) (blkOk_by (N := ["script", "bag", "every", "turn", "tokens", "drawn", "rule", "where", "place", "used", "wrong", "shown", "token", "width", "own", "at", "due", "steps", "kept_v", "told"]) (sc := defScope sLaw48) (by decide +kernel)) (fun _ _ _ _ _ => (pg_name (i := 3) scLaw48.nd rfl (.inl rfl))) (fun _ _ _ _ _ => pts_nil) (fun _ _ _ _ _ => (pe_cd Dof hr pass0 (pa_cons (pv 1) (pa_cons (pv 2) pa_nil))))) (pss_cons (ps_set (i := 5) scLaw48.nd rfl (Or.inl rfl) (pe_lst pa_nil)) (pss_cons (ps_for PassesOwn.never rfl (pi_range1 (by rfl) T.range (pa_cons (pe_cd Dtake hr pass0 (pa_cons (pv 1) (pa_cons pe_int pa_nil))) pa_nil)) (pg_name (i := 3) scLaw48.nd rfl (.inl rfl)) (pss_cons (ps_set (i := 6) scLaw48.nd rfl (Or.inl rfl) (pe_cd Dmeet hr pass0 (pa_cons (pv 1) (pa_cons (pv 4) (pa_cons (pv 2) pa_nil))))) (pss_cons (ps_set (i := 7) scLaw48.nd rfl (Or.inl rfl) (pe_cd Dwhere hr pass0 (pa_cons (pv 6) (pa_cons (pv 4) pa_nil)))) (Evl.pss_cut (ps_set (i := 8) scLaw48.nd rfl (Or.inl rfl) (pe_ifExp (pt_cmpR (op_neD hr.units) (pv 7) (pe_lst pa_nil) (nomark _)) (pe_cd Dof hr pass0 (pa_cons (pv 1) (pa_cons (pv 7) pa_nil))) (pe_cd Dtake hr pass0 (pa_cons (pv 1) (pa_cons pe_int pa_nil))))) (Evl.pss_cut (ps_if (pt_cmpR op_eq (pe_cd Dtake hr pass0 (pa_cons (pv 1) (pa_cons pe_int pa_nil))) pe_int (nomark _)) (pss_one (ps_set (i := 8) scLaw48.nd rfl (Or.inl rfl) (pe_cd Dof hr pass0 (pa_cons (pv 1) (pa_cons (pe_lst (pa_cons (pe_un un_neg pe_int) (pa_cons (pe_callB call_len_seq (by rfl) T.len (by decide +kernel) (pa_cons (pv 4) pa_nil)) (pa_cons (pe_op op_add (pv 8) pe_int) (pa_cons (pe_op op_sub (pe_un un_neg pe_int) (pe_cd Dtake hr pass0 (pa_cons (pv 1) (pa_cons (pe_op op_pow pe_int pe_int) pa_nil)))) pa_nil))))) pa_nil))))) pss_nil) (pss_one (ps_expr (pe_bm PySem.F.plainAttrs_list PySem.F.slot_list_append PySem.F.type_list_append mt_append (pv 5) (pa_cons (pe_tup (pa_cons (pv 6) (pa_cons (pv 8) pa_nil))) pa_nil))))))))) (pss_cons (ps_asg (pe_tup (pa_cons (pe_lst pa_nil) (pa_cons pe_non (pa_cons (pe_lc (own := [("token", 12)]) (g := gName 12) rfl scLaw48.nd (pi_list (pv 4)) (blkOk_by (N := ["script", "bag", "every", "turn", "tokens", "drawn", "rule", "where", "place", "used", "wrong", "shown", "token", "width", "own", "at", "due", "steps", "kept_v", "told"]) (sc := defScope sLaw48) (by decide +kernel)) (fun _ _ _ _ _ => (pg_name (i := 12) scLaw48.nd rfl (.inl rfl))) (fun _ _ _ _ _ => pts_nil) (fun _ _ _ _ _ => (pe_lst (pa_cons (pv 12) pa_nil)))) pa_nil)))) (pg_tup (by rfl) (pgs_cons (pg_name (i := 9) scLaw48.nd rfl (.inr rfl)) (pgs_cons (pg_name (i := 10) scLaw48.nd rfl (.inl rfl)) (pgs_cons (pg_name (i := 11) scLaw48.nd rfl (.inl rfl)) pgs_nil))))) (pss_cons (ps_for PassesOwn.never rfl (pi_list (pv 5)) (pg_tup (by rfl) (pgs_cons (pg_name (i := 6) scLaw48.nd rfl (.inl rfl)) (pgs_cons (pg_name (i := 8) scLaw48.nd rfl (.inl rfl)) pgs_nil))) (pss_cons (ps_set (i := 13) scLaw48.nd rfl (Or.inl rfl) (pe_callB call_len_seq (by rfl) T.len (by decide +kernel) (pa_cons (pe_cd Dbefore hr pass0 (pa_cons (pv 6) pa_nil)) pa_nil))) (pss_cons (ps_setLc (i := 14) (own := [("at", 15)]) (g := gName 15)  rfl scLaw48.nd rfl rfl (sw_true rfl rfl rfl (by decide +kernel)) (pi_range2A (by rfl) T.range (pa_cons (pv 8) (pa_cons (pe_op op_add (pv 8) (pv 13)) pa_nil))) (blkOk_by (N := ["script", "bag", "every", "turn", "tokens", "drawn", "rule", "where", "place", "used", "wrong", "shown", "token", "width", "own", "at", "due", "steps", "kept_v", "told"]) (sc := defScope sLaw48) (by decide +kernel)) (fun _ _ _ _ _ => (pg_name (i := 15) scLaw48.nd rfl (.inl rfl))) (fun _ _ _ _ _ => (pts_one (pt_cmpR (op_inKw (K := K) rfl) (pv 15) (pv 9) (by rfl)))) (fun _ _ _ _ _ => (pv 15))) (Evl.pss_cut (ps_if (PW.pt (pw_and (pt_cmp (pc_isN (pv 10))) (pw_and1 (PW.pt (pw_or (pt_cmpR op_notIn_seq (pv 8) (pe_cd Dwhere hr pass0 (pa_cons (pv 6) (pa_cons (pv 4) pa_nil))) (by rfl)) (pw_or1 (pt_cmpR (op_neD hr.units) (pv 14) (pe_lst pa_nil) (nomark _)))))))) (pss_one (ps_set (i := 10) scLaw48.nd rfl (Or.inl rfl) (pe_tup (pa_cons pe_str (pa_cons (pv 8) pa_nil))))) pss_nil) (pss_one (ps_if (pt_cmp (pc_isN (pv 10))) (pss_cons (ps_set (i := 9) scLaw48.nd rfl (Or.inr rfl) (pe_op op_cat (pv 9) (pe_listRg rfl (by rfl) T.list (prg_2 (by rfl) T.range (pv 8) (pe_op op_add (pv 8) (pv 13)))))) (pss_cons (ps_asg (pe_cd Dbehind hr pass0 (pa_cons (pv 6) pa_nil)) (pg_sub (pv 11) (pv 8) set_list)) (pss_one (ps_if (pt_cmpR op_eq (pv 13) pe_int (nomark _)) (pss_one (ps_asg (pe_lst pa_nil) (pg_sub (pv 11) (pe_op op_add (pv 8) pe_int) set_list))) pss_nil)))) pss_nil)))))) (pss_cons (ps_set (i := 16) scLaw48.nd rfl (Or.inl rfl) (pe_bm PySem.F.plainAttrs_str PySem.F.slot_str_join PySem.F.type_str_join mt_join pe_str (pa_cons (pe_cd Dflat hr pass0 (pa_cons (pv 11) pa_nil)) pa_nil))) (pss_cons (ps_setLc (i := 17) (own := [("rule", 6), ("place", 8)]) (g := (gTup K 2 (gCons (gName 6) (gCons (gName 8) gNil))))  rfl scLaw48.nd rfl rfl (sw_true rfl rfl rfl (by decide +kernel)) (pi_list (pv 5)) (blkOk_by (N := ["script", "bag", "every", "turn", "tokens", "drawn", "rule", "where", "place", "used", "wrong", "shown", "token", "width", "own", "at", "due", "steps", "kept_v", "told"]) (sc := defScope sLaw48) (by decide +kernel)) (fun _ _ _ _ _ => (pg_tup (by rfl) (pgs_cons (pg_name (i := 6) scLaw48.nd rfl (.inl rfl)) (pgs_cons (pg_name (i := 8) scLaw48.nd rfl (.inl rfl)) pgs_nil)))) (fun _ _ _ _ _ => pts_nil) (fun _ _ _ _ _ => (pe_tup (pa_cons (pe_cd DR hr passN (pa_cons (pv 6) pa_nil)) (pa_cons (pv 8) pa_nil))))) (pss_cons (ps_set (i := 18) scLaw48.nd rfl (Or.inl rfl) (pe_callTy call_list_of (by rfl) T.list (by decide +kernel) (pa_cons (pv 17) pa_nil))) (pss_cons (ps_set (i := 19) scLaw48.nd rfl (Or.inl rfl) (pe_cd Dtold hr pass0 (pa_cons (pe_ix ix_tup (pe_cd Dlaid hr pass0 (pa_cons (pv 1) (pa_cons (pv 4) pa_nil))) pe_int (fun _ _ => rfl)) (pa_cons (pv 17) pa_nil)))) (pss_one (ps_ret (pe_and (pe_cmpR (op_eqSD hr.units) (pv 19) (pe_ifExp (pt_cmp (pc_isN (pv 10))) (pv 16) (pv 10)) (nomark _)) (pe_one (pe_cmpR (op_eqV hr.units) (pv 17) (pv 18) (nomark _)))))))))))))))))), ?_⟩
    refine ⟨_, rfl, a, ns, 0, rfl, hS, hl, by decide, fun b H1 hb s1 B1 => ?_⟩
    refine ⟨_, rfl, Nat.zero_le _, fun q0 hq0 => ⟨b, q0, 0, [], rfl, B1.new hq0, by decide, (B1.ne hq0).symm, SqL.of upd_same, by decide +kernel, fun t1 H2 a1 a2 a3 _ O2 B2 => ?_⟩⟩
    have T1 : TokS (mkS t1) := ⟨t1, rfl, a1, a2, a3⟩
    refine ⟨by show 1 ≤ sizeLine; decide, fun p hp => ?_⟩
    have npb : p ≠ b := (B2.ne hp).symm
    have B3 := B2.new (o := .lst [.str (mkS t1)]) hp
    have hp3 : upd H2 p (.lst [.str (mkS t1)]) p = some (.lst (([mkS t1] : List Str).map V.str)) := upd_same
    generalize upd H2 p (.lst [.str (mkS t1)]) = H3 at B3 hp3 ⊢
    refine ⟨_, rfl, b, _, _, rfl, B3, by decide, by decide, by decide, fun u H4 u0 u1 O4 B4 => ⟨_, _, rfl, rfl, _, rfl, by omega, by omega, ?_⟩⟩
    have hp4 := O4 _ _ npb hp3
    have lw : (1000 : Nat) ≤ sizeLine := by decide
    refine for_range (lo := 0) (n := (1 + u).toNat) (fun i σ H' => ∃ (ws : List Str) (v3 : Option V), σ = [some (.ref a), some (.ref b), some (.ref p), v3, none, none, none, none, none, none, none, none, none, none, none, none, none, none, none, none] ∧ ws.length = i + 1 ∧ (∀ z ∈ ws, TokS z) ∧ ws.Nodup ∧ H' p = some (.lst (ws.map V.str)) ∧ Bag H' b (10 + 5 * i))
      ⟨[mkS t1], none, rfl, rfl, fun z hz => by rw [List.mem_singleton.mp hz]; exact T1, by simp, hp4, B4.mono (by decide)⟩ ?_ ?_
    · rintro i _ H5 hi ⟨ws, v3, rfl, lws, tws, nws, hp5, B5⟩
      refine ⟨_, rfl, .inl ⟨rfl, _, SqL.of hp5⟩, _, rfl, _, rfl, b, p, _, ws, rfl, B5, by omega, npb, SqL.of hp5, Nat.lt_of_lt_of_le (show ws.length < 10 by omega) (by decide +kernel), fun t H6 b1 b2 b3 b4 O6 B6 => ?_⟩
      have hp6 := O6 _ _ npb hp5
      refine ⟨p, _, _, rfl, rfl, hp6, by rw [List.length_map]; omega, ?_⟩
      refine ⟨ws ++ [mkS t], _, rfl, by rw [List.length_append, lws]; rfl, fun z hz => ?_, ?_, by rw [upd_same, List.map_append]; rfl, ?_⟩
      · rcases List.mem_append.mp hz with hz | hz
        · exact tws z hz
        · rw [List.mem_singleton.mp hz]; exact ⟨t, rfl, b1, b2, b3⟩
      · refine List.nodup_append.mpr ⟨nws, by simp, fun x hx y hy e => ?_⟩
        rw [List.mem_singleton.mp hy] at e
        exact b4 (e ▸ hx)
      · obtain ⟨d, m, c, g1, g2⟩ := B6
        obtain ⟨r1, r2, r3, r4, r5⟩ := g2
        exact ⟨d, m, c, by rw [upd_ne npb.symm]; exact g1, r1, r2, r3, r4, by omega⟩
    rintro _ H5 ⟨ws, v3, rfl, lws, tws, nws, hp5, B5⟩
    have w2 : 2 ≤ ws.length := by omega
    have w5 : ws.length ≤ 5 := by omega
    have B5 := B5.mono (show _ ≤ 100 by omega)
    -- the tokens
    refine ⟨_, rfl, b, _, _, rfl, B5, by decide, by decide, by decide, fun u2 H6 w0 w1 O6 B6 => ⟨_, rfl, by omega, by omega, fun tk htk => ?_⟩⟩
    have ntkb : tk ≠ b := (B6.ne htk).symm
    have hp6 := O6 _ _ npb hp5
    have npk : p ≠ tk := ne_of_none hp6 htk
    refine lc_range (lo := 0) (n := u2.toNat) (fun i H' => ∃ ts : List Str, ts.length = i ∧ (∀ x ∈ ts, x ∈ ws) ∧ H' tk = some (.lst (ts.map V.str)) ∧ H' p = some (.lst (ws.map V.str)) ∧ Bag H' b (101 + i))
      ⟨[], rfl, (fun x h => nomatch h), upd_same, by rw [upd_ne npk]; exact hp6, B6.new htk⟩ ?_ ?_
    · rintro i H7 hi ⟨ts, lts, its, hk7, hp7, B7⟩
      refine ⟨rfl, ?_⟩
      refine ⟨_, rfl, _, rfl, b, _, B7, by omega, .inl ⟨p, _, rfl, npb, SqL.of hp7, by rw [List.length_map]; omega, by rw [List.length_map]; omega, fun x H8 hx O8 B8 => ?_⟩⟩
      obtain ⟨y, hy, rfl⟩ := List.mem_map.mp hx
      have hk8 := O8 _ _ ntkb hk7
      have hp8 := O8 _ _ npb hp7
      refine ⟨_, hk8, by rw [List.length_map]; omega, ts ++ [y], by rw [List.length_append, lts]; rfl, fun x hx => ?_, by rw [upd_same, List.map_append]; rfl, by rw [upd_ne npk]; exact hp8, ?_⟩
      · rcases List.mem_append.mp hx with hx | hx
        · exact its x hx
        · rw [List.mem_singleton.mp hx]; exact hy
      · obtain ⟨d, m, c, g1, g2⟩ := B8
        exact ⟨d, m, c, by rw [upd_ne ntkb.symm]; exact g1, g2⟩
    rintro H7 ⟨ts, lts, its, hk7, hp7, B7⟩
    have l25 : ts.length ≤ 25 := by omega
    have B7 := B7.mono (show _ ≤ 200 by omega)
    have okW : ws.all okS = true := List.all_eq_true.mpr fun x hx => okS_word (tws x hx).word
    have okT : ts.all okS = true := List.all_eq_true.mpr fun x hx => okS_word (tws x (its x hx)).word
    refine ⟨Nat.zero_le _, fun d hd => ?_⟩
    have ndb : d ≠ b := (B7.ne hd).symm
    have hk8 : upd H7 d (.lst []) tk = some (.lst (ts.map V.str)) := by rw [upd_ne (ne_of_none hk7 hd)]; exact hk7
    have hp8 : upd H7 d (.lst []) p = some (.lst (ws.map V.str)) := by rw [upd_ne (ne_of_none hp7 hd)]; exact hp7
    have ndk : tk ≠ d := ne_of_none hk7 hd
    have ndp : p ≠ d := ne_of_none hp7 hd
    have B8 := B7.new (o := .lst []) hd
    have hd8 : upd H7 d (.lst []) d = some (.lst []) := upd_same
    generalize upd H7 d (.lst []) = H8 at hk8 hp8 B8 hd8 ⊢
    refine ⟨_, rfl, b, _, _, rfl, B8, by decide, by decide, by decide, fun u3 H9 u30 u31 O9 B9 => ⟨_, rfl, by omega, by omega, ?_⟩⟩
    let RG : (RK × List Str) × Int → Prop := fun r => r.1.2.length = r.1.1.many ∧ (∀ z ∈ r.1.2, z ∈ ws) ∧ r.1.2.Nodup ∧ r.2.natAbs < 10 ^ 30
    refine for_range (lo := 0) (n := u3.toNat) (fun i σ H' => ∃ (rs : RS) (ds : List V) (v3 v6 v7 v8 : Option V), σ = [some (.ref a), some (.ref b), some (.ref p), v3, some (.ref tk), some (.ref d), v6, v7, v8, none, none, none, none, none, none, none, none, none, none, none] ∧ rs.length = i ∧ DrAt H' ds rs ∧ (∀ r ∈ rs, RG r) ∧ H' d = some (.lst ds) ∧ H' tk = some (.lst (ts.map V.str)) ∧ H' p = some (.lst (ws.map V.str)) ∧ Bag H' b (300 + 20 * i))
      ⟨[], [], _, none, none, none, rfl, rfl, ⟨rfl, fun j r e => by cases e⟩, (fun r h => nomatch h), O9 _ _ ndb hd8, O9 _ _ ntkb hk8, O9 _ _ npb hp8, B9.mono (by decide)⟩ ?_ ?_
    · rintro i _ G hi ⟨rs, ds, v3, v6, v7, v8, rfl, lrs, hDr, hG, hdG, hkG, hpG, BG⟩
      have hi7 : i < 7 := by omega
      refine ⟨_, rfl, _, rfl, _, rfl, b, tk, p, _, ts, ws, rfl, BG, by omega, ntkb, npb, SqL.of hkG, SqL.of hpG, by omega, its, okW, w2, by omega, nws, fun q kd toks G2 O2 B2 nq hq l1 m1 n1 => ?_⟩
      have okK : toks.all okS = true := List.all_eq_true.mpr fun x hx => okS_word (tws x (m1 x hx)).word
      have hd2 := O2 _ _ ndb hdG
      have hk2 := O2 _ _ ntkb hkG
      have hp2 := O2 _ _ npb hpG
      have D2 := hDr.nl (NL.bag O2 BG)
      refine Evl.q_asgL (xs := ((whereP ts (kd.rem toks)).map fun (i : Nat) => (i : Int)).map V.int) (Evl.el_call (Evl.ea_cons (Evl.ev_var rfl) (Evl.ea_cons (Evl.ev_var rfl) Evl.ea_nil)) fun G s Q k' _ => ⟨q, tk, kd, toks, ts, rfl, SqT.of (s _ _ hq), l1, SqL.of (s _ _ hk2), by omega, okT, rem_all okK, fun pw G' nw s' e => k' pw G' nw s' e⟩) fun wh G3 nwh s3 ewh => ?_
      have B3 := B2.same s3
      have nwhb : wh ≠ b := (B2.ne nwh).symm
      have wl : (whereP ts (kd.rem toks)).length ≤ 25 := by
        unfold whereP
        have := List.length_filter_le (fun i => decide ((ts.drop i).take (kd.rem toks).length = kd.rem toks)) (List.range ts.length)
        rw [List.length_range] at this
        omega
      refine Evl.q_cut (M := fun σ' H' => ∃ pl : Int, σ' = [some (.ref a), some (.ref b), some (.ref p), some (.int (0 + (i : Int))), some (.ref tk), some (.ref d), some (.ref q), some (.ref wh), some (.int pl), none, none, none, none, none, none, none, none, none, none, none] ∧ pl.natAbs < 10 ^ 20 ∧ Off b G3 H' ∧ Bag H' b (309 + 20 * i)) ?_ ?_
      · refine (Evl.et_test (ev_neNil (Evl.ev_var rfl) (SqL.of ewh))) G3 (Evl.Ex.refl G3) _ fun G4 s4 => ?_
        refine ite2 (fun c => ?_) (fun c => ?_)
        · have ne : whereP ts (kd.rem toks) ≠ [] := fun z => by rw [z] at c; cases c
          have l1' := List.length_pos_iff.mpr ne
          refine ⟨_, rfl, _, rfl, b, _, B3.same s4, by omega, .inl ⟨wh, _, rfl, nwhb, SqL.of (s4 _ _ ewh), by rw [List.length_map, List.length_map]; omega, by rw [List.length_map, List.length_map]; omega, fun x G5 hx O5 B5 => ?_⟩⟩
          obtain ⟨y, hy, rfl⟩ := List.mem_map.mp hx
          obtain ⟨n, hn, rfl⟩ := List.mem_map.mp hy
          have hn := List.mem_range.mp (List.mem_filter.mp hn).1
          exact ⟨_, rfl, by rw [Int.natAbs_natCast]; exact Nat.lt_trans (show n < 25 by omega) (by decide), (Off.same (Off.refl b G3) s4).trans O5, B5.mono (by omega)⟩
        · refine ⟨_, rfl, b, _, _, rfl, B3.same s4, by omega, by decide, by decide, fun u G5 u0 u1 O5 B5 => ⟨u, rfl, Nat.lt_trans (show u.natAbs < 30 by omega) (by decide), (Off.same (Off.refl b G3) s4).trans O5, B5.mono (by omega)⟩⟩
      rintro _ G4 ⟨pl, rfl, lpl, O4, B4⟩
      have hk4 := O4 _ _ ntkb (s3 _ _ hk2)
      refine Evl.q_cut (M := fun σ' H' => ∃ pl : Int, σ' = [some (.ref a), some (.ref b), some (.ref p), some (.int (0 + (i : Int))), some (.ref tk), some (.ref d), some (.ref q), some (.ref wh), some (.int pl), none, none, none, none, none, none, none, none, none, none, none] ∧ pl.natAbs < 10 ^ 30 ∧ Off b G3 H' ∧ Bag H' b (315 + 20 * i)) ?_ ?_
      · refine ⟨_, rfl, b, _, _, rfl, B4, by omega, by decide, by decide, fun u G5 u0 u1 O5 B5 => ⟨rfl, _, rfl, ?_⟩⟩
        have O5 := O4.trans O5
        refine ite2 (fun c0 => ?_) (fun c0 => ?_)
        · refine ⟨_, rfl, ⟨(1 : Int), rfl, _, rfl, tk, _, rfl, .inl (SqL.of (O5 _ _ ntkb (s3 _ _ hk2))), _, rfl, _, _, rfl, rfl, (1 : Int), rfl, _, rfl, _, _, rfl, rfl, ?_, ?_⟩⟩
          · exact ⟨by decide, by decide, by decide⟩
          refine ⟨b, _, _, rfl, B5, by omega, by decide, by decide, fun v G6 v0 v1 O6 B6 => ⟨_, _, rfl, rfl, by show 4 ≤ sizeLine; decide, fun ql hql => ?_⟩⟩
          have v1 : v < 10 ^ 20 := v1
          refine ⟨b, _, B6.new hql, by omega, .inl ⟨ql, _, rfl, (B6.ne hql).symm, SqL.of upd_same, by show 1 ≤ 4; decide, by show 4 ≤ 1000000; decide, fun x G7 hx O7 B7 => ?_⟩⟩
          have O7 := O5.trans (O6.trans ((Off.new (Off.refl b G6) hql).trans O7))
          obtain ⟨y, rfl, hy⟩ : ∃ y : Int, x = V.int y ∧ y.natAbs < 10 ^ 30 := by
            simp only [List.mem_cons, List.not_mem_nil, or_false] at hx
            rcases hx with rfl | rfl | rfl | rfl
            · exact ⟨_, rfl, by decide⟩
            · exact ⟨_, rfl, by rw [List.length_map, Int.natAbs_natCast]; exact Nat.lt_trans (show ts.length < 26 by omega) (by decide)⟩
            · exact ⟨_, rfl, Nat.lt_of_le_of_lt (show _ ≤ 10 ^ 20 by omega) (by decide)⟩
            · exact ⟨_, rfl, Nat.lt_of_le_of_lt (show _ ≤ 10 ^ 20 + 1 by omega) (by decide)⟩
          exact ⟨y, rfl, hy, O7, B7.mono (by omega)⟩
        · exact ⟨pl, rfl, Nat.lt_trans lpl (by decide), O5, B5.mono (by omega)⟩
      rintro _ G5 ⟨pl, rfl, lpl, O5, B5⟩
      have hd5 := O5 _ _ ndb (s3 _ _ hd2)
      have hq5 := O5 _ _ (fun e => by
        obtain ⟨dd, m, c, hb, _⟩ := B2
        rw [e, hb] at hq; cases hq) (s3 _ _ hq)
      have D5 := (D2.nl (NL.of s3)).nl (NL.bag O5 B3)
      refine Evl.s_appU (l := d) (ys := [.ref q, .int pl]) hd5 (Evl.ev_var rfl) (Evl.eu_tup (Evl.ea_cons (Evl.ev_var rfl) (Evl.ea_cons (Evl.ev_var rfl) Evl.ea_nil)) (by show 2 ≤ 100000; decide)) (by rw [D5.1, lrs]; omega) fun t G6 nt s6 ht => ?_
      have nld := NL.upd (ys := ds ++ [.ref t]) (s6 _ _ hd5)
      refine ⟨rs ++ [((kd, toks), pl)], ds ++ [.ref t], _, _, _, _, rfl, by rw [List.length_append, lrs]; rfl, (DrAt.add (D5.nl (NL.of s6)) (r := ((kd, toks), pl)) ht (s6 _ _ hq5)).nl nld, fun r hr => ?_, upd_same, by rw [upd_ne ndk]; exact s6 _ _ (O5 _ _ ntkb (s3 _ _ hk2)), by rw [upd_ne ndp]; exact s6 _ _ (O5 _ _ npb (s3 _ _ hp2)), ?_⟩
      · rcases List.mem_append.mp hr with hr | hr
        · exact hG r hr
        · rw [List.mem_singleton.mp hr]; exact ⟨l1, m1, n1, lpl⟩
      · obtain ⟨dd, m, c, g1, g2⟩ := B5.same s6
        obtain ⟨r1, r2, r3, r4, r5⟩ := g2
        exact ⟨dd, m, c, by rw [upd_ne ndb.symm]; exact g1, r1, r2, r3, r4, by omega⟩
    rintro _ G ⟨rs, ds, v3, v6, v7, v8, rfl, lrs, hDr, hG, hdG, hkG, hpG, BG⟩
    have l7 : rs.length < 7 := by omega
    have BG := BG.mono (show _ ≤ 1000 by omega)
    -- used, wrong, shown
    refine ⟨Nat.zero_le _, fun u0 hu0 => ?_⟩
    have sA : Same G (upd G u0 (.lst [])) := Same.new (Same.refl G) hu0
    have hdA := sA _ _ hdG
    have hkA := sA _ _ hkG
    have DA := hDr.nl (NL.of sA)
    have BA := BG.same sA
    have huA : upd G u0 (.lst []) u0 = some (.lst []) := upd_same
    generalize upd G u0 (.lst []) = GA at hdA hkA DA BA huA ⊢
    refine ⟨_, rfl, tk, rfl, ⟨_, SqL.of hkA⟩, fun sh hsh => ?_⟩
    have nks : tk ≠ sh := ne_of_none hkA hsh
    have nds : d ≠ sh := ne_of_none hdA hsh
    have nus : u0 ≠ sh := ne_of_none huA hsh
    have nbs : b ≠ sh := BA.ne hsh
    refine lc_list (xs := ts.map V.str) (fun i H' => ∃ refs : List V, H' sh = some (.lst refs) ∧ ShAt sh H' refs ((ts.take i).map fun x => [x]) ∧ Off sh GA H')
      ⟨[], upd_same, ⟨rfl, fun j l e => by cases e⟩, (Off.refl sh GA).upd⟩ (fun i H' _ h => by
        obtain ⟨_, _, _, O⟩ := h
        exact SqL.of (O _ _ nks hkA)) ?_ ?_
    · rintro i x H' hi ⟨refs, hs', hSh, O⟩
      rw [List.getElem?_map] at hi
      obtain ⟨y, hy, rfl⟩ : ∃ y, ts[i]? = some y ∧ x = V.str y := by
        cases e : ts[i]? with
        | none => rw [e] at hi; cases hi
        | some y => rw [e] at hi; cases hi; exact ⟨y, rfl, rfl⟩
      have hi' : i < ts.length := (List.getElem?_eq_some_iff.mp hy).1
      refine ⟨rfl, _, rfl, by show 1 ≤ sizeLine; decide, fun r hr2 => ?_⟩
      have nr : r ≠ sh := fun e => by rw [e, hs'] at hr2; cases hr2
      have Or : Off sh H' (upd H' r (.lst [.str y])) := Off.new (Off.refl sh H') hr2
      refine ⟨refs, by rw [upd_ne nr.symm]; exact hs', by rw [hSh.1, List.length_map, List.length_take]; omega, refs ++ [.ref r], upd_same, ?_, (O.trans Or).upd⟩
      rw [List.take_add_one, hy, Option.toList_some, List.map_append]
      exact (ShAt.add (hSh.mono Or) nr (l := [y]) upd_same).mono (Off.refl _ _).upd
    rintro HB ⟨refs0, hsB, hShB, OB⟩
    rw [List.length_map, List.take_length] at hShB
    refine ⟨by show 3 ≤ sizeLine; decide, fun tt htt => ?_⟩
    have sT : Same HB (upd HB tt (.tup [.ref u0, .non, .ref sh])) := Same.new (Same.refl HB) htt
    refine ⟨tt, _, rfl, SqT.of upd_same, rfl, _, _, rfl, _, _, rfl, _, _, rfl, rfl, ?_⟩
    have OC := OB.same sT
    have hsC := sT _ _ hsB
    have hShC := hShB.mono (Off.same (Off.refl sh HB) sT)
    have hdC := OC _ _ nds hdA
    have hkC := OC _ _ nks hkA
    have huC := OC _ _ nus huA
    have DC := (DA.nl (fun a o ha ne => OC a o (fun e => by rw [e, hsh] at ha; cases ha) ha))
    have BC : Bag (upd HB tt (.tup [.ref u0, .non, .ref sh])) b 1000 := by
      obtain ⟨dd, m, c, g1, g2⟩ := BA
      exact ⟨dd, m, c, OC _ _ nbs g1, g2⟩
    generalize upd HB tt (.tup [.ref u0, .non, .ref sh]) = GC at hsC hShC hdC hkC huC DC BC ⊢
    have wT : ∀ x ∈ ts, wordOk x := fun x hx => (tws x (its x hx)).word
    refine Evl.q_forL (Evl.ev_var rfl) (SqL.of hdC) (fun i σ' H' => ∃ (us : List Int) (ls : List (List Str)) (refs : List V) (uu : Addr) (wv : V) (v6 v8 v13 v14 : Option V), σ' = [some (.ref a), some (.ref b), some (.ref p), v3, some (.ref tk), some (.ref d), v6, v7, v8, some (.ref uu), some wv, some (.ref sh), none, v13, v14, none, none, none, none, none] ∧ H' uu = some (.lst (us.map V.int)) ∧ uu ≠ sh ∧ us.length ≤ 2 * i ∧ H' sh = some (.lst refs) ∧ ShAt sh H' refs ls ∧ ls.length = ts.length ∧ (∀ l ∈ ls, l.length ≤ 2 ∧ ∀ y ∈ l, wordOk y) ∧ Off sh GC H' ∧ StOk sh ts (wrAll ts (rsP (rs.take i))) us ls wv H')
      (fun G' s => ⟨[], ts.map fun x => [x], refs0, u0, .non, _, _, none, none, rfl, s _ _ huC, nus, Nat.le_refl _, s _ _ hsC, hShC.mono (Off.same (Off.refl sh GC) s), List.length_map _, fun l hl => ?_, Off.same (Off.refl sh GC) s, rfl, (fun x => ⟨(fun z => nomatch z), (fun z => nomatch z)⟩), (shW_none ts).symm⟩) (fun i σ' G' _ h => by
        obtain ⟨_, _, _, _, _, _, _, _, _, _, _, _, _, _, _, _, _, O, _⟩ := h
        exact SqL.of (O _ _ nds hdC)) ?_ ?_
    · obtain ⟨x, hx, rfl⟩ := List.mem_map.mp hl
      exact ⟨by show 1 ≤ 2; decide, fun y hy => by rw [List.mem_singleton.mp hy]; exact wT x hx⟩
    · rintro i x _ G3 hi ⟨us, ls, refs, uu, wv, v6, v8, v13, v14, rfl, huu, nuu, lus, hsh3, hSh3, lls, wls, O3, st⟩
      have lt : i < rs.length := by rw [← DC.1]; exact (List.getElem?_eq_some_iff.mp hi).1
      obtain ⟨r, hr'⟩ : ∃ r, rs[i]? = some r := ⟨_, List.getElem?_eq_getElem lt⟩
      obtain ⟨⟨kd, toks⟩, pl⟩ := r
      obtain ⟨t, q, ex, et, eq⟩ := (DC.nl (NL.offL O3 hsC)).2 i _ hr'
      obtain rfl : x = .ref t := by rw [ex] at hi; cases hi; rfl
      obtain ⟨l1, m1, n1, lpl⟩ := hG _ (List.mem_of_getElem? hr')
      dsimp only at et eq l1 m1 n1 lpl
      have wK : ∀ z ∈ toks, wordOk z := fun z hz => (tws z (m1 z hz)).word
      have okK : toks.all okS = true := okS_words wK
      have lm := rem_len l1
      have hk3 := O3 _ _ nks hkC
      have hP : (rsP rs)[i]? = some ((kd.rem toks, kd.ins toks), pl) := by unfold rsP; rw [List.getElem?_map, hr']; rfl
      have hstep : wrAll ts (rsP (rs.take (i + 1))) = wrStep ts (wrAll ts (rsP (rs.take i))) ((kd.rem toks, kd.ins toks), pl) := by
        have q := wr_succ (ts := ts) hP
        unfold rsP at q ⊢
        rw [List.map_take, List.map_take]; exact q
      refine ⟨t, _, rfl, SqT.of et, rfl, _, _, rfl, _, _, rfl, rfl, ?_⟩
      refine Evl.q_asg (v := .int (((kd.rem toks).length : Nat) : Int)) (Evl.ev_is (Evl.ev_lenN (Evl.el_call (Evl.ea_cons (Evl.ev_var rfl) Evl.ea_nil) fun G s Q k' _ => ⟨q, kd, toks, rfl, SqT.of (s _ _ eq), l1, fun pw G' nw s' e => k' pw G' nw s' e⟩)) (by rw [List.length_map])) fun G4 s4 => ?_
      refine Evl.q_asgL (xs := (ownL us (kd.rem toks).length pl).map V.int) ?_ fun o G5 no s5 eo => ?_
      · rw [show (ownL us (kd.rem toks).length pl).map V.int = Evl.given (kd.rem toks).length (fun k => decide (pl + (k : Int) ∈ us)) (fun k => V.int (pl + (k : Int))) by unfold ownL Evl.given; rw [List.map_map]; rfl]
        refine el_lcRA _ _ (Evl.ea_cons (Evl.ev_var rfl) (Evl.ea_cons (Evl.ev_op (Evl.ev_var rfl) (Evl.ev_var rfl) Evl.rv_I0) Evl.ea_nil)) (by omega) (fun _ => rfl) (fun k G s hk => ?_) (fun k G s hk _ => Evl.ev_var rfl)
        exact Evl.et_test (Evl.ev_is (Evl.ev_op (Evl.ev_var rfl) (Evl.ev_var rfl) (Evl.rv_isL (SqL.of ((s4.trans s) _ _ huu)) rfl (flat_intsW us))) (by rw [inV_ints]))
      have s35 := s4.trans s5
      have O5 := O3.same s35
      have hk5 := s35 _ _ hk3
      have hsh5 := s35 _ _ hsh3
      have hSh5 := hSh3.mono (Off.same (Off.refl sh G3) s35)
      have huu5 := s35 _ _ huu
      have eq5 := s35 _ _ eq
      have evW : Evl.Ev (tOp (rIn K true) (tVar 8) (tCall (spWhere K) [] E0 (tCons (tVar 6) (tCons (tVar 4) tNil)))) [some (.ref a), some (.ref b), some (.ref p), v3, some (.ref tk), some (.ref d), some (.ref q), v7, some (.int pl), some (.ref uu), some wv, some (.ref sh), none, some (.int (((kd.rem toks).length : Nat) : Int)), some (.ref o), none, none, none, none, none] G5 (.bl (!standsP ts (kd.rem toks) pl)) := by
        refine Evl.ev_is (Evl.ev_opL (xs := ((whereP ts (kd.rem toks)).map fun (i : Nat) => (i : Int)).map V.int) (Evl.ev_var rfl) (Evl.el_call (Evl.ea_cons (Evl.ev_var rfl) (Evl.ea_cons (Evl.ev_var rfl) Evl.ea_nil)) fun G s Q k' _ => ⟨q, tk, kd, toks, ts, rfl, SqT.of (s _ _ eq5), l1, SqL.of (s _ _ hk5), by omega, okT, rem_all okK, fun pw G' nw s' e => k' pw G' nw s' e⟩) fun _ _ h _ => Evl.rv_niL (SqL.of h) rfl (flat_intsW _)) ?_
        rw [inV_ints, ← in_where lm.1]; rfl
      have evO : Evl.Ev (tOp (rNeD K) (tVar 14) (tLst tNil)) [some (.ref a), some (.ref b), some (.ref p), v3, some (.ref tk), some (.ref d), some (.ref q), v7, some (.int pl), some (.ref uu), some wv, some (.ref sh), none, some (.int (((kd.rem toks).length : Nat) : Int)), some (.ref o), none, none, none, none, none] G5 (.bl (!decide (ownL us (kd.rem toks).length pl = []))) := ev_neNil (Evl.ev_var rfl) (SqL.of eo)
      refine Evl.q_cut (M := fun σ' H' => ∃ wv' : V, σ' = [some (.ref a), some (.ref b), some (.ref p), v3, some (.ref tk), some (.ref d), some (.ref q), v7, some (.int pl), some (.ref uu), some wv', some (.ref sh), none, some (.int (((kd.rem toks).length : Nat) : Int)), some (.ref o), none, none, none, none, none] ∧ Same G5 H' ∧ (if (decide (wv = .non) && (!standsP ts (kd.rem toks) pl || !decide (ownL us (kd.rem toks).length pl = []))) = true then ∃ q, wv' = .ref q ∧ q ≠ sh ∧ H' q = some (.tup [.str "no", .int pl]) else wv' = wv)) (Evl.s_when (b := decide (wv = .non) && (!standsP ts (kd.rem toks) pl || !decide (ownL us (kd.rem toks).length pl = []))) (Evl.et_and (Evl.et_B (ev_isNoneW (Evl.ev_var rfl))) fun _ => Evl.et_or (Evl.et_test evW) fun _ => Evl.et_test evO) (fun c G6 s6 => ?_) (fun c G6 s6 => ?_)) ?_
      · refine Evl.s_asgU (Evl.eu_tup (Evl.ea_cons Evl.ev_c (Evl.ea_cons (Evl.ev_var rfl) Evl.ea_nil)) (by show 2 ≤ 100000; decide)) fun qn G7 nq s7 e7 => ?_
        refine ⟨.ref qn, rfl, s6.trans s7, ?_⟩
        rw [if_pos c]
        exact ⟨qn, rfl, (fun e => by rw [e, s6 _ _ hsh5] at nq; cases nq), e7⟩
      · exact ⟨wv, rfl, s6, by rw [if_neg (by rw [c]; exact Bool.false_ne_true)]⟩
      rintro _ G6 ⟨wv', rfl, s6, hw'⟩
      have O6 := O5.same s6
      have hSh6 := hSh5.mono (Off.same (Off.refl sh G5) s6)
      cases hst : wrAll ts (rsP (rs.take i)) with
      | inl p0 =>
        rw [hst] at st hstep
        obtain ⟨q0, rfl, nq0, hq0⟩ := st
        rw [if_neg (by rw [show decide (V.ref q0 = V.non) = false from rfl]; exact Bool.false_ne_true)] at hw'
        subst hw'
        refine Evl.s_when (b := false) (Evl.et_is (Evl.et_B (ev_isNoneW (Evl.ev_var rfl))) rfl) (fun z => Bool.noConfusion z) fun _ G7 s7 => ?_
        have s57 := s6.trans s7
        refine ⟨us, ls, refs, uu, .ref q0, _, _, _, _, rfl, s57 _ _ huu5, nuu, by omega, s57 _ _ hsh5, hSh6.mono (Off.same (Off.refl sh G6) s7), lls, wls, O6.same s7, ?_⟩
        rw [hstep]
        exact ⟨q0, rfl, nq0, s57 _ _ (s35 _ _ hq0)⟩
      | inr M =>
        rw [hst] at st hstep
        obtain ⟨rfl, hus, hls⟩ := st
        rw [own_free hus] at hw'
        have hstep : wrAll ts (rsP (rs.take (i + 1))) = if (standsP ts (kd.rem toks) pl && freeP M (kd.rem toks) pl) = true then .inr (wrNext M (kd.rem toks) (kd.ins toks) pl) else .inl pl := hstep
        cases hok : standsP ts (kd.rem toks) pl && freeP M (kd.rem toks) pl with
        | false =>
          have cc : (decide ((V.non : V) = .non) && (!standsP ts (kd.rem toks) pl || !freeP M (kd.rem toks) pl)) = true := by
            rw [← Bool.not_and, hok]; rfl
          rw [if_pos cc] at hw'
          obtain ⟨qn, rfl, nqn, hqn⟩ := hw'
          refine Evl.s_when (b := false) (Evl.et_is (Evl.et_B (ev_isNoneW (Evl.ev_var rfl))) rfl) (fun z => Bool.noConfusion z) fun _ G7 s7 => ?_
          have s57 := s6.trans s7
          refine ⟨us, ls, refs, uu, .ref qn, _, _, _, _, rfl, s57 _ _ huu5, nuu, by omega, s57 _ _ hsh5, hSh6.mono (Off.same (Off.refl sh G6) s7), lls, wls, O6.same s7, ?_⟩
          rw [hstep, if_neg (by rw [hok]; exact Bool.false_ne_true)]
          exact ⟨qn, rfl, nqn, s7 _ _ hqn⟩
        | true =>
          have cc : ¬ (decide ((V.non : V) = .non) && (!standsP ts (kd.rem toks) pl || !freeP M (kd.rem toks) pl)) = true := by
            rw [← Bool.not_and, hok]; exact Bool.false_ne_true
          rw [if_neg cc] at hw'
          subst hw'
          rw [if_pos hok] at hstep
          rw [Bool.and_eq_true] at hok
          obtain ⟨n, rfl, hn⟩ : ∃ n : Nat, pl = (n : Int) ∧ n + (kd.rem toks).length ≤ ts.length := by
            have hs := hok.1
            unfold standsP at hs
            rw [Bool.and_eq_true] at hs
            have h0 := of_decide_eq_true hs.1
            have h1 := congrArg List.length (of_decide_eq_true hs.2)
            rw [List.length_take, List.length_drop] at h1
            exact ⟨pl.toNat, by omega, by omega⟩
          refine Evl.s_when (b := true) (Evl.et_is (Evl.et_B (ev_isNoneW (Evl.ev_var rfl))) rfl) (fun _ G7 s7 => ?_) fun z => Bool.noConfusion z
          have s57 := s6.trans s7
          have hsh7 := s57 _ _ hsh5
          have hSh7 := hSh6.mono (Off.same (Off.refl sh G6) s7)
          have huu7 := s57 _ _ huu5
          have eq7 := s57 _ _ eq5
          have O7 := O6.same s7
          have ioK := ins_ok l1 wK
          refine Evl.q_asgL (xs := (us ++ (List.range (kd.rem toks).length).map fun (k : Nat) => (n : Int) + (k : Int)).map V.int) ?_ fun u8 G8 n8 s8 e8 => ?_
          · rw [List.map_append]
            refine el_catL (Evl.ev_var rfl) huu7 ?_ (by rw [List.length_map, List.length_map, List.length_map, List.length_range]; omega)
            rw [← rgV_ints]
            exact el_lstRg (Evl.ev_var rfl) (Evl.ev_op (Evl.ev_var rfl) (Evl.ev_var rfl) Evl.rv_I0) (RgOk.of_le (by omega) (by omega) (by omega) (by omega))
          have n8s : u8 ≠ sh := fun e => by rw [e, hsh7] at n8; cases n8
          refine ⟨_, rfl, q, kd, toks, rfl, SqT.of (s8 _ _ eq7), l1, fun r9 G9 n9 s9 e9 => ?_⟩
          have s79 := s8.trans s9
          have hsh9 := s79 _ _ hsh7
          have n9s : r9 ≠ sh := fun e => by rw [e, s8 _ _ hsh7] at n9; cases n9
          have hSh9 := ShAt.set (n := n) (hSh7.mono (Off.same (Off.refl sh G7) s79)) n9s e9
          have hSh9 := hSh9.mono (H' := upd G9 sh (.lst (refs.set n (.ref r9)))) (Off.refl _ _).upd
          have e89 : upd G9 sh (.lst (refs.set n (.ref r9))) u8 = some (.lst ((us ++ (List.range (kd.rem toks).length).map fun (k : Nat) => (n : Int) + (k : Int)).map V.int)) := by rw [upd_ne n8s]; exact s9 _ _ e8
          have hsh10 : upd G9 sh (.lst (refs.set n (.ref r9))) sh = some (.lst (refs.set n (.ref r9))) := upd_same
          have O10 : Off sh GC (upd G9 sh (.lst (refs.set n (.ref r9)))) := (O7.same s79).upd
          have lrefs : refs.length = ts.length := by rw [hSh7.1, lls]
          refine ⟨_, rfl, _, rfl, sh, refs, (n : Int), n, rfl, rfl, hsh9, Evl.ixN_nat (by omega), ?_⟩
          generalize upd G9 sh (.lst (refs.set n (.ref r9))) = GD at hSh9 e89 hsh10 O10 ⊢
          have lus' : (us ++ (List.range (kd.rem toks).length).map fun (k : Nat) => (n : Int) + (k : Int)).length ≤ 2 * (i + 1) := by
            rw [List.length_append, List.length_map, List.length_range]; omega
          have wls' : ∀ l ∈ ls.set n (kd.ins toks), l.length ≤ 2 ∧ ∀ y ∈ l, wordOk y := fun l hl => by
            rcases List.mem_or_eq_of_mem_set hl with h | rfl
            · exact wls l h
            · exact ioK
          refine Evl.s_when (b := decide ((kd.rem toks).length = 2)) (Evl.et_is (Evl.et_test (Evl.ev_op (Evl.ev_var rfl) Evl.ev_c (Evl.rv_eq rfl))) (decide_eq_decide.mpr ⟨fun z => by injection z with z; omega, fun z => by rw [z]; rfl⟩)) (fun c GE sE => ?_) (fun c GE sE => ?_)
          · have c := of_decide_eq_true c
            refine ⟨Nat.zero_le _, fun rB nB => ?_⟩
            have nBs : rB ≠ sh := fun e => by rw [e, sE _ _ hsh10] at nB; cases nB
            have sF : Same GE (upd GE rB (.lst [])) := Same.new (Same.refl GE) nB
            have hShF := ShAt.set (n := n + 1) (l := []) (hSh9.mono (Off.same (Off.refl sh GD) (sE.trans sF))) nBs upd_same
            refine ⟨_, rfl, _, rfl, _, _, rfl, rfl, sh, refs.set n (.ref r9), _, n + 1, rfl, congrArg V.int (show (n : Int) + 1 = ((n + 1 : Nat) : Int) by omega), sF _ _ (sE _ _ hsh10), Evl.ixN_nat (by rw [List.length_set]; omega), ?_⟩
            refine ⟨_, (ls.set n (kd.ins toks)).set (n + 1) [], _, u8, .non, _, _, _, _, rfl, by rw [upd_ne n8s]; exact sF _ _ (sE _ _ e89), n8s, lus', upd_same, hShF.mono (Off.refl _ _).upd, by rw [List.length_set, List.length_set, lls], fun l hl => ?_, ((O10.same sE).same sF).upd, ?_⟩
            · rcases List.mem_or_eq_of_mem_set hl with h | rfl
              · exact wls' l h
              · exact ⟨Nat.zero_le _, fun y hy => nomatch hy⟩
            · rw [hstep]
              exact ⟨rfl, used_next hus lm.1, by rw [hls]; exact (sh_next2 c).symm⟩
          · have c := of_decide_eq_false c
            refine ⟨_, ls.set n (kd.ins toks), _, u8, .non, _, _, _, _, rfl, sE _ _ e89, n8s, lus', sE _ _ hsh10, hSh9.mono (Off.same (Off.refl sh GD) sE), by rw [List.length_set, lls], wls', O10.same sE, ?_⟩
            rw [hstep]
            exact ⟨rfl, used_next hus lm.1, by rw [hls]; exact (sh_next1 (by omega)).symm⟩
    rintro _ G1 ⟨us, ls, refs, uu, wv, v6, v8, v13, v14, rfl, huu, nuu, lus, hsh1, hSh1, lls, wls, O1, st⟩
    rw [DC.1, List.take_length] at st
    have hk1 := O1 _ _ nks hkC
    have hd1 := O1 _ _ nds hdC
    have D1 := DC.nl (NL.offL O1 hsC)
    have B1' : Bag G1 b 1000 := by
      obtain ⟨dd, m, c, g1, g2⟩ := BC
      exact ⟨dd, m, c, O1 _ _ nbs g1, g2⟩
    have wF : ∀ y ∈ ls.flatten, wordOk y := fun y hy => by
      obtain ⟨l, hl, hy⟩ := List.mem_flatten.mp hy
      exact (wls l hl).2 y hy
    have lF : ls.flatten.length ≤ 100000 := by
      have := flat_lenW (ls := ls) fun l hl => Nat.le_trans (wls l hl).1 (by decide)
      omega
    refine ⟨rfl, _, rfl, sh, refs, ls, rfl, SqL.of hsh1, hSh1.1, (fun i l e => by
      obtain ⟨q, e1, _, e3⟩ := hSh1.2 i l e
      exact ⟨q, e1, e3⟩), by omega, fun l hl => Nat.le_trans (wls l hl).1 (by decide), fun pf G2 np2 s2 e2 => ⟨" ", pf, ls.flatten, rfl, rfl, .inl (SqL.of e2), joinB wF lF, ?_⟩⟩
    have hk2 := s2 _ _ hk1
    have hd2 := s2 _ _ hd1
    have D2 := D1.nl (NL.of s2)
    have B2' := B1'.same s2
    have badN : ∀ r ∈ rs, ∀ (q : Addr) (H : Hp), H q = some (.tup ((r.1.1.word :: r.1.2).map V.str)) → badOf r.1.2 = none := fun r hr q H hq => by
      obtain ⟨l1, m1, n1, _⟩ := hG r hr
      exact RT.good (⟨hq, l1, fun z hz => tws z (m1 z hz), n1⟩ : RT H q r.1.1 r.1.2)
    refine ⟨_, rfl, d, rfl, ⟨_, SqL.of hd2⟩, fun se hse => ?_⟩
    have ndse : d ≠ se := ne_of_none hd2 hse
    refine lc_list (xs := ds) (fun i H' => ∃ xs : List V, H' se = some (.lst xs) ∧ xs.length = i ∧ (∀ (j : Nat) (r : (RK × List Str) × Int), j < i → rs[j]? = some r → ∃ t p, xs[j]? = some (.ref t) ∧ H' t = some (.tup [.ref p, .int r.2]) ∧ RuleAt H' (Cf r.1.1) p r.1.1 r.1.2) ∧ Off se G2 H')
      ⟨[], upd_same, rfl, (fun j r h => absurd h (Nat.not_lt_zero j)), (Off.refl se G2).upd⟩ (fun i H' _ h => by
        obtain ⟨_, _, _, _, O⟩ := h
        exact SqL.of (O _ _ ndse hd2)) ?_ ?_
    · rintro i x H' hi ⟨xs, hxs, lxs, hx, O⟩
      have lt : i < rs.length := by rw [← DC.1]; exact (List.getElem?_eq_some_iff.mp hi).1
      obtain ⟨r, hr'⟩ : ∃ r, rs[i]? = some r := ⟨_, List.getElem?_eq_getElem lt⟩
      have nl2 : NL G2 H' := fun a o ha ne => O a o (fun e => by rw [e, hse] at ha; cases ha) ha
      obtain ⟨t, q, ex, et, eq⟩ := (D2.nl nl2).2 i _ hr'
      have bn := badN r (List.mem_of_getElem? hr') q H' eq
      obtain ⟨l1, m1, n1, lpl⟩ := hG _ (List.mem_of_getElem? hr')
      obtain ⟨⟨kd, toks⟩, pl⟩ := r
      obtain rfl : x = .ref t := by rw [ex] at hi; cases hi; rfl
      dsimp only at et eq l1 m1 n1 lpl bn
      refine ⟨t, _, rfl, SqT.of et, rfl, _, _, rfl, _, _, rfl, rfl, rfl, ?_⟩
      refine ⟨_, rfl, q, kd, toks, rfl, SqT.of eq, l1, fun z hz => (tws z (m1 z hz)).word, fun _ pr H2 s3 npr hR => ?_, fun y hy => by rw [bn] at hy; cases hy⟩
      refine ⟨_, rfl, by show 2 ≤ sizeLine; decide, fun t2 ht2 => ?_⟩
      have nt2 : t2 ≠ se := fun e => by rw [e, s3 _ _ hxs] at ht2; cases ht2
      have s4 : Same H2 (upd H2 t2 (.tup [.ref pr, .int pl])) := Same.new (Same.refl H2) ht2
      have hxs4 := s4 _ _ (s3 _ _ hxs)
      have nl4 := NL.upd (ys := xs ++ [.ref t2]) hxs4
      have ht4 : upd H2 t2 (.tup [.ref pr, .int pl]) t2 = some (.tup [.ref pr, .int pl]) := upd_same
      refine ⟨xs, hxs4, by omega, xs ++ [.ref t2], upd_same, by rw [List.length_append, lxs]; rfl, fun j r' hj e => ?_, ((O.same s3).same s4).upd⟩
      by_cases c : j < i
      · obtain ⟨t', p', e1, e2, e3⟩ := hx j r' c e
        exact ⟨t', p', by rw [List.getElem?_append_left (by omega)]; exact e1, nl4 _ _ (s4 _ _ (s3 _ _ e2)) (fun _ z => nomatch z), ((e3.mono s3).mono s4).nl nl4⟩
      · obtain rfl : j = i := by omega
        rw [hr'] at e
        cases e
        exact ⟨t2, pr, by rw [List.getElem?_append_right (by omega), lxs, Nat.sub_self]; rfl, nl4 _ _ ht4 (fun _ z => nomatch z), (hR.mono s4).nl nl4⟩
    rintro G3 ⟨xs, hxs, lxs, hx, O3⟩
    have hk3 := O3 _ _ (ne_of_none hk2 hse) hk2
    have B3' : Bag G3 b 1000 := by
      obtain ⟨dd, m, c, g1, g2⟩ := B2'
      exact ⟨dd, m, c, O3 _ _ (ne_of_none g1 hse) g1, g2⟩
    have nl3 : NL G2 G3 := fun a o ha ne => O3 a o (fun e => by rw [e, hse] at ha; cases ha) ha
    have lxr : xs.length = rs.length := by rw [lxs, DC.1]
    have hx : ∀ (j : Nat) (r : (RK × List Str) × Int), rs[j]? = some r → ∃ t p, xs[j]? = some (.ref t) ∧ G3 t = some (.tup [.ref p, .int r.2]) ∧ RuleAt G3 (Cf r.1.1) p r.1.1 r.1.2 := fun j r e => hx j r (by rw [DC.1]; exact (List.getElem?_eq_some_iff.mp e).1) e
    have refX : ∀ x ∈ xs, ∃ a, x = .ref a := fun x hm => by
      obtain ⟨j, hj, rfl⟩ := List.mem_iff_getElem.mp hm
      obtain ⟨t, _, e, _⟩ := hx j rs[j] (List.getElem?_eq_getElem (by omega))
      rw [List.getElem?_eq_getElem hj] at e
      injection e with e
      exact ⟨t, e⟩
    refine Evl.q_asgL (Evl.el_list (K := K) (Evl.ev_var rfl) (SqL.of hxs)) fun kv G4 nkv s4 ekv => ?_
    have hk4 := s4 _ _ hk3
    have B4' := B3'.same s4
    have nkb : kv ≠ b := (B3'.ne nkv).symm
    let tss : List (List Nat) := ts.map fun x => x.cps.toList
    have etss : tss.map mkS = ts := by
      show (ts.map fun x => x.cps.toList).map mkS = ts
      rw [List.map_map]
      exact (List.map_congr_left fun x _ => (mkS_of x).symm).trans (List.map_id ts)
    have hk4' : G4 tk = some (.lst (tss.map fun t => V.str (mkS t))) := by rw [map_mk, etss]; exact hk4
    have ltss : tss.length = ts.length := List.length_map _
    have ptss : ∀ t ∈ tss, t ≠ [] ∧ t.length ≤ 8 ∧ ∀ c ∈ t, gapC c = false := fun t ht => by
      obtain ⟨x, hx, rfl⟩ := List.mem_map.mp ht
      obtain ⟨y, rfl, y1, y2, y3⟩ := tws x (its x hx)
      rw [mkS_cps]
      exact ⟨fun e => by rw [e] at y1; exact absurd y1 (by decide), by omega, fun c hc => sgn_gap c (y3 c hc)⟩
    refine ⟨_, rfl, _, rfl, b, tk, _, tss, rfl, B4', by decide, ntkb, SqL.of hk4', by omega, ptss, fun q l z lsx H5 O5 B5 nq hq hz hzl nl hll => ?_⟩
    have nlb := NL.bag O5 B4'
    have nseb : se ≠ b := (B2'.ne hse).symm
    have hxs5 := O5 _ _ nseb (s4 _ _ hxs)
    have ekv5 := O5 _ _ nkb ekv
    have etoks : toksOf (mkS z) = ts := by
      unfold toksOf
      rw [mkS_cps, hz]; exact etss
    have hSt : StepsR K Cf H5 se rs := ⟨xs, SqL.of hxs5, lxr, fun j r e => by
      obtain ⟨t, p, e1, e2, e3⟩ := hx j r e
      exact ⟨t, p, e1, nlb _ _ (s4 _ _ e2) (fun _ z => nomatch z), (e3.mono s4).nl nlb⟩⟩
    have hOk : RsOk rs := fun r hr => by
      obtain ⟨l1, m1, n1, lpl⟩ := hG r hr
      exact ⟨l1, fun x hx => (tws x (m1 x hx)).word, lpl⟩
    have wST : ∀ x ∈ toksOf (mkS z), wordOk x := by rw [etoks]; exact wT
    refine ⟨q, _, 0, _, rfl, rfl, SqT.of hq, atI_nat (j := 0) rfl, _, rfl, mkS z, se, rs, rfl, by rw [mkS_len]; omega, hSt, by omega, by rw [etoks]; omega, wST, hOk, fun M hM G6 s6 => ?_, fun p0 hp0 qn G6 s6 e6 => ?_⟩
    · rw [etoks] at hM ⊢
      rw [hM] at st
      obtain ⟨rfl, hus, hls⟩ := st
      rw [show wrOut ts M = ls.flatten by rw [hls]; rfl]
      exact Evl.s_ret (v := .bl true) (Evl.ev_is (Evl.ev_andV (a := true) (b := true) (Evl.ev_op (Evl.ev_var rfl) (Evl.ev_if (b := true) (Evl.et_is (Evl.et_B (ev_isNoneW (Evl.ev_var rfl))) rfl) (fun _ => Evl.ev_var rfl) (fun z => Bool.noConfusion z)) rv_strSD) fun _ => Evl.ev_op (Evl.ev_var rfl) (Evl.ev_var rfl) (rv_sameRefs (SqL.of (s6 _ _ hxs5)) (SqL.of (s6 _ _ ekv5)) refX)) rfl) fun G7 _ => k G7
    · rw [etoks] at hp0
      rw [hp0] at st
      obtain ⟨qw, rfl, nqw, hqw⟩ := st
      have hqw5 : H5 qw = some (.tup [.str "no", .int p0]) := nlb _ _ (s4 _ _ (nl3 _ _ (s2 _ _ hqw) (fun _ z => nomatch z))) (fun _ z => nomatch z)
      exact Evl.s_ret (v := .bl true) (Evl.ev_is (Evl.ev_andV (a := true) (b := true) (Evl.ev_op (Evl.ev_var rfl) (Evl.ev_if (b := false) (Evl.et_is (Evl.et_B (ev_isNoneW (Evl.ev_var rfl))) rfl) (fun z => Bool.noConfusion z) (fun _ => Evl.ev_var rfl)) (rv_noSD e6 (s6 _ _ hqw5))) fun _ => Evl.ev_op (Evl.ev_var rfl) (Evl.ev_var rfl) (rv_sameRefs (SqL.of (s6 _ _ hxs5)) (SqL.of (s6 _ _ ekv5)) refX)) rfl) fun G7 _ => k G7
end
end Ss
namespace Ss
open PySem L2
section
variable {P : Program} {w : World} {K : PySem.W.Frag} {mg : Str → Option Value} {base : Heap}
abbrev sLrule : Stmt := topS 27
theorem scLrule : FnScope ["bag", "every", "word", "at", "other"] ["bag", "every"] (defScope sLrule) := ⟨rfl, rfl, rfl, by decide +kernel, rfl, by decide +kernel, by decide +kernel⟩
theorem ok_lrule (F : DefAt K mg "_law_rule" sLrule) (T : G0 mg) (Dtake : Dk P w K mg base CX0 1 "_law_take" ["dice", "many"] spTake) (Dof : Dk P w K mg base CX0 2 "_law_of" ["dice", "some"] (spOf K)) : Dk P w K mg base CX0 3 "_law_rule" ["bag", "every"] (spRule K) := by
  obtain ⟨f, fd, F, mf⟩ := F.ex
  refine ⟨f, fd, F.ok scLrule (fun vs H Q E h => ?_) (fun cdv A outer s H vs Q E hr h => ?_), mf, F.kp, F.binds fun _ _ _ _ _ _ us hl => match us, hl with | [_, _], _ => rfl⟩
  · obtain ⟨b, p, n, ws, rfl, _⟩ := h; rfl
  · obtain ⟨b, p, n, ws, rfl, hB, hn, hpb, hS, h2, h3, nd, k⟩ := h
    refine ⟨_, (pss_cons (ps_set (i := 2) scLrule.nd rfl (Or.inl rfl) (pe_cd Dof hr pass0 (pa_cons (pv 0) (pa_cons (pe_lst (pa_cons pe_str (pa_cons pe_str (pa_cons pe_str (pa_cons pe_str pa_nil))))) pa_nil)))) (pss_cons (ps_set (i := 3) scLrule.nd rfl (Or.inl rfl) (pe_cd Dtake hr pass0 (pa_cons (pv 0) (pa_cons (pe_callB call_len_seq (by rfl) T.len (by decide +kernel) (pa_cons (pv 1) pa_nil)) pa_nil)))) (pss_cons (ps_set (i := 4) scLrule.nd rfl (Or.inl rfl) (pe_ix ix_list (pv 1) (pe_op op_mod (pe_callTy call_int1 (by rfl) T.int (by decide +kernel) (pa_cons (pe_op op_add (pe_op op_add (pv 3) pe_int) (pe_cd Dtake hr pass0 (pa_cons (pv 0) (pa_cons (pe_op op_sub (pe_callB call_len_seq (by rfl) T.len (by decide +kernel) (pa_cons (pv 1) pa_nil)) pe_int) pa_nil)))) pa_nil)) (pe_callB call_len_seq (by rfl) T.len (by decide +kernel) (pa_cons (pv 1) pa_nil))) (fun _ _ => rfl))) (pss_one (ps_ret (pe_ifExp (pt_cmpR op_in_seq (pv 2) (pe_lst (pa_cons pe_str (pa_cons pe_str pa_nil))) (by rfl)) (pe_tup (pa_cons (pv 2) (pa_cons (pe_ix ix_list (pv 1) (pv 3) (fun _ _ => rfl)) pa_nil))) (pe_tup (pa_cons (pv 2) (pa_cons (pe_ix ix_list (pv 1) (pv 3) (fun _ _ => rfl)) (pa_cons (pv 4) pa_nil)))))))))), ?_⟩
    have h200 : (1000 : Int) < 2 ^ 200 := by decide
    have il : (ws.map V.str).length = ws.length := List.length_map _
    refine ⟨_, rfl, by show 4 ≤ sizeLine; decide, fun q0 hq0 => ?_⟩
    refine ⟨b, n, hB.new hq0, by omega, .inl ⟨q0, _, rfl, (hB.ne hq0).symm, SqL.of upd_same, by show 1 ≤ 4; decide, by show 4 ≤ 1000000; decide, fun x H1 hx O1 B1 => ?_⟩⟩
    obtain ⟨kd, rfl⟩ : ∃ k : RK, x = V.str k.word := by
      simp only [List.mem_cons, List.not_mem_nil, or_false] at hx
      rcases hx with rfl | rfl | rfl | rfl
      · exact ⟨.out, rfl⟩
      · exact ⟨.twice, rfl⟩
      · exact ⟨.swapped, rfl⟩
      · exact ⟨.taken, rfl⟩
    have O1 : Off b H H1 := (Off.new (Off.refl b H) hq0).trans O1
    have S1 := O1.seq hpb hS
    refine ⟨_, rfl, _, rfl, p, _, rfl, .inl S1, ?_⟩
    rw [il]
    refine ⟨b, _, _, rfl, B1, by omega, by omega, by omega, fun i H2 i0 i1 O2 B2 => ?_⟩
    have O2 := O1.trans O2
    have S2 := O2.seq hpb hS
    refine ⟨_, rfl, _, rfl, _, _, rfl, rfl, _, rfl, _, rfl, p, _, rfl, .inl S2, ?_⟩
    rw [il]
    refine ⟨_, _, rfl, rfl, b, _, _, rfl, B2, by omega, by omega, by omega, fun j H3 j0 j1 O3 B3 => ?_⟩
    have O3 := O2.trans O3
    have S3 := O3.seq hpb hS
    refine ⟨_, _, rfl, rfl, .inl ⟨_, rfl, _, rfl, p, _, rfl, .inl S3, ?_⟩⟩
    rw [il]
    have m0 := Int.emod_nonneg (i + 1 + j) (show ((ws.length : Nat) : Int) ≠ 0 by omega)
    have m1 := Int.emod_lt_of_pos (i + 1 + j) (show (0 : Int) < ((ws.length : Nat) : Int) by omega)
    have ne : (i + 1 + j) % (ws.length : Int) ≠ i := by
      intro e
      by_cases c : i + 1 + j < ws.length
      · rw [Int.emod_eq_of_lt (by omega) c] at e; omega
      · have e2 : (i + 1 + j) % (ws.length : Int) = (i + 1 + j - ws.length) % (ws.length : Int) := by rw [Int.sub_emod_right]
        rw [e2, Int.emod_eq_of_lt (by omega) (by omega)] at e
        omega
    generalize hx2 : (i + 1 + j) % ((ws.length : Nat) : Int) = x2 at m0 m1 ne
    obtain ⟨ni, rfl⟩ : ∃ a : Nat, i = (a : Int) := ⟨i.toNat, (Int.toNat_of_nonneg i0).symm⟩
    obtain ⟨nx, rfl⟩ : ∃ a : Nat, x2 = (a : Int) := ⟨x2.toNat, (Int.toNat_of_nonneg m0).symm⟩
    have hni : ni < ws.length := by omega
    have hnx : nx < ws.length := by omega
    have gi : (ws.map V.str)[ni]? = some (V.str ws[ni]) := by rw [List.getElem?_map, List.getElem?_eq_getElem hni]; rfl
    have gx : (ws.map V.str)[nx]? = some (V.str ws[nx]) := by rw [List.getElem?_map, List.getElem?_eq_getElem hnx]; rfl
    refine ⟨_, _, rfl, rfl, (by show (0 : Int) < ((ws.length : Nat) : Int); omega), p, _, (nx : Int), _, rfl, congrArg V.int hx2, S3, atI_nat gx, ?_⟩
    have dif : ws[ni] ≠ ws[nx] := by
      have pw := List.pairwise_iff_getElem.mp nd
      rcases Nat.lt_trichotomy ni nx with h | h | h
      · exact pw ni nx hni hnx h
      · exact absurd (by rw [h]) ne
      · exact (pw nx ni hnx hni h).symm
    refine ⟨_, rfl, by show 2 ≤ sizeLine; decide, fun q1 hq1 => ?_⟩
    have n1 : H q1 = none := by
      cases e : H q1 with
      | none => rfl
      | some o =>
        by_cases c : q1 = b
        · obtain ⟨d, m, cc, hb, _⟩ := B3
          rw [c, hb] at hq1; cases hq1
        · rw [O3 q1 o c e] at hq1; cases hq1
    have O4 : Off b H (upd H3 q1 (.lst [.str "out", .str "twice"])) := O3.new hq1
    have B4 := B3.new (o := .lst [.str "out", .str "twice"]) hq1
    have S4 := O4.seq hpb hS
    refine ⟨q1, _, rfl, .inl (SqL.of upd_same), rfl, rfl, _, rfl, ?_⟩
    generalize upd H3 q1 (.lst [.str "out", .str "twice"]) = H4 at O4 B4 S4
    have fr : ∀ t, H4 t = none → H t = none := fun t ht => by
      cases e : H t with
      | none => rfl
      | some o =>
        by_cases c : t = b
        · obtain ⟨d, m, cc, hb, _⟩ := B4
          rw [c, hb] at ht; cases ht
        · rw [O4 t o c e] at ht; cases ht
    have end1 : ∀ t, H4 t = none → kd.many = 1 → Q (.ref t) (upd H4 t (.tup [.str kd.word, .str ws[ni]])) := fun t ht hk => k t kd [ws[ni]] _ (O4.new ht) (B4.new ht) (fr t ht) upd_same hk.symm (fun z hz => by rw [List.mem_singleton.mp hz]; exact List.getElem_mem hni) (by simp)
    have end2 : ∀ t, H4 t = none → kd.many = 2 → Q (.ref t) (upd H4 t (.tup [.str kd.word, .str ws[ni], .str ws[nx]])) := fun t ht hk => k t kd [ws[ni], ws[nx]] _ (O4.new ht) (B4.new ht) (fr t ht) upd_same hk.symm (fun z hz => by
      simp only [List.mem_cons, List.not_mem_nil, or_false] at hz
      rcases hz with rfl | rfl
      · exact List.getElem_mem hni
      · exact List.getElem_mem hnx) (by simpa using dif)
    refine ite2 (fun c => ?_) (fun c => ?_)
    · refine ⟨_, rfl, _, rfl, _, rfl, p, _, _, _, rfl, rfl, S4, atI_nat gi, by show 2 ≤ sizeLine; decide, fun t ht => end1 t ht ?_⟩
      revert c
      cases kd <;> first | exact fun _ => rfl | (intro c; exact absurd c (by decide +kernel))
    · refine ⟨_, rfl, _, rfl, _, rfl, p, _, _, _, rfl, rfl, S4, atI_nat gi, _, rfl, by show 3 ≤ sizeLine; decide, fun t ht => end2 t ht ?_⟩
      revert c
      cases kd <;> first | exact fun _ => rfl | (intro c; exact absurd (by decide +kernel) c)
end
end Ss
namespace Ss
open PySem L2 PyProof.Rows
/-- what an error class is asked for, in one word -/
def topB (K : PySem.W.Frag) (C : Addr) (fs : List Str) : Bool :=
  PySem.W.findIn K (.ref C) "__setattr__" == some (some (.builtin "object.__setattr__")) && (PySem.W.findIn K (.ref C) "__getattribute__" == some (some (.builtin "BaseException.__getattribute__")) && (PySem.W.findIn K (.ref C) "__getattr__" == some none &&
  (PySem.W.subIn K (.ref C) (.type "BaseException") == some true && (PySem.W.typeIn K (.ref C) == some (.type "type") && (PySem.W.hasDictIn K C && (PySem.W.keepIn K (.ref C) && (PySem.W.findIn K (.ref C) "__class__" == some (some (.builtin "object.__class__")) &&
  (PySem.W.specialIn K (.builtin "object.__class__") "__get__" == some (some (.builtin "getset_descriptor.__get__")) && (PySem.W.takesIn K (.builtin "object.__class__") == some true && (PySem.W.mroIn K C (.type "object") == some true && fs.all fun f => PySem.W.findIn K (.ref C) f == some none))))))))))
theorem topB_ok {K : PySem.W.Frag} {C : Addr} {fs : List Str} (h : topB K C fs = true) : PySem.W.findIn K (.ref C) "__setattr__" = some (some (.builtin "object.__setattr__")) ∧ PySem.W.findIn K (.ref C) "__getattribute__" = some (some (.builtin "BaseException.__getattribute__")) ∧ PySem.W.findIn K (.ref C) "__getattr__" = some none ∧
  PySem.W.subIn K (.ref C) (.type "BaseException") = some true ∧ PySem.W.typeIn K (.ref C) = some (.type "type") ∧ PySem.W.hasDictIn K C = true ∧ PySem.W.keepIn K (.ref C) = true ∧ PySem.W.findIn K (.ref C) "__class__" = some (some (.builtin "object.__class__")) ∧
  PySem.W.specialIn K (.builtin "object.__class__") "__get__" = some (some (.builtin "getset_descriptor.__get__")) ∧ PySem.W.takesIn K (.builtin "object.__class__") = some true ∧ PySem.W.mroIn K C (.type "object") = some true ∧ ∀ f ∈ fs, PySem.W.findIn K (.ref C) f = some none := by
  simp only [topB, Bool.and_eq_true, beq_iff_eq, List.all_eq_true] at h
  obtain ⟨h1, h2, h3, h4, h5, h6, h7, h8, h9, h10, h11, h12⟩ := h
  exact ⟨h1, h2, h3, h4, h5, h6, h7, h8, h9, h10, h11, h12⟩
theorem etop_S {K : PySem.W.Frag} {h : Heap} {mg : Str → Option Value} {x qual : Str} {C S fI : Addr} {st : Stmt} {fs : List Str} {nm q N bs bm sn sub ab col dd k0 k1 k2 k3 k5} {oc : Value} {od an : Option Addr} {osl : Array (Option Value)} {kV doc pm cdv ct : Value} (X : K.In h) (G : h.Ns mainGlobals mg)
    (a : PySem.W.nsIn K mainGlobals x = some (some (.ref C))) (l : K.lookup C = some (excClassObj nm q C N bs bm true sn sub ab col dd k0 k1 k2 k3 k5 "ValueError.__new__")) (hb : bm = [.ref S, .type "ValueError", .type "Exception", .type "BaseException", .type "object"])
    (e : topB K C fs = true) (i : PySem.W.findIn K (.ref C) "__init__" = some (some (.ref fI))) (lf : K.lookup fI = some ⟨oc, od, .func (PySem.W.fnOf "__init__" qual (defArgs st) (defBody st) (defScope st) .none kV doc pm an cdv ct), osl⟩) (c : PySem.W.codeIn K cdv qual = true) (kf : PySem.W.keepIn K (.ref fI) = true) (tf : PySem.W.isFn K (.ref fI) = true) :
    EAtop K mg x qual C "ValueError.__init__" fs st := by
  subst hb
  have T := topB_ok e
  exact ⟨⟨⟨_, _, _, _, _, _, _, _, _, _, _, _, _, _, _, _, _, _, PySem.F.excBase_ValueError, l, fun Y => by rw [List.contains_cons]; rfl, (SsE.Order.cons SsE.order_VE S)⟩, T.1, T.2.1, T.2.2.1, T.2.2.2.1, T.2.2.2.2.1, T.2.2.2.2.2.1, T.2.2.2.2.2.2.1, T.2.2.2.2.2.2.2.1, T.2.2.2.2.2.2.2.2.1, T.2.2.2.2.2.2.2.2.2.1, T.2.2.2.2.2.2.2.2.2.2.1⟩, PySem.W.mg_of X G a, ⟨fI, _, i, of_decide_eq_true (by simpa [PySem.W.isFn] using tf), fun_mk lf c kf⟩, T.2.2.2.2.2.2.2.2.2.2.2⟩
theorem etop_L {K : PySem.W.Frag} {h : Heap} {mg : Str → Option Value} {x qual : Str} {C fI : Addr} {st : Stmt} {fs : List Str} {nm q N bs bm sn sub ab col dd k0 k1 k2 k3 k5} {oc : Value} {od an : Option Addr} {osl : Array (Option Value)} {kV doc pm cdv ct : Value} (X : K.In h) (G : h.Ns mainGlobals mg)
    (a : PySem.W.nsIn K mainGlobals x = some (some (.ref C))) (l : K.lookup C = some (excClassObj nm q C N bs bm true sn sub ab col dd k0 k1 k2 k3 k5 "LookupError.__new__")) (hb : bm = [.type "LookupError", .type "Exception", .type "BaseException", .type "object"])
    (e : topB K C fs = true) (i : PySem.W.findIn K (.ref C) "__init__" = some (some (.ref fI))) (lf : K.lookup fI = some ⟨oc, od, .func (PySem.W.fnOf "__init__" qual (defArgs st) (defBody st) (defScope st) .none kV doc pm an cdv ct), osl⟩) (c : PySem.W.codeIn K cdv qual = true) (kf : PySem.W.keepIn K (.ref fI) = true) (tf : PySem.W.isFn K (.ref fI) = true) :
    EAtop K mg x qual C "LookupError.__init__" fs st := by
  subst hb
  have T := topB_ok e
  exact ⟨⟨⟨_, _, _, _, _, _, _, _, _, _, _, _, _, _, _, _, _, _, PySem.F.excBase_LookupError, l, fun Y => rfl, SsE.order_LE⟩, T.1, T.2.1, T.2.2.1, T.2.2.2.1, T.2.2.2.2.1, T.2.2.2.2.2.1, T.2.2.2.2.2.2.1, T.2.2.2.2.2.2.2.1, T.2.2.2.2.2.2.2.2.1, T.2.2.2.2.2.2.2.2.2.1, T.2.2.2.2.2.2.2.2.2.2.1⟩, PySem.W.mg_of X G a, ⟨fI, _, i, of_decide_eq_true (by simpa [PySem.W.isFn] using tf), fun_mk lf c kf⟩, T.2.2.2.2.2.2.2.2.2.2.2⟩
theorem etop_R {K : PySem.W.Frag} {h : Heap} {mg : Str → Option Value} {x qual : Str} {C fI : Addr} {st : Stmt} {fs : List Str} {nm q N bs bm sn sub ab col dd k0 k1 k2 k3 k5} {oc : Value} {od an : Option Addr} {osl : Array (Option Value)} {kV doc pm cdv ct : Value} (X : K.In h) (G : h.Ns mainGlobals mg)
    (a : PySem.W.nsIn K mainGlobals x = some (some (.ref C))) (l : K.lookup C = some (excClassObj nm q C N bs bm true sn sub ab col dd k0 k1 k2 k3 k5 "RuntimeError.__new__")) (hb : bm = [.type "RuntimeError", .type "Exception", .type "BaseException", .type "object"])
    (e : topB K C fs = true) (i : PySem.W.findIn K (.ref C) "__init__" = some (some (.ref fI))) (lf : K.lookup fI = some ⟨oc, od, .func (PySem.W.fnOf "__init__" qual (defArgs st) (defBody st) (defScope st) .none kV doc pm an cdv ct), osl⟩) (c : PySem.W.codeIn K cdv qual = true) (kf : PySem.W.keepIn K (.ref fI) = true) (tf : PySem.W.isFn K (.ref fI) = true) :
    EAtop K mg x qual C "RuntimeError.__init__" fs st := by
  subst hb
  have T := topB_ok e
  exact ⟨⟨⟨_, _, _, _, _, _, _, _, _, _, _, _, _, _, _, _, _, _, PySem.F.excBase_RuntimeError, l, fun Y => rfl, SsE.order_RE⟩, T.1, T.2.1, T.2.2.1, T.2.2.2.1, T.2.2.2.2.1, T.2.2.2.2.2.1, T.2.2.2.2.2.2.1, T.2.2.2.2.2.2.2.1, T.2.2.2.2.2.2.2.2.1, T.2.2.2.2.2.2.2.2.2.1, T.2.2.2.2.2.2.2.2.2.2.1⟩, PySem.W.mg_of X G a, ⟨fI, _, i, of_decide_eq_true (by simpa [PySem.W.isFn] using tf), fun_mk lf c kf⟩, T.2.2.2.2.2.2.2.2.2.2.2⟩

end Ss
namespace Ss
open PySem L2 PyProof.Rows
/-- what a class of rules is asked for, in one word -/
def rcB (K : PySem.W.Frag) (C : Addr) (w : Str) : Bool :=
  PySem.W.plainGet K C Str.empty && (PySem.W.hasDictIn K C && (PySem.W.plainOver K C && (PySem.W.findIn K (.ref C) "__setattr__" == some (some (.builtin "object.__setattr__")) && (PySem.W.findIn K (.ref C) "tokens" == some none && (PySem.W.findIn K (.ref C) "removed" == some none &&
  (PySem.W.findIn K (.ref C) "inserted" == some none && (PySem.W.findIn K (.ref C) "__class__" == some (some (.builtin "object.__class__")) && (PySem.W.specialIn K (.builtin "object.__class__") "__get__" == some (some (.builtin "getset_descriptor.__get__")) && (PySem.W.takesIn K (.builtin "object.__class__") == some true &&
  (PySem.W.mroIn K C (.type "object") == some true && (PySem.W.makesIn K C && (PySem.W.keepIn K (.ref C) && (PySem.W.readsIn K C (.type "type") && (PySem.W.specialIn K (.ref C) "__getattribute__" == some (some (.builtin "type.__getattribute__")) &&
  ((match PySem.W.findIn K (.ref C) "word" with | some (some (.str z t)) => z == w && PySem.W.specialIn K (.str z t) "__get__" == some none | _ => false) && (match PySem.W.findCls K (.ref C) (.type "type") "word" with | some (.val (.str z _)) => z == w | _ => false))))))))))))))))
structure RTop (K : PySem.W.Frag) (C : Addr) (w : Str) : Prop where
  cl : RCl K C w
  makes : PySem.W.makesIn K C = true
  kp : PySem.W.keepIn K (.ref C) = true
  rd : PySem.W.readsIn K C (.type "type") = true
  ga : PySem.W.specialIn K (.ref C) "__getattribute__" = some (some (.builtin "type.__getattribute__"))
  con : ∃ u, PySem.W.findCls K (.ref C) (.type "type") "word" = some (.val u) ∧ RelV (.str w) u ∧ PySem.W.handedIn u = true
theorem rcB_ok {K : PySem.W.Frag} {C : Addr} {w : Str} (h : rcB K C w = true) : RTop K C w := by
  simp only [rcB, Bool.and_eq_true, beq_iff_eq] at h
  obtain ⟨h1, h2, h3, h4, h5, h6, h7, h8, h9, h10, h11, h12, h13, h14, h15, h16, h17⟩ := h
  have hw : ∃ u, Con K C "word" (.str w) u := by
    split at h16
    · rename_i z t e
      simp only [Bool.and_eq_true, beq_iff_eq] at h16
      obtain ⟨q1, q2⟩ := h16
      subst q1
      exact ⟨_, e, ⟨t, rfl⟩, q2, by decide +kernel⟩
    · cases h16
  have hc : ∃ u, PySem.W.findCls K (.ref C) (.type "type") "word" = some (.val u) ∧ RelV (.str w) u ∧ PySem.W.handedIn u = true := by
    split at h17
    · rename_i z t e
      simp only [beq_iff_eq] at h17
      subst h17
      exact ⟨_, e, ⟨t, rfl⟩, rfl⟩
    · cases h17
  exact ⟨⟨⟨h1, h2, h3, h4⟩, h5, h6, h7, hw, h8, h9, h10, h11⟩, h12, h13, h14, h15, hc⟩
/-- one class for each kind of rule -/
def cfOf (C0 C1 C2 C3 : Addr) : RK → Addr
  | .out => C0
  | .twice => C1
  | .swapped => C2
  | .taken => C3
def allRK : List RK := [.out, .twice, .swapped, .taken]
theorem mem_allRK (k : RK) : k ∈ allRK := by cases k <;> simp [allRK]
def rtB (K : PySem.W.Frag) (Cf : RK → Addr) (R fs fe : Addr) : Bool :=
  (allRK.all fun a => rcB K (Cf a) a.word && ((allRK.all fun b => PySem.W.kitOne K (.ref (Cf a)) (.ref (Cf b)) == some (decide (a = b)) && PySem.W.notFirst K (Cf a) (.ref (Cf b))) && (PySem.W.kitOne K (.ref (Cf a)) (.ref R) == some true && (PySem.W.notFirst K (Cf a) (.type "tuple") &&
    (PySem.W.findIn K (.ref (Cf a)) "__str__" == some (some (.ref fs)) && PySem.W.findIn K (.ref (Cf a)) "__eq__" == some (some (.ref fe))))))) &&
  (PySem.W.kitOne K (.type "tuple") (.ref R) == some false && (PySem.W.readsIn K R (.type "type") && (PySem.W.specialIn K (.ref R) "__getattribute__" == some (some (.builtin "type.__getattribute__")) && (PySem.W.isFn K (.ref fs) && PySem.W.isFn K (.ref fe)))))
structure RTops (K : PySem.W.Frag) (mg : Str → Option Value) (Cf : RK → Addr) (R fs fe : Addr) : Prop where
  tab : RTab K mg Cf R
  top : ∀ k, RTop K (Cf k) k.word
  rR : ClsRd K mg "Rule" R
  str : ∀ k, PySem.W.findIn K (.ref (Cf k)) "__str__" = some (some (.ref fs))
  eq : ∀ k, PySem.W.findIn K (.ref (Cf k)) "__eq__" = some (some (.ref fe))
  fns : PySem.W.isFn K (.ref fs) = true
  fne : PySem.W.isFn K (.ref fe) = true
theorem rtB_ok {K : PySem.W.Frag} {mg : Str → Option Value} {Cf : RK → Addr} {R fs fe : Addr} (h : rtB K Cf R fs fe = true) (g : ∀ k, mg (RK.cls k) = some (.ref (Cf k))) (gR : mg "Rule" = some (.ref R)) : RTops K mg Cf R fs fe := by
  simp only [rtB, Bool.and_eq_true, List.all_eq_true, beq_iff_eq] at h
  obtain ⟨h1, h2, h3, h4, h5, h6⟩ := h
  have t : ∀ k, RTop K (Cf k) k.word := fun k => rcB_ok (h1 k (mem_allRK k)).1
  exact ⟨⟨fun k => (t k).cl, g, gR, fun a b => ((h1 a (mem_allRK a)).2.1 b (mem_allRK b)).1, fun a => (h1 a (mem_allRK a)).2.2.1, h2, fun a b => ((h1 a (mem_allRK a)).2.1 b (mem_allRK b)).2, fun a => (h1 a (mem_allRK a)).2.2.2.1⟩, t, ⟨gR, h3, h4⟩, fun k => (h1 k (mem_allRK k)).2.2.2.2.1, fun k => (h1 k (mem_allRK k)).2.2.2.2.2, h5, h6⟩
end Ss
namespace Ss
open PySem L2 PyProof.Rows
/-- the built-in names that the text leaves as they are -/
def noB (K : PySem.W.Frag) : Bool := (["len", "abs", "int", "range", "tuple", "list", "str", "isinstance", "sorted", "set", "enumerate", "max", "min", "sum", "all", "ord", "any"] : List Str).all fun x => PySem.W.nsIn K mainGlobals x == some none
theorem noB_ok {K : PySem.W.Frag} {h : Heap} {mg : Str → Option Value} (X : K.In h) (G : h.Ns mainGlobals mg) (e : noB K = true) : G0 mg ∧ mg "all" = none ∧ mg "ord" = none ∧ mg "any" = none := by
  simp only [noB, List.all_cons, List.all_nil, Bool.and_eq_true, beq_iff_eq, and_true] at e
  obtain ⟨e1, e2, e3, e4, e5, e6, e7, e8, e9, e10, e11, e12, e13, e14, e15, e16, e17⟩ := e
  exact ⟨⟨PySem.W.mg_none_of X G e1, PySem.W.mg_none_of X G e2, PySem.W.mg_none_of X G e3, PySem.W.mg_none_of X G e4, PySem.W.mg_none_of X G e5, PySem.W.mg_none_of X G e6, PySem.W.mg_none_of X G e7, PySem.W.mg_none_of X G e8, PySem.W.mg_none_of X G e9, PySem.W.mg_none_of X G e10, PySem.W.mg_none_of X G e11, PySem.W.mg_none_of X G e12, PySem.W.mg_none_of X G e13, PySem.W.mg_none_of X G e14⟩, PySem.W.mg_none_of X G e15, PySem.W.mg_none_of X G e16, PySem.W.mg_none_of X G e17⟩
theorem all_mk {l : PySem.W.OpenLaw} {w : World} {K : PySem.W.Frag} {h : Heap} {mg : Str → Option Value} {fa : Addr}
    {fd0 : Addr} {od0 an0 : Option Addr} {sl0 : Array (Option Value)} {oc0 kV0 dc0 pm0 cd0 ct0 : Value}
    {fd1 : Addr} {od1 an1 : Option Addr} {sl1 : Array (Option Value)} {oc1 kV1 dc1 pm1 cd1 ct1 : Value}
    {fd2 : Addr} {od2 an2 : Option Addr} {sl2 : Array (Option Value)} {oc2 kV2 dc2 pm2 cd2 ct2 : Value}
    {fd3 : Addr} {od3 an3 : Option Addr} {sl3 : Array (Option Value)} {oc3 kV3 dc3 pm3 cd3 ct3 : Value}
    {fd4 : Addr} {od4 an4 : Option Addr} {sl4 : Array (Option Value)} {oc4 kV4 dc4 pm4 cd4 ct4 : Value}
    {fd5 : Addr} {od5 an5 : Option Addr} {sl5 : Array (Option Value)} {oc5 kV5 dc5 pm5 cd5 ct5 : Value}
    {fd6 : Addr} {od6 an6 : Option Addr} {sl6 : Array (Option Value)} {oc6 kV6 dc6 pm6 cd6 ct6 : Value}
    {fd7 : Addr} {od7 an7 : Option Addr} {sl7 : Array (Option Value)} {oc7 kV7 dc7 pm7 cd7 ct7 : Value}
    {fd8 : Addr} {od8 an8 : Option Addr} {sl8 : Array (Option Value)} {oc8 kV8 dc8 pm8 cd8 ct8 : Value}
    {fd9 : Addr} {od9 an9 : Option Addr} {sl9 : Array (Option Value)} {oc9 kV9 dc9 pm9 cd9 ct9 : Value}
    {fd10 : Addr} {od10 an10 : Option Addr} {sl10 : Array (Option Value)} {oc10 kV10 dc10 pm10 cd10 ct10 : Value}
    {fd11 : Addr} {od11 an11 : Option Addr} {sl11 : Array (Option Value)} {oc11 kV11 dc11 pm11 cd11 ct11 : Value}
    {fd12 : Addr} {od12 an12 : Option Addr} {sl12 : Array (Option Value)} {oc12 kV12 dc12 pm12 cd12 ct12 : Value}
    {fd13 : Addr} {od13 an13 : Option Addr} {sl13 : Array (Option Value)} {oc13 kV13 dc13 pm13 cd13 ct13 : Value}
    {fd14 : Addr} {od14 an14 : Option Addr} {sl14 : Array (Option Value)} {oc14 kV14 dc14 pm14 cd14 ct14 : Value}
    {fd15 : Addr} {od15 an15 : Option Addr} {sl15 : Array (Option Value)} {oc15 kV15 dc15 pm15 cd15 ct15 : Value}
    {fd16 : Addr} {od16 an16 : Option Addr} {sl16 : Array (Option Value)} {oc16 kV16 dc16 pm16 cd16 ct16 : Value}
    {fd17 : Addr} {od17 an17 : Option Addr} {sl17 : Array (Option Value)} {oc17 kV17 dc17 pm17 cd17 ct17 : Value}
    {fd18 : Addr} {od18 an18 : Option Addr} {sl18 : Array (Option Value)} {oc18 kV18 dc18 pm18 cd18 ct18 : Value}
    {fd19 : Addr} {od19 an19 : Option Addr} {sl19 : Array (Option Value)} {oc19 kV19 dc19 pm19 cd19 ct19 : Value}
    {Cb fe0 S : Addr} {nm0 q0 N0 bs0 bm0 sn0 sub0 ab0 col0 dd0 ka0 kb0 kc0 kd0 ke0} {oe0 : Value} {ode0 ane0 : Option Addr} {sle0 : Array (Option Value)} {kVe0 dce0 pme0 cde0 cte0 : Value}
    {Cn fe1 : Addr} {nm1 q1 N1 bs1 bm1 sn1 sub1 ab1 col1 dd1 ka1 kb1 kc1 kd1 ke1} {oe1 : Value} {ode1 ane1 : Option Addr} {sle1 : Array (Option Value)} {kVe1 dce1 pme1 cde1 cte1 : Value}
    {um up : Value}
    {R C0 C1 C2 C3 : Addr}
    {fs fe : Addr}
    {fg : Addr} {o_fg : Value} {od_fg an_fg : Option Addr} {sl_fg : Array (Option Value)} {kv_fg dc_fg pm_fg cd_fg ct_fg : Value}
    {ft : Addr} {o_ft : Value} {od_ft an_ft : Option Addr} {sl_ft : Array (Option Value)} {kv_ft dc_ft pm_ft cd_ft ct_ft : Value}
    {fi0 : Addr} {o_fi0 : Value} {od_fi0 an_fi0 : Option Addr} {sl_fi0 : Array (Option Value)} {kv_fi0 dc_fi0 pm_fi0 cd_fi0 ct_fi0 : Value}
    {fi1 : Addr} {o_fi1 : Value} {od_fi1 an_fi1 : Option Addr} {sl_fi1 : Array (Option Value)} {kv_fi1 dc_fi1 pm_fi1 cd_fi1 ct_fi1 : Value}
    {fi2 : Addr} {o_fi2 : Value} {od_fi2 an_fi2 : Option Addr} {sl_fi2 : Array (Option Value)} {kv_fi2 dc_fi2 pm_fi2 cd_fi2 ct_fi2 : Value}
    {fi3 : Addr} {o_fi3 : Value} {od_fi3 an_fi3 : Option Addr} {sl_fi3 : Array (Option Value)} {kv_fi3 dc_fi3 pm_fi3 cd_fi3 ct_fi3 : Value}
    (X : K.In h) (G : h.Ns mainGlobals mg) (hfa : mg "law" = some (.ref fa))
    (da0 : PySem.W.nsIn K mainGlobals "_law_bag" = some (some (.ref fd0))) (dl0 : K.lookup fd0 = some ⟨oc0, od0, .func (PySem.W.fnOf "_law_bag" "_law_bag" (defArgs sBag) (defBody sBag) (defScope sBag) .none kV0 dc0 pm0 an0 cd0 ct0), sl0⟩) (dc_0 : PySem.W.codeIn K cd0 "_law_bag" = true) (dk0 : PySem.W.keepIn K (.ref fd0) = true)
    (da1 : PySem.W.nsIn K mainGlobals "_law_take" = some (some (.ref fd1))) (dl1 : K.lookup fd1 = some ⟨oc1, od1, .func (PySem.W.fnOf "_law_take" "_law_take" (defArgs sTake) (defBody sTake) (defScope sTake) .none kV1 dc1 pm1 an1 cd1 ct1), sl1⟩) (dc_1 : PySem.W.codeIn K cd1 "_law_take" = true) (dk1 : PySem.W.keepIn K (.ref fd1) = true)
    (da2 : PySem.W.nsIn K mainGlobals "_law_of" = some (some (.ref fd2))) (dl2 : K.lookup fd2 = some ⟨oc2, od2, .func (PySem.W.fnOf "_law_of" "_law_of" (defArgs sOf) (defBody sOf) (defScope sOf) .none kV2 dc2 pm2 an2 cd2 ct2), sl2⟩) (dc_2 : PySem.W.codeIn K cd2 "_law_of" = true) (dk2 : PySem.W.keepIn K (.ref fd2) = true)
    (da3 : PySem.W.nsIn K mainGlobals "_law_signs" = some (some (.ref fd3))) (dl3 : K.lookup fd3 = some ⟨oc3, od3, .func (PySem.W.fnOf "_law_signs" "_law_signs" (defArgs sSigns) (defBody sSigns) (defScope sSigns) .none kV3 dc3 pm3 an3 cd3 ct3), sl3⟩) (dc_3 : PySem.W.codeIn K cd3 "_law_signs" = true) (dk3 : PySem.W.keepIn K (.ref fd3) = true)
    (da4 : PySem.W.nsIn K mainGlobals "_law_token" = some (some (.ref fd4))) (dl4 : K.lookup fd4 = some ⟨oc4, od4, .func (PySem.W.fnOf "_law_token" "_law_token" (defArgs sToken) (defBody sToken) (defScope sToken) .none kV4 dc4 pm4 an4 cd4 ct4), sl4⟩) (dc_4 : PySem.W.codeIn K cd4 "_law_token" = true) (dk4 : PySem.W.keepIn K (.ref fd4) = true)
    (da5 : PySem.W.nsIn K mainGlobals "_law_laid" = some (some (.ref fd5))) (dl5 : K.lookup fd5 = some ⟨oc5, od5, .func (PySem.W.fnOf "_law_laid" "_law_laid" (defArgs sLaid) (defBody sLaid) (defScope sLaid) .none kV5 dc5 pm5 an5 cd5 ct5), sl5⟩) (dc_5 : PySem.W.codeIn K cd5 "_law_laid" = true) (dk5 : PySem.W.keepIn K (.ref fd5) = true)
    (da6 : PySem.W.nsIn K mainGlobals "_law_rule" = some (some (.ref fd6))) (dl6 : K.lookup fd6 = some ⟨oc6, od6, .func (PySem.W.fnOf "_law_rule" "_law_rule" (defArgs sLrule) (defBody sLrule) (defScope sLrule) .none kV6 dc6 pm6 an6 cd6 ct6), sl6⟩) (dc_6 : PySem.W.codeIn K cd6 "_law_rule" = true) (dk6 : PySem.W.keepIn K (.ref fd6) = true)
    (da7 : PySem.W.nsIn K mainGlobals "_law_meeting" = some (some (.ref fd7))) (dl7 : K.lookup fd7 = some ⟨oc7, od7, .func (PySem.W.fnOf "_law_meeting" "_law_meeting" (defArgs sMeet) (defBody sMeet) (defScope sMeet) .none kV7 dc7 pm7 an7 cd7 ct7), sl7⟩) (dc_7 : PySem.W.codeIn K cd7 "_law_meeting" = true) (dk7 : PySem.W.keepIn K (.ref fd7) = true)
    (da8 : PySem.W.nsIn K mainGlobals "_law_before" = some (some (.ref fd8))) (dl8 : K.lookup fd8 = some ⟨oc8, od8, .func (PySem.W.fnOf "_law_before" "_law_before" (defArgs sBefore) (defBody sBefore) (defScope sBefore) .none kV8 dc8 pm8 an8 cd8 ct8), sl8⟩) (dc_8 : PySem.W.codeIn K cd8 "_law_before" = true) (dk8 : PySem.W.keepIn K (.ref fd8) = true)
    (da9 : PySem.W.nsIn K mainGlobals "_law_behind" = some (some (.ref fd9))) (dl9 : K.lookup fd9 = some ⟨oc9, od9, .func (PySem.W.fnOf "_law_behind" "_law_behind" (defArgs sBehind) (defBody sBehind) (defScope sBehind) .none kV9 dc9 pm9 an9 cd9 ct9), sl9⟩) (dc_9 : PySem.W.codeIn K cd9 "_law_behind" = true) (dk9 : PySem.W.keepIn K (.ref fd9) = true)
    (da10 : PySem.W.nsIn K mainGlobals "_law_where" = some (some (.ref fd10))) (dl10 : K.lookup fd10 = some ⟨oc10, od10, .func (PySem.W.fnOf "_law_where" "_law_where" (defArgs sWhere) (defBody sWhere) (defScope sWhere) .none kV10 dc10 pm10 an10 cd10 ct10), sl10⟩) (dc_10 : PySem.W.codeIn K cd10 "_law_where" = true) (dk10 : PySem.W.keepIn K (.ref fd10) = true)
    (da11 : PySem.W.nsIn K mainGlobals "_law_ruled" = some (some (.ref fd11))) (dl11 : K.lookup fd11 = some ⟨oc11, od11, .func (PySem.W.fnOf "_law_ruled" "_law_ruled" (defArgs sRuled) (defBody sRuled) (defScope sRuled) .none kV11 dc11 pm11 an11 cd11 ct11), sl11⟩) (dc_11 : PySem.W.codeIn K cd11 "_law_ruled" = true) (dk11 : PySem.W.keepIn K (.ref fd11) = true)
    (da12 : PySem.W.nsIn K mainGlobals "_law_told" = some (some (.ref fd12))) (dl12 : K.lookup fd12 = some ⟨oc12, od12, .func (PySem.W.fnOf "_law_told" "_law_told" (defArgs sTold) (defBody sTold) (defScope sTold) .none kV12 dc12 pm12 an12 cd12 ct12), sl12⟩) (dc_12 : PySem.W.codeIn K cd12 "_law_told" = true) (dk12 : PySem.W.keepIn K (.ref fd12) = true)
    (da13 : PySem.W.nsIn K mainGlobals "_law_flat" = some (some (.ref fd13))) (dl13 : K.lookup fd13 = some ⟨oc13, od13, .func (PySem.W.fnOf "_law_flat" "_law_flat" (defArgs sFlat) (defBody sFlat) (defScope sFlat) .none kV13 dc13 pm13 an13 cd13 ct13), sl13⟩) (dc_13 : PySem.W.codeIn K cd13 "_law_flat" = true) (dk13 : PySem.W.keepIn K (.ref fd13) = true)
    (da14 : PySem.W.nsIn K mainGlobals "tokens_of" = some (some (.ref fd14))) (dl14 : K.lookup fd14 = some ⟨oc14, od14, .func (PySem.W.fnOf "tokens_of" "tokens_of" (defArgs sTokensof) (defBody sTokensof) (defScope sTokensof) .none kV14 dc14 pm14 an14 cd14 ct14), sl14⟩) (dc_14 : PySem.W.codeIn K cd14 "tokens_of" = true) (dk14 : PySem.W.keepIn K (.ref fd14) = true)
    (da15 : PySem.W.nsIn K mainGlobals "runs_of" = some (some (.ref fd15))) (dl15 : K.lookup fd15 = some ⟨oc15, od15, .func (PySem.W.fnOf "runs_of" "runs_of" (defArgs sRuns) (defBody sRuns) (defScope sRuns) .none kV15 dc15 pm15 an15 cd15 ct15), sl15⟩) (dc_15 : PySem.W.codeIn K cd15 "runs_of" = true) (dk15 : PySem.W.keepIn K (.ref fd15) = true)
    (da16 : PySem.W.nsIn K mainGlobals "slipped_at" = some (some (.ref fd16))) (dl16 : K.lookup fd16 = some ⟨oc16, od16, .func (PySem.W.fnOf "slipped_at" "slipped_at" (defArgs sSat) (defBody sSat) (defScope sSat) .none kV16 dc16 pm16 an16 cd16 ct16), sl16⟩) (dc_16 : PySem.W.codeIn K cd16 "slipped_at" = true) (dk16 : PySem.W.keepIn K (.ref fd16) = true)
    (da17 : PySem.W.nsIn K mainGlobals "kept" = some (some (.ref fd17))) (dl17 : K.lookup fd17 = some ⟨oc17, od17, .func (PySem.W.fnOf "kept" "kept" (defArgs sKept) (defBody sKept) (defScope sKept) .none kV17 dc17 pm17 an17 cd17 ct17), sl17⟩) (dc_17 : PySem.W.codeIn K cd17 "kept" = true) (dk17 : PySem.W.keepIn K (.ref fd17) = true)
    (da18 : PySem.W.nsIn K mainGlobals "is_token" = some (some (.ref fd18))) (dl18 : K.lookup fd18 = some ⟨oc18, od18, .func (PySem.W.fnOf "is_token" "is_token" (defArgs sIstok) (defBody sIstok) (defScope sIstok) .none kV18 dc18 pm18 an18 cd18 ct18), sl18⟩) (dc_18 : PySem.W.codeIn K cd18 "is_token" = true) (dk18 : PySem.W.keepIn K (.ref fd18) = true)
    (da19 : PySem.W.nsIn K mainGlobals "law" = some (some (.ref fd19))) (dl19 : K.lookup fd19 = some ⟨oc19, od19, .func (PySem.W.fnOf "law" "law" (defArgs sLaw48) (defBody sLaw48) (defScope sLaw48) .none kV19 dc19 pm19 an19 cd19 ct19), sl19⟩) (dc_19 : PySem.W.codeIn K cd19 "law" = true) (dk19 : PySem.W.keepIn K (.ref fd19) = true)
    (ea0 : PySem.W.nsIn K mainGlobals "BadRule" = some (some (.ref Cb))) (el0 : K.lookup Cb = some (excClassObj nm0 q0 Cb N0 bs0 bm0 true sn0 sub0 ab0 col0 dd0 ka0 kb0 kc0 kd0 ke0 "ValueError.__new__")) (eb0 : bm0 = [.ref S, .type "ValueError", .type "Exception", .type "BaseException", .type "object"]) (et0 : topB K Cb ["worth"] = true) (ei0 : PySem.W.findIn K (.ref Cb) "__init__" = some (some (.ref fe0))) (ef0 : K.lookup fe0 = some ⟨oe0, ode0, .func (PySem.W.fnOf "__init__" "BadRule.__init__" (defArgs sBadRule) (defBody sBadRule) (defScope sBadRule) .none kVe0 dce0 pme0 ane0 cde0 cte0), sle0⟩) (eco0 : PySem.W.codeIn K cde0 "BadRule.__init__" = true) (ek0 : PySem.W.keepIn K (.ref fe0) = true) (eu0 : PySem.W.isFn K (.ref fe0) = true)
    (ea1 : PySem.W.nsIn K mainGlobals "NoPlace" = some (some (.ref Cn))) (el1 : K.lookup Cn = some (excClassObj nm1 q1 Cn N1 bs1 bm1 true sn1 sub1 ab1 col1 dd1 ka1 kb1 kc1 kd1 ke1 "ValueError.__new__")) (eb1 : bm1 = [.ref S, .type "ValueError", .type "Exception", .type "BaseException", .type "object"]) (et1 : topB K Cn ["place"] = true) (ei1 : PySem.W.findIn K (.ref Cn) "__init__" = some (some (.ref fe1))) (ef1 : K.lookup fe1 = some ⟨oe1, ode1, .func (PySem.W.fnOf "__init__" "NoPlace.__init__" (defArgs sNoPlace) (defBody sNoPlace) (defScope sNoPlace) .none kVe1 dce1 pme1 ane1 cde1 cte1), sle1⟩) (eco1 : PySem.W.codeIn K cde1 "NoPlace.__init__" = true) (ek1 : PySem.W.keepIn K (.ref fe1) = true) (eu1 : PySem.W.isFn K (.ref fe1) = true)
    (sS : PySem.W.nsIn K mainGlobals "SlipError" = some (some (.ref S))) (sr : PySem.W.readsIn K S (.type "type") = true) (sg : PySem.W.specialIn K (.ref S) "__getattribute__" = some (some (.builtin "type.__getattribute__"))) (sv : PySem.W.findCls K (.ref S) (.type "type") "__init__" = some (.val (.builtin "ValueError.__init__")))
    (xx : PySem.W.exmOne K (.ref Cn) (.ref Cn) = some true)
    (cM : PySem.W.nsIn K mainGlobals "MOST_SIGNS" = some (some um)) (cMe : ∃ t, um = .int 4 t) (cP : PySem.W.nsIn K mainGlobals "PERCENT" = some (some up)) (cPe : ∃ t, up = .int 37 t)
    (gR : PySem.W.nsIn K mainGlobals "Rule" = some (some (.ref R)))
    (gc0 : PySem.W.nsIn K mainGlobals "Out" = some (some (.ref C0)))
    (gc1 : PySem.W.nsIn K mainGlobals "Twice" = some (some (.ref C1)))
    (gc2 : PySem.W.nsIn K mainGlobals "Swapped" = some (some (.ref C2)))
    (gc3 : PySem.W.nsIn K mainGlobals "Taken" = some (some (.ref C3)))
    (in0 : PySem.W.findIn K (.ref C0) "__init__" = some (some (.ref fi0)))
    (in1 : PySem.W.findIn K (.ref C1) "__init__" = some (some (.ref fi1)))
    (in2 : PySem.W.findIn K (.ref C2) "__init__" = some (some (.ref fi2)))
    (in3 : PySem.W.findIn K (.ref C3) "__init__" = some (some (.ref fi3)))
    (vR : PySem.W.findCls K (.ref R) (.type "type") "__init__" = some (.val (.ref fg)))
    (sd0 : PySem.W.findIn K (.ref C0) "stands" = some (some (.ref ft)))
    (sd1 : PySem.W.findIn K (.ref C1) "stands" = some (some (.ref ft)))
    (sd2 : PySem.W.findIn K (.ref C2) "stands" = some (some (.ref ft)))
    (sd3 : PySem.W.findIn K (.ref C3) "stands" = some (some (.ref ft)))
    (vs_ : PySem.W.findIn K (.ref C0) "__str__" = some (some (.ref fs))) (ve_ : PySem.W.findIn K (.ref C0) "__eq__" = some (some (.ref fe)))
    (l_fg : K.lookup fg = some ⟨o_fg, od_fg, .func (PySem.W.fnOf "__init__" "Rule.__init__" (defArgs sRinit) (defBody sRinit) (defScope sRinit) .none kv_fg dc_fg pm_fg an_fg cd_fg ct_fg), sl_fg⟩) (c_fg : PySem.W.codeIn K cd_fg "Rule.__init__" = true) (k_fg : PySem.W.keepIn K (.ref fg) = true) (u_fg : PySem.W.isFn K (.ref fg) = true)
    (l_ft : K.lookup ft = some ⟨o_ft, od_ft, .func (PySem.W.fnOf "stands" "Rule.stands" (defArgs sStands) (defBody sStands) (defScope sStands) .none kv_ft dc_ft pm_ft an_ft cd_ft ct_ft), sl_ft⟩) (c_ft : PySem.W.codeIn K cd_ft "Rule.stands" = true) (k_ft : PySem.W.keepIn K (.ref ft) = true) (u_ft : PySem.W.isFn K (.ref ft) = true)
    (l_fi0 : K.lookup fi0 = some ⟨o_fi0, od_fi0, .func (PySem.W.fnOf "__init__" "Out.__init__" (defArgs sOinit) (defBody sOinit) (defScope sOinit) .none kv_fi0 dc_fi0 pm_fi0 an_fi0 cd_fi0 ct_fi0), sl_fi0⟩) (c_fi0 : PySem.W.codeIn K cd_fi0 "Out.__init__" = true) (k_fi0 : PySem.W.keepIn K (.ref fi0) = true) (u_fi0 : PySem.W.isFn K (.ref fi0) = true)
    (l_fi1 : K.lookup fi1 = some ⟨o_fi1, od_fi1, .func (PySem.W.fnOf "__init__" "Twice.__init__" (defArgs sWinit) (defBody sWinit) (defScope sWinit) .none kv_fi1 dc_fi1 pm_fi1 an_fi1 cd_fi1 ct_fi1), sl_fi1⟩) (c_fi1 : PySem.W.codeIn K cd_fi1 "Twice.__init__" = true) (k_fi1 : PySem.W.keepIn K (.ref fi1) = true) (u_fi1 : PySem.W.isFn K (.ref fi1) = true)
    (l_fi2 : K.lookup fi2 = some ⟨o_fi2, od_fi2, .func (PySem.W.fnOf "__init__" "Swapped.__init__" (defArgs sSinit) (defBody sSinit) (defScope sSinit) .none kv_fi2 dc_fi2 pm_fi2 an_fi2 cd_fi2 ct_fi2), sl_fi2⟩) (c_fi2 : PySem.W.codeIn K cd_fi2 "Swapped.__init__" = true) (k_fi2 : PySem.W.keepIn K (.ref fi2) = true) (u_fi2 : PySem.W.isFn K (.ref fi2) = true)
    (l_fi3 : K.lookup fi3 = some ⟨o_fi3, od_fi3, .func (PySem.W.fnOf "__init__" "Taken.__init__" (defArgs sKinit) (defBody sKinit) (defScope sKinit) .none kv_fi3 dc_fi3 pm_fi3 an_fi3 cd_fi3 ct_fi3), sl_fi3⟩) (c_fi3 : PySem.W.codeIn K cd_fi3 "Taken.__init__" = true) (k_fi3 : PySem.W.keepIn K (.ref fi3) = true) (u_fi3 : PySem.W.isFn K (.ref fi3) = true)
    (rt : rtB K (cfOf C0 C1 C2 C3) R fs fe = true)
    (no : noB K = true) :
    ∃ fd : FuncData, (∀ (s : Shared) (v : Value), BindsTo s fd ⟨[v], []⟩ [("script", v)]) ∧ ∀ base : Heap, K.In base → base.Ns mainGlobals mg → FnOk l.prog w K mg base CX0 9 fa fd ["script"] (spLaw K) := by
  have e := hfa.symm.trans (PySem.W.mg_of X G da19)
  cases e
  obtain ⟨T, nall, nord, nany⟩ := noB_ok X G no
  have F0 : DefAt K mg "_law_bag" sBag := def_at X G da0 dl0 dc_0 dk0
  have F1 : DefAt K mg "_law_take" sTake := def_at X G da1 dl1 dc_1 dk1
  have F2 : DefAt K mg "_law_of" sOf := def_at X G da2 dl2 dc_2 dk2
  have F3 : DefAt K mg "_law_signs" sSigns := def_at X G da3 dl3 dc_3 dk3
  have F4 : DefAt K mg "_law_token" sToken := def_at X G da4 dl4 dc_4 dk4
  have F5 : DefAt K mg "_law_laid" sLaid := def_at X G da5 dl5 dc_5 dk5
  have F6 : DefAt K mg "_law_rule" sLrule := def_at X G da6 dl6 dc_6 dk6
  have F7 : DefAt K mg "_law_meeting" sMeet := def_at X G da7 dl7 dc_7 dk7
  have F8 : DefAt K mg "_law_before" sBefore := def_at X G da8 dl8 dc_8 dk8
  have F9 : DefAt K mg "_law_behind" sBehind := def_at X G da9 dl9 dc_9 dk9
  have F10 : DefAt K mg "_law_where" sWhere := def_at X G da10 dl10 dc_10 dk10
  have F11 : DefAt K mg "_law_ruled" sRuled := def_at X G da11 dl11 dc_11 dk11
  have F12 : DefAt K mg "_law_told" sTold := def_at X G da12 dl12 dc_12 dk12
  have F13 : DefAt K mg "_law_flat" sFlat := def_at X G da13 dl13 dc_13 dk13
  have F14 : DefAt K mg "tokens_of" sTokensof := def_at X G da14 dl14 dc_14 dk14
  have F15 : DefAt K mg "runs_of" sRuns := def_at X G da15 dl15 dc_15 dk15
  have F16 : DefAt K mg "slipped_at" sSat := def_at X G da16 dl16 dc_16 dk16
  have F17 : DefAt K mg "kept" sKept := def_at X G da17 dl17 dc_17 dk17
  have F18 : DefAt K mg "is_token" sIstok := def_at X G da18 dl18 dc_18 dk18
  refine ⟨PySem.W.fnOf "law" "law" (defArgs sLaw48) (defBody sLaw48) (defScope sLaw48) .none kV19 dc19 pm19 an19 cd19 ct19, fun s v => .of_eq rfl, fun base _ _ => ?_⟩
  have FL : Fun K "law" "law" sLaw48 _ _ := fun_mk (st := sLaw48) dl19 dc_19 dk19
  have Dtake : Dk l.prog w K mg base CX0 1 "_law_take" ["dice", "many"] spTake := ok_take F1 T
  have Dof := ok_of F2 T Dtake
  have Dsigns : Dk l.prog w K mg base CX0 1 "_law_signs" [] spSigns := ok_signs F3
  have Dkept : Dk l.prog w K mg base CX0 2 "kept" ["value"] (spKept K 1) := ok_kept F17 T 1
  have E0 : EAtop K mg "BadRule" "BadRule.__init__" Cb "ValueError.__init__" ["worth"] sBadRule := etop_S X G ea0 el0 eb0 et0 ei0 ef0 eco0 ek0 eu0
  have BS : SlipB K mg S := ⟨PySem.W.mg_of X G sS, sr, sg, sv⟩
  have E1 : EAtop K mg "NoPlace" "NoPlace.__init__" Cn "ValueError.__init__" ["place"] sNoPlace := etop_S X G ea1 el1 eb1 et1 ei1 ef1 eco1 ek1 eu1
  have DN := ok_NoPlace (P := l.prog) (w := w) (base := base) E1 BS Dkept
  have DB := ok_BadRule (P := l.prog) (w := w) (base := base) E0 BS Dkept
  have Dtok : Dk l.prog w K mg base CX0 1 "is_token" ["text"] spIsTok := ok_istok F18 T nall nord (by
    obtain ⟨t, e⟩ := cMe; exact ⟨t, e ▸ PySem.W.mg_of X G cM⟩) (by obtain ⟨t, e⟩ := cPe; exact ⟨t, e ▸ PySem.W.mg_of X G cP⟩)
  have Z : RTops K mg (cfOf C0 C1 C2 C3) R fs fe := rtB_ok rt (fun k => by
    cases k
    · exact PySem.W.mg_of X G gc0
    · exact PySem.W.mg_of X G gc1
    · exact PySem.W.mg_of X G gc2
    · exact PySem.W.mg_of X G gc3) (PySem.W.mg_of X G gR)
  have Lg : Fun K "__init__" "Rule.__init__" sRinit fg _ := fun_mk (st := sRinit) l_fg c_fg k_fg
  have L0 : Fun K "__init__" "Out.__init__" sOinit fi0 _ := fun_mk (st := sOinit) l_fi0 c_fi0 k_fi0
  have L1 : Fun K "__init__" "Twice.__init__" sWinit fi1 _ := fun_mk (st := sWinit) l_fi1 c_fi1 k_fi1
  have LS2 : Fun K "__init__" "Swapped.__init__" sSinit fi2 _ := fun_mk (st := sSinit) l_fi2 c_fi2 k_fi2
  have L3 : Fun K "__init__" "Taken.__init__" sKinit fi3 _ := fun_mk (st := sKinit) l_fi3 c_fi3 k_fi3
  have Fr := ok_Rinit (P := l.prog) (w := w) (base := base) Lg T Dtok DB
  have N0 : NewD l.prog w K mg base (L2.CX l.prog w) C0 6 "Out" ["self", "token"] (spNew Cb C0 .out) := ⟨fi0, _, ⟨(Z.top .out).makes, in0, u_fi0, (Z.top .out).kp⟩, ok_Oinit L0 Z.rR vR k_fg (Z.top .out).cl Fr, PySem.W.mg_of X G gc0, L0.binds fun _ _ _ _ _ _ us hl => match us, hl with | [_, _], _ => rfl⟩
  have N1 : NewD l.prog w K mg base (L2.CX l.prog w) C1 6 "Twice" ["self", "token"] (spNew Cb C1 .twice) := ⟨fi1, _, ⟨(Z.top .twice).makes, in1, u_fi1, (Z.top .twice).kp⟩, ok_Winit L1 Z.rR vR k_fg (Z.top .twice).cl Fr, PySem.W.mg_of X G gc1, L1.binds fun _ _ _ _ _ _ us hl => match us, hl with | [_, _], _ => rfl⟩
  have N2 : NewD l.prog w K mg base (L2.CX l.prog w) C2 6 "Swapped" ["self", "first", "second"] (spNew Cb C2 .swapped) := ⟨fi2, _, ⟨(Z.top .swapped).makes, in2, u_fi2, (Z.top .swapped).kp⟩, ok_Sinit LS2 Z.rR vR k_fg (Z.top .swapped).cl Fr, PySem.W.mg_of X G gc2, LS2.binds fun _ _ _ _ _ _ us hl => match us, hl with | [_, _, _], _ => rfl⟩
  have N3 : NewD l.prog w K mg base (L2.CX l.prog w) C3 6 "Taken" ["self", "first", "second"] (spNew Cb C3 .taken) := ⟨fi3, _, ⟨(Z.top .taken).makes, in3, u_fi3, (Z.top .taken).kp⟩, ok_Kinit L3 Z.rR vR k_fg (Z.top .taken).cl Fr, PySem.W.mg_of X G gc3, L3.binds fun _ _ _ _ _ _ us hl => match us, hl with | [_, _, _], _ => rfl⟩
  have DR := ok_ruled (Cf := cfOf C0 C1 C2 C3) F11 N0 N1 N2 N3
  have Dst : ∀ kd, Mm l.prog w K mg base CX0 (cfOf C0 C1 C2 C3 kd) 1 "stands" ["self", "tokens", "place"] (spStands K (cfOf C0 C1 C2 C3)) := fun kd => by
    cases kd
    · exact ok_stands (meth_at sd0 u_ft l_ft c_ft k_ft) T Z.tab
    · exact ok_stands (meth_at sd1 u_ft l_ft c_ft k_ft) T Z.tab
    · exact ok_stands (meth_at sd2 u_ft l_ft c_ft k_ft) T Z.tab
    · exact ok_stands (meth_at sd3 u_ft l_ft c_ft k_ft) T Z.tab
  have Dtoks := ok_tokensof F14 (ok_runs (P := l.prog) (w := w) (base := base) F15)
  have Dsat := ok_sat F16 T nany Z.tab Dtoks Dst DN
  have Dtold := ok_told F12 Dsat E1.mg E1.ec (E1.no "place" List.mem_cons_self) xx
  have Dbef := ok_before (P := l.prog) (w := w) (base := base) F8 T
  exact ok_law FL T (ok_bag F0 T) Dtake Dof (ok_token F4 T Dof Dsigns) (ok_laid F5 T Dof) (ok_meet F7 T Dtake Dof (ok_lrule F6 T Dtake Dof)) Dbef (ok_behind F9 T) (ok_where F10 T Dbef) DR Dtold (ok_flat F13 T)
theorem walk {l : PySem.W.OpenLaw} {q : Program} {loose : List Str} {XP : (Str → Option Value) → Heap → Prop} {YP : World → Heap → Prop} {d : DefRec} {K : Params → PySem.W.Frag} (hn : l.most = some 63) (hdf : d.params.defaults = [])
    (hY : ∀ (w : World) (h : Heap), YP w h → (K w.params).In h)
    (F : ∀ (w : World) (mg : Str → Option Value) (fa : Addr) (h : Heap), (K w.params).In h → h.Ns mainGlobals mg → mg d.name = some (.ref fa) →
      ∃ fd : FuncData, (∀ (s : Shared) (u : Value), BindsTo s fd ⟨[u], []⟩ [("script", u)]) ∧ ∀ base : Heap, (K w.params).In base → base.Ns mainGlobals mg → FnOk l.prog w (K w.params) mg base CX0 9 fa fd ["script"] (spLaw (K w.params))) :
    PySem.W.WalkO q loose XP YP l.row.toRowW d [] (fun f vs => PySem.call f vs) :=
  L2.walk_of (n := 63) (k := 9) (x := "script") (CX := fun _ => CX0) (sp := fun w => spLaw (K w.params)) hn (by decide) hdf ⟨rfl, by decide, by decide⟩ hY F (fun _ _ a ns hl _ hS => ⟨a, ns, rfl, hS, hl, fun _ => rfl⟩) fun _ _ _ _ _ z => z
end Ss
open PySem PySem.W PyProof.Rows in
set_option maxRecDepth 100000 in
set_option maxHeartbeats 0 in
theorem PySem.Challenge.cw_silentslips_k48_several_slips_together_holds : PySem.Challenge.rw_silentslips_k48_several_slips_together.Holds := by
  w_on; o_law; k_head; (case hw => w_witness2)
  k_fill
  refine Ss.walk (l := PySem.Challenge.rw_silentslips_k48_several_slips_together) rfl rfl (fun w h Y => PySem.W.kIn_of Y) ?F
  case F =>
    intro w mg fa h KX G hmg
    refine' Ss.all_mk KX G hmg ?da0 ?dl0 ?dc_0 ?dk0 ?da1 ?dl1 ?dc_1 ?dk1 ?da2 ?dl2 ?dc_2 ?dk2 ?da3 ?dl3 ?dc_3 ?dk3 ?da4 ?dl4 ?dc_4 ?dk4 ?da5 ?dl5 ?dc_5 ?dk5 ?da6 ?dl6 ?dc_6 ?dk6 ?da7 ?dl7 ?dc_7 ?dk7 ?da8 ?dl8 ?dc_8 ?dk8 ?da9 ?dl9 ?dc_9 ?dk9 ?da10 ?dl10 ?dc_10 ?dk10 ?da11 ?dl11 ?dc_11 ?dk11 ?da12 ?dl12 ?dc_12 ?dk12 ?da13 ?dl13 ?dc_13 ?dk13 ?da14 ?dl14 ?dc_14 ?dk14 ?da15 ?dl15 ?dc_15 ?dk15 ?da16 ?dl16 ?dc_16 ?dk16 ?da17 ?dl17 ?dc_17 ?dk17 ?da18 ?dl18 ?dc_18 ?dk18 ?da19 ?dl19 ?dc_19 ?dk19 ?ea0 ?el0 ?eb0 ?et0 ?ei0 ?ef0 ?eco0 ?ek0 ?eu0 ?ea1 ?el1 ?eb1 ?et1 ?ei1 ?ef1 ?eco1 ?ek1 ?eu1 ?sS ?sr ?sg ?sv ?xx ?cM ?cMe ?cP ?cPe ?gR ?gc0 ?gc1 ?gc2 ?gc3 ?in0 ?in1 ?in2 ?in3 ?vR ?sd0 ?sd1 ?sd2 ?sd3 ?vs_ ?ve_ ?l_fg ?c_fg ?k_fg ?u_fg ?l_ft ?c_ft ?k_ft ?u_ft ?l_fi0 ?c_fi0 ?k_fi0 ?u_fi0 ?l_fi1 ?c_fi1 ?k_fi1 ?u_fi1 ?l_fi2 ?c_fi2 ?k_fi2 ?u_fi2 ?l_fi3 ?c_fi3 ?k_fi3 ?u_fi3 ?rt ?no
    (case da0 => k_is)
    (case dl0 => k_is)
    (case dc_0 => k_is)
    (case dk0 => k_is)
    (case da1 => k_is)
    (case dl1 => k_is)
    (case dc_1 => k_is)
    (case dk1 => k_is)
    (case da2 => k_is)
    (case dl2 => k_is)
    (case dc_2 => k_is)
    (case dk2 => k_is)
    (case da3 => k_is)
    (case dl3 => k_is)
    (case dc_3 => k_is)
    (case dk3 => k_is)
    (case da4 => k_is)
    (case dl4 => k_is)
    (case dc_4 => k_is)
    (case dk4 => k_is)
    (case da5 => k_is)
    (case dl5 => k_is)
    (case dc_5 => k_is)
    (case dk5 => k_is)
    (case da6 => k_is)
    (case dl6 => k_is)
    (case dc_6 => k_is)
    (case dk6 => k_is)
    (case da7 => k_is)
    (case dl7 => k_is)
    (case dc_7 => k_is)
    (case dk7 => k_is)
    (case da8 => k_is)
    (case dl8 => k_is)
    (case dc_8 => k_is)
    (case dk8 => k_is)
    (case da9 => k_is)
    (case dl9 => k_is)
    (case dc_9 => k_is)
    (case dk9 => k_is)
    (case da10 => k_is)
    (case dl10 => k_is)
    (case dc_10 => k_is)
    (case dk10 => k_is)
    (case da11 => k_is)
    (case dl11 => k_is)
    (case dc_11 => k_is)
    (case dk11 => k_is)
    (case da12 => k_is)
    (case dl12 => k_is)
    (case dc_12 => k_is)
    (case dk12 => k_is)
    (case da13 => k_is)
    (case dl13 => k_is)
    (case dc_13 => k_is)
    (case dk13 => k_is)
    (case da14 => k_is)
    (case dl14 => k_is)
    (case dc_14 => k_is)
    (case dk14 => k_is)
    (case da15 => k_is)
    (case dl15 => k_is)
    (case dc_15 => k_is)
    (case dk15 => k_is)
    (case da16 => k_is)
    (case dl16 => k_is)
    (case dc_16 => k_is)
    (case dk16 => k_is)
    (case da17 => k_is)
    (case dl17 => k_is)
    (case dc_17 => k_is)
    (case dk17 => k_is)
    (case da18 => k_is)
    (case dl18 => k_is)
    (case dc_18 => k_is)
    (case dk18 => k_is)
    (case da19 => k_is)
    (case dl19 => k_is)
    (case dc_19 => k_is)
    (case dk19 => k_is)
    (case ea0 => k_is)
    (case el0 => k_is)
    (case eb0 => rfl)
    (case et0 => first | rfl | kernel_rfl)
    (case ei0 => k_is)
    (case ef0 => k_is)
    (case eco0 => k_is)
    (case ek0 => k_is)
    (case eu0 => k_is)
    (case ea1 => k_is)
    (case el1 => k_is)
    (case eb1 => rfl)
    (case et1 => first | rfl | kernel_rfl)
    (case ei1 => k_is)
    (case ef1 => k_is)
    (case eco1 => k_is)
    (case ek1 => k_is)
    (case eu1 => k_is)
    (case sS => k_is)
    (case sr => k_is)
    (case sg => k_is)
    (case sv => k_is)
    (case xx => first | rfl | k_is | kernel_rfl)
    (case cM => k_is)
    (case cMe => exact ⟨_, rfl⟩)
    (case cP => k_is)
    (case cPe => exact ⟨_, rfl⟩)
    (case gR => k_is)
    (case gc0 => k_is)
    (case gc1 => k_is)
    (case gc2 => k_is)
    (case gc3 => k_is)
    (case in0 => k_is)
    (case in1 => k_is)
    (case in2 => k_is)
    (case in3 => k_is)
    (case vR => k_is)
    (case sd0 => k_is)
    (case sd1 => k_is)
    (case sd2 => k_is)
    (case sd3 => k_is)
    (case vs_ => k_is)
    (case ve_ => k_is)
    (case l_fg => k_is)
    (case c_fg => k_is)
    (case k_fg => k_is)
    (case u_fg => k_is)
    (case l_ft => k_is)
    (case c_ft => k_is)
    (case k_ft => k_is)
    (case u_ft => k_is)
    (case l_fi0 => k_is)
    (case c_fi0 => k_is)
    (case k_fi0 => k_is)
    (case u_fi0 => k_is)
    (case l_fi1 => k_is)
    (case c_fi1 => k_is)
    (case k_fi1 => k_is)
    (case u_fi1 => k_is)
    (case l_fi2 => k_is)
    (case c_fi2 => k_is)
    (case k_fi2 => k_is)
    (case u_fi2 => k_is)
    (case l_fi3 => k_is)
    (case c_fi3 => k_is)
    (case k_fi3 => k_is)
    (case u_fi3 => k_is)
    (case rt => first | rfl | kernel_rfl)
    (case no => first | rfl | kernel_rfl)
