import PyProof.Rows.All
import Wide.All
import OpenK.AllK
import Wide.FinOn
import HandS.ForMost
import HandS.EndBits
import HandS.Wide
import HandS.WideBits
import HandS.Style
import HandS.IsInst
import HandS.TupAny
import HandS.OwnEq
import HandS.Evl
import HandS.Exc
import HandS.WordsExc
import HandS.Walk
import HandS.Replace
import HandS.ReplaceLit
import HandS.ReplaceDef
import HandS.ReplaceList
import PySem.Challenge.RW_silentslips_k29_tokens_of_a_text
set_option Elab.async false
set_option linter.all false
set_option maxRecDepth 100000
set_option maxHeartbeats 4000000
namespace Ss
open PySem L2
/-! ### defs by name -/
/-- the def st of the module stands under the name x -/
structure DefAt (K : PySem.W.Frag) (mg : Str → Option Value) (x : Str) (st : Stmt) : Prop where
  ex : ∃ (f : Addr) (fd : FuncData), Fun K x x st f fd ∧ mg x = some (.ref f)
/-- the module's def x keeps the promise sp, at most level k -/
structure Dk (P : Program) (w : World) (K : PySem.W.Frag) (mg : Str → Option Value) (base : Heap) (CX : CXT) (k : Nat) (x : Str) (ps : List Str) (sp : Sp) : Prop where
  ex : ∃ (f : Addr) (fd : FuncData), FnOk P w K mg base CX k f fd ps sp ∧ mg x = some (.ref f) ∧ PySem.W.keepIn K (.ref f) = true ∧ Binds K fd ps []
/-- the method st of the class at C -/
structure MethAt (K : PySem.W.Frag) (C : Addr) (m qual : Str) (st : Stmt) : Prop where
  ex : ∃ (f : Addr) (fd : FuncData), Fun K m qual st f fd ∧ Meth K C m f
structure Mm (P : Program) (w : World) (K : PySem.W.Frag) (mg : Str → Option Value) (base : Heap) (CX : CXT) (C : Addr) (k : Nat) (m : Str) (ps : List Str) (sp : Sp) : Prop where
  ex : ∃ (f : Addr) (fd : FuncData), FnOk P w K mg base CX k f fd ps sp ∧ Meth K C m f ∧ Binds K fd ps []
theorem def_at {K : PySem.W.Frag} {h : Heap} {mg : Str → Option Value} {x : Str} {st : Stmt} {f : Addr} {oc : Value} {od an : Option Addr} {osl : Array (Option Value)} {kV doc pm cdv ct : Value} (X : K.In h) (G : h.Ns mainGlobals mg)
    (a : PySem.W.nsIn K mainGlobals x = some (some (.ref f))) (l : K.lookup f = some ⟨oc, od, .func (PySem.W.fnOf x x (defArgs st) (defBody st) (defScope st) .none kV doc pm an cdv ct), osl⟩)
    (c : PySem.W.codeIn K cdv x = true) (k : PySem.W.keepIn K (.ref f) = true) : DefAt K mg x st := ⟨f, _, fun_mk l c k, PySem.W.mg_of X G a⟩
theorem meth_at {K : PySem.W.Frag} {C : Addr} {m qual : Str} {st : Stmt} {f : Addr} {oc : Value} {od an : Option Addr} {osl : Array (Option Value)} {kV doc pm cdv ct : Value}
    (a : PySem.W.findIn K (.ref C) m = some (some (.ref f))) (i : PySem.W.isFn K (.ref f) = true) (l : K.lookup f = some ⟨oc, od, .func (PySem.W.fnOf m qual (defArgs st) (defBody st) (defScope st) .none kV doc pm an cdv ct), osl⟩)
    (c : PySem.W.codeIn K cdv qual = true) (k : PySem.W.keepIn K (.ref f) = true) : MethAt K C m qual st := ⟨f, _, fun_mk l c k, a, i, k⟩
section
variable {X : Cx} {CX : CXT} {k j : Nat} {C : Addr} {ps : List Str} {sp : Sp} {E : XK} {x m : Str} {p pos apos : Pos} {e o : Expr} {es : List Expr} {ta : TE} {t : TA}
/-- x(e, ..) of a def that keeps sp -/
theorem pe_cd (D : Dk X.prog X.w X.K X.mg X.base CX k x ps sp) (hr : Room j X.A) (hx : Passes CX X E) (ha : PA X (e :: es) t) (hk : k ≤ j := by decide) (hg : Gl X x := by rfl) (hdb : (x == ("__debug__" : Str)) = false := by decide)
    (he : starEach (e :: es) X.env = (false, eval e X.env) :: starEach es X.env := by rfl) (hpl : (backTo pos (starEach es X.env)).any (·.1) = false := by rfl) : PE X (.Call (.Name x p) (e :: es) [] pos) (tCall sp [] E t) := by
  obtain ⟨f, fd, F, mf, kp, b⟩ := D.ex
  exact pe_call F (hr.mono hk) hg mf kp b .nil hx ha hdb he hpl
theorem pe_cd0 (D : Dk X.prog X.w X.K X.mg X.base CX k x ps sp) (hr : Room j X.A) (hx : Passes CX X E) (hk : k ≤ j := by decide) (hg : Gl X x := by rfl) (hdb : (x == ("__debug__" : Str)) = false := by decide) :
    PE X (.Call (.Name x p) [] [] pos) (tCall sp [] E tNil) := by
  obtain ⟨f, fd, F, mf, kp, b⟩ := D.ex
  exact pe_call0 F (hr.mono hk) hg mf kp b .nil hx hdb
/-- o.m(e, ..) -/
theorem pe_md {pl : Sem Bool} (he : PE X o ta) (c : Cls X.K C) (D : Mm X.prog X.w X.K X.mg X.base CX C k m ps sp) (hr : Room j X.A) (hx : Passes CX X E) (ha : PA X (e :: es) t) (hk : k ≤ j := by decide)
    (hst : starEach (e :: es) X.env = (false, eval e X.env) :: starEach es X.env := by rfl) (hpl : (backTo pos (starEach es X.env)).any (·.1) = false := by rfl)
    (ht : eval (.Call (.Attribute o m apos) (e :: es) [] pos) X.env = (do
      let ov ← eval o X.env
      standAt apos.atName
      let (f, first) ← holding [ov] (getMethod ov m pl)
      callWith pos f first (backTo pos (starEach (e :: es) X.env)) (backToKw pos (keywordEach [] X.env))) := by rfl) :
    PE X (.Call (.Attribute o m apos) (e :: es) [] pos) (tMeth C m sp [] E ta t) := by
  obtain ⟨f, fd, F, mf, b⟩ := D.ex
  exact pe_meth he c mf F (hr.mono hk) b .nil hx ha hst hpl ht
theorem pe_md0 {pl : Sem Bool} (he : PE X o ta) (c : Cls X.K C) (D : Mm X.prog X.w X.K X.mg X.base CX C k m ps sp) (hr : Room j X.A) (hx : Passes CX X E) (hk : k ≤ j := by decide)
    (ht : eval (.Call (.Attribute o m apos) [] [] pos) X.env = (do
      let ov ← eval o X.env
      standAt apos.atName
      let (f, first) ← holding [ov] (getMethod ov m pl)
      callWith pos f first (backTo pos (starEach [] X.env)) (backToKw pos (keywordEach [] X.env))) := by rfl) :
    PE X (.Call (.Attribute o m apos) [] [] pos) (tMeth C m sp [] E ta tNil) := by
  obtain ⟨f, fd, F, mf, b⟩ := D.ex
  exact pe_meth0 he c mf F (hr.mono hk) b .nil hx ht
end
/-- all that stood at other places than b stands -/
def Off (b : Addr) (H H' : Hp) : Prop := ∀ a o, a ≠ b → H a = some o → H' a = some o
theorem Off.refl (b : Addr) (H : Hp) : Off b H H := fun _ _ _ h => h
theorem Off.trans {b : Addr} {H H1 H2 : Hp} (x : Off b H H1) (y : Off b H1 H2) : Off b H H2 := fun a o n h => y a o n (x a o n h)
theorem Off.upd {b : Addr} {H H1 : Hp} {o : HO} (x : Off b H H1) : Off b H (L2.upd H1 b o) := fun a u n h => by
  rw [upd_ne n]; exact x a u n h
theorem Off.new {b p : Addr} {H H1 : Hp} {o : HO} (x : Off b H H1) (hp : H1 p = none) : Off b H (L2.upd H1 p o) := fun a u n h => by
  rw [upd_ne (ne_of_none (x a u n h) hp)]; exact x a u n h
theorem Off.of {b : Addr} {H H' : Hp} (x : Same H H') : Off b H H' := fun a o _ h => x a o h
theorem Same.new {H H1 : Hp} {p : Addr} {o : HO} (x : Same H H1) (hp : H1 p = none) : Same H (L2.upd H1 p o) := fun a u h => by
  rw [upd_ne (ne_of_none (x a u h) hp)]; exact x a u h
theorem Off.seq {K : PySem.W.Frag} {H H' : Hp} {a b : Addr} {xs : List V} (e : Off b H H') (n : a ≠ b) (h : SqL K H a xs) : SqL K H' a xs := by
  rcases h with (h | ⟨o, h⟩) | h
  · exact .inl (.inl (e _ _ n h))
  · exact .inl (.inr ⟨o, e _ _ n h⟩)
  · exact .inr h
theorem Off.tup {K : PySem.W.Frag} {H H' : Hp} {a b : Addr} {xs : List V} (e : Off b H H') (n : a ≠ b) (h : SqT K H a xs) : SqT K H' a xs := by
  rcases h with (h | ⟨o, h⟩) | h
  · exact .inl (.inl (e _ _ n h))
  · exact .inl (.inr ⟨o, e _ _ n h⟩)
  · exact .inr h
abbrev MB : Int := 11529215047000000000
/-- dice at b, asked at most n times -/
def Bag (H : Hp) (b : Addr) (n : Nat) : Prop := ∃ d m c : Int, H b = some (.lst [.int d, .int m, .int c]) ∧ 0 ≤ d ∧ 0 ≤ m ∧ m < MB ∧ 0 ≤ c ∧ c ≤ n
theorem Bag.mono {H : Hp} {b : Addr} {n k : Nat} (h : Bag H b n) (hk : n ≤ k) : Bag H b k := by
  obtain ⟨d, m, c, h1, h2, h3, h4, h5, h6⟩ := h
  exact ⟨d, m, c, h1, h2, h3, h4, h5, by omega⟩
theorem Bag.same {H H' : Hp} {b : Addr} {n : Nat} (h : Bag H b n) (s : Same H H') : Bag H' b n := by
  obtain ⟨d, m, c, h1, r⟩ := h
  exact ⟨d, m, c, s _ _ h1, r⟩
theorem Bag.new {H : Hp} {b p : Addr} {n : Nat} {o : HO} (h : Bag H b n) (hp : H p = none) : Bag (upd H p o) b n := by
  obtain ⟨d, m, c, h1, r⟩ := h
  exact ⟨d, m, c, by rw [upd_ne (ne_of_none h1 hp)]; exact h1, r⟩
theorem Bag.ne {H : Hp} {b p : Addr} {n : Nat} (h : Bag H b n) (hp : H p = none) : b ≠ p := by
  obtain ⟨d, m, c, h1, r⟩ := h
  exact ne_of_none h1 hp
/-- the names of the built-ins are the built-ins' -/
structure G0 (mg : Str → Option Value) : Prop where
  len : mg "len" = none
  abs : mg "abs" = none
  int : mg "int" = none
  range : mg "range" = none
  tuple : mg "tuple" = none
  list : mg "list" = none
  str : mg "str" = none
  isinstance : mg "isinstance" = none
  sorted : mg "sorted" = none
  set : mg "set" = none
  enumerate : mg "enumerate" = none
  max : mg "max" = none
  min : mg "min" = none
  sum : mg "sum" = none

/-! ### texts by their codes -/
def mkS (l : List Nat) : Str := ⟨l.toArray⟩
theorem mkS_inj {a b : List Nat} (h : mkS a = mkS b) : a = b := by
  have e : a.toArray = b.toArray := congrArg Str.cps h
  simpa using e
theorem mkS_app (a b : List Nat) : mkS a ++ mkS b = mkS (a ++ b) := by
  show (⟨a.toArray ++ b.toArray⟩ : Str) = ⟨(a ++ b).toArray⟩
  rw [List.append_toArray]
theorem mkS_len (a : List Nat) : (mkS a).length = a.length := by
  show a.toArray.size = a.length
  simp
theorem mkS_cps (a : List Nat) : (mkS a).cps.toList = a := by
  show a.toArray.toList = a
  simp
theorem mkS_one (c : Nat) : (⟨#[c]⟩ : Str) = mkS [c] := rfl
theorem mkS_nil : ("" : Str) = mkS [] := by decide +kernel
theorem mkS_of (z : Str) : z = mkS z.cps.toList := by
  show z = ⟨z.cps.toList.toArray⟩
  cases z; simp
theorem cut_to (a : List Nat) (k : Nat) : cutS (mkS a) none (some (k : Int)) = mkS (a.take k) := by
  unfold cutS
  rw [HT.sIx_none, HT.sIx_nat, mkS_cps, mkS_len]
  show mkS ((a.drop 0).take (min k a.length - 0)) = mkS (a.take k)
  rw [List.drop_zero, Nat.sub_zero]
  have e : a.take (min k a.length) = a.take k := List.take_eq_take_iff.mpr (by omega)
  rw [e]
theorem inV_str {x : Str} {xs : List Str} : inV (.str x) (xs.map V.str) = decide (x ∈ xs) := by
  induction xs with
  | nil => simp [inV]
  | cons y xs ih =>
    have e : inV (.str x) ((y :: xs).map V.str) = (eqV (.str y) (.str x) || inV (.str x) (xs.map V.str)) := rfl
    rw [e, ih]
    have e2 : eqV (.str y) (.str x) = (y == x) := rfl
    rw [e2]
    by_cases h : x = y
    · subst h; simp
    · have h2 : (y == x) = false := by
        cases q : (y == x) with
        | false => rfl
        | true => exact absurd (eq_of_beq q).symm h
      rw [h2]; simp [h]
theorem flat_strs (xs : List Str) : (xs.map V.str).all flatV = true := by
  rw [List.all_map]
  exact List.all_eq_true.mpr fun _ _ => rfl
theorem atI_int {α : Type} {xs : List α} {i : Int} (h0 : 0 ≤ i) (h : i.toNat < xs.length) : atI xs i = some xs[i.toNat] := by
  have q := atI_nat (List.getElem?_eq_getElem h)
  have e : ((i.toNat : Nat) : Int) = i := Int.toNat_of_nonneg h0
  exact (congrArg (atI xs) e).symm.trans q
/-- the characters of tokens, the letters -/
def SGN : List Nat := ((List.range 94).map (· + 33)).filter (· != 37)
def LET : List Nat := (List.range 26).map (· + 97)
theorem sgn_len : SGN.length = 93 := by decide +kernel
theorem let_len : LET.length = 26 := by decide +kernel
theorem sgn_nd : SGN.Nodup := by decide +kernel
theorem let_nd : LET.Nodup := by decide +kernel
/-- a list without repetition, all of whose items stand in another one, is not longer -/
theorem nodup_le {α : Type} [DecidableEq α] : ∀ {l m : List α}, l.Nodup → (∀ x ∈ l, x ∈ m) → l.length ≤ m.length
  | [], m, _, _ => Nat.zero_le _
  | a :: l, m, hn, hs => by
    have ha : a ∈ m := hs a List.mem_cons_self
    have h1 := nodup_le (l := l) (m := m.erase a) (List.nodup_cons.mp hn).2 fun x hx => by
      have hne : x ≠ a := fun e => (List.nodup_cons.mp hn).1 (e ▸ hx)
      exact (List.mem_erase_of_ne hne).mpr (hs x (List.mem_cons_of_mem _ hx))
    have h2 := List.length_erase_of_mem ha
    have h3 : 0 < m.length := List.length_pos_of_mem ha
    rw [List.length_cons]
    omega
theorem nodup_map_inj {α β : Type} {f : α → β} : ∀ {l : List α}, l.Nodup → (∀ a b, f a = f b → a = b) → (l.map f).Nodup
  | [], _, _ => List.nodup_nil
  | a :: l, hn, hf => by
    rw [List.map_cons]
    refine List.nodup_cons.mpr ⟨fun h => ?_, nodup_map_inj (List.nodup_cons.mp hn).2 hf⟩
    obtain ⟨b, hb, e⟩ := List.mem_map.mp h
    exact (List.nodup_cons.mp hn).1 (hf _ _ e ▸ hb)
/-- one more sign behind the base, where made is taken: what comes of it -/
def more1 (xs : List Str) (bs : List Nat) (m : List Nat) (c : Nat) : List Nat := if mkS m ∈ xs then bs ++ [c] else m
theorem more_yes {xs : List Str} {bs m : List Nat} {c : Nat} (h : mkS m ∈ xs) : more1 xs bs m c = bs ++ [c] := if_pos h
theorem more_no {xs : List Str} {bs m : List Nat} {c : Nat} (h : mkS m ∉ xs) : more1 xs bs m c = m := if_neg h
theorem more_keep {xs : List Str} {bs : List Nat} : ∀ (cs : List Nat) {m : List Nat}, mkS m ∉ xs → cs.foldl (more1 xs bs) m = m
  | [], _, _ => rfl
  | c :: cs, m, h => by
    rw [List.foldl_cons]
    have e : more1 xs bs m c = m := if_neg h
    rw [e]
    exact more_keep cs h
theorem more_all {xs : List Str} {bs : List Nat} : ∀ (cs : List Nat) {m : List Nat}, mkS (cs.foldl (more1 xs bs) m) ∈ xs → mkS m ∈ xs ∧ ∀ c ∈ cs, mkS (bs ++ [c]) ∈ xs
  | [], m, h => ⟨h, fun _ hc => by cases hc⟩
  | c :: cs, m, h => by
    rw [List.foldl_cons] at h
    obtain ⟨h1, h2⟩ := more_all cs h
    have hm : mkS m ∈ xs := by
      by_cases q : mkS m ∈ xs
      · exact q
      · have e : more1 xs bs m c = m := if_neg q
        rw [e] at h1
        exact h1
    have e : more1 xs bs m c = bs ++ [c] := if_pos hm
    rw [e] at h1
    refine ⟨hm, fun d hd => ?_⟩
    rcases List.mem_cons.mp hd with rfl | hd
    · exact h1
    · exact h2 d hd
theorem more_new {xs : List Str} {bs cs m : List Nat} (hn : cs.Nodup) (hl : xs.length < cs.length) : mkS (cs.foldl (more1 xs bs) m) ∉ xs := fun h => by
  have h2 := (more_all cs h).2
  have h3 : (cs.map fun c => mkS (bs ++ [c])).Nodup := by
    exact nodup_map_inj hn fun a b e => by
      have q := mkS_inj e
      simpa using q
  have h4 := nodup_le h3 fun x hx => by
    obtain ⟨c, hc, rfl⟩ := List.mem_map.mp hx
    exact h2 c hc
  rw [List.length_map] at h4
  omega
theorem more_shape {xs : List Str} {bs cs : List Nat} {S : List Nat → Prop} (hb : ∀ c, c ∈ cs → S (bs ++ [c])) : ∀ {m : List Nat}, S m → S (cs.foldl (more1 xs bs) m) := by
  induction cs with
  | nil => intro m h; exact h
  | cons c cs ih =>
    intro m h
    rw [List.foldl_cons]
    refine ih (fun d hd => hb d (List.mem_cons_of_mem _ hd)) ?_
    unfold more1
    split
    · exact hb c List.mem_cons_self
    · exact h
end Ss
namespace Ss
open PySem L2 PySem.Spec PyProof.Rows
/-! ### the block of a comprehension, whatever it fills -/
/-- ahead of a turn -/
def BlkJ (Y : Cx) (τ : L2.St) (tn : Nat → Heap → Prop) (fp : List Addr) (W : Nat → Nat → Hp → Prop) (n : Nat) (u : Shared) : Prop := ∃ (i : Nat) (G : Hp), Inv Y [] τ G u ∧ tn i u.heap ∧ (∀ b ∈ fp, G b = none) ∧ W i n G
/-- one turn: tests, then the act -/
abbrev TAct := L2.St → Hp → (Hp → Prop) → Prop
def Steps (J : It) (W : Nat → Nat → Hp → Prop) (g : TG) (tt : TT) (ta : TAct) (τ : L2.St) (vs : List Nat) (Qd : Hp → Prop) : Prop := ∀ i m G, W i m G →
  (J.stop i G ∧ Qd G) ∨ (J.go i G ∧ ∃ Nx : Hp → Prop, (∀ G', Nx G' → ∃ m', m' < m ∧ W (i + 1) m' G') ∧ ∀ x G', J.yld i G x G' → g x τ G' fun σ2 G2 => wipe σ2 vs = τ ∧ tt σ2 G2 fun b G3 => if b = true then ta σ2 G3 Nx else Nx G3)
theorem blk_turn {Y : Cx} {tg : Expr} {it : Addr} {fp : List Addr} {tn : Nat → Heap → Prop} {J : It} {τ : L2.St} {vs : List Nat} {W : Nat → Nat → Hp → Prop} {Qd : Hp → Prop} {g : TG} {tt : TT} {ta : TAct} {ifs : List Expr} {Rend : Shared → Prop} {Ac : (Shared → Prop) → Shared → Prop} {E1 E2 E3 E4 : Value → Shared → Prop}
    (hc : Y.calm = true) (T : Turn Y.prog Y.w Y.K tg J fp it tn) (pg : PG Y tg g) (pt : PTs Y ifs tt) (hx : Y.xe = fun _ _ => False)
    (hfp : ∀ (σ' : L2.St) (G : Hp) (u : Shared), Inv Y [] σ' G u → (∀ b ∈ fp, G b = none) → ∀ b ∈ fp, FpOk Y [] G b) (step : Steps J W g tt ta τ vs Qd)
    (hact : ∀ (pins : List (Addr × Obj)) (σ2 : L2.St) (G : Hp) (u : Shared) (Nx : Hp → Prop) (Fin : Shared → Prop), Inv Y pins σ2 G u → ta σ2 G Nx → (∀ u' G', Inv Y pins σ2 G' u' → Nx G' → Fin u') → Ac Fin u)
    (hend : ∀ u G, Inv Y [] τ G u → Qd G → Rend u) (n : Nat) (u : Shared) (hJ : BlkJ Y τ tn fp W n u) :
    wpAny (model Y.prog Y.w) Y.A (pyNext (.ref it)) (fun r s1 => match r with
      | none => Rend s1
      | some v => wpAny (model Y.prog Y.w) Y.A (letOwnedTupleGo tg (.ref it) v) (fun _ s2 => wpAny (model Y.prog Y.w) Y.A (assign tg Y.env v) (fun _ s3 =>
          wpAny (model Y.prog Y.w) Y.A (forIn ifs true fun c r => if r = true then do let ok ← isTrue c Y.env (eval c Y.env); pure (ForInStep.yield ok) else pure (ForInStep.yield r)) (fun ok s4 =>
            if ok = true then Ac (fun s5 => ∃ m, m < n ∧ BlkJ Y τ tn fp W m s5) s4 else ∃ m, m < n ∧ BlkJ Y τ tn fp W m s4) E1 s3) E2 s2) E3 s1) E4 u := by
  obtain ⟨i, G, I, st, hn, w⟩ := hJ
  have noE : ∀ {α : Type} {t : Sem α} {Q1 Q2 : α → Shared → Prop} {E : Value → Shared → Prop} {z : Shared}, wpAny (model Y.prog Y.w) Y.A t Q1 Y.xe z → (∀ a s, Q1 a s → Q2 a s) → wpAny (model Y.prog Y.w) Y.A t Q2 E z := fun h k => by
    rw [hx] at h
    exact thnF h k
  rcases step i n G w with ⟨hs, qd⟩ | ⟨hg, Nx, hNx, go⟩
  · refine thnF (T.done Y rfl rfl rfl hc i [] u τ G (fun _ _ => False) I (hfp _ _ _ I hn) st hs) fun r s1 z => ?_
    obtain ⟨rfl, I1⟩ := z
    exact hend s1 G I1 qd
  · refine thnF (T.item Y rfl rfl rfl hc i [] u τ G (fun _ _ => False) I (hfp _ _ _ I hn) st hg) fun r s1 z => ?_
    obtain ⟨y, rfl, z⟩ := z
    refine thnF z fun _ s2 z2 => ?_
    obtain ⟨x, G2, I2, rx, hy, st2, hn2⟩ := z2
    have I2p := I2.pinned (hfp _ _ _ I2 hn2) (T.obj _ _ st2)
    refine noE (pg.run _ s2 _ G2 x y _ I2p rx (go x G2 hy)) fun _ s3 z3 => ?_
    obtain ⟨σ3, G3, I3, hw, q3⟩ := z3
    refine noE (pt.run _ s3 σ3 G3 _ I3 q3) fun b s4 z4 => ?_
    obtain ⟨G4, I4, q4⟩ := z4
    have close : ∀ u' G', Inv Y ([] ++ pinsAt fp s2.heap) σ3 G' u' → Nx G' → ∃ m, m < n ∧ BlkJ Y τ tn fp W m u' := fun u' G' I' nx => by
      obtain ⟨m', hm, w'⟩ := hNx G' nx
      have at_ : ∀ b ∈ fp, ∀ o, s2.heap.get? b = some o → u'.heap.get? b = some o ∧ G' b = none := fun b hb o e => by
        have z := I'.pin (b, o) (List.mem_append_right _ (List.mem_append_right _ (mem_pinsAt hb e)))
        exact ⟨z.1, z.2.1⟩
      have len : τ.length = σ3.length := by rw [← hw, wipe_length]
      refine ⟨m', hm, i + 1, G', (I'.unpinned (pins := [])).weak len (fun j v e => ?_), T.keep _ _ _ st2 (fun b hb o e => (at_ b hb o e).1), (fun b hb => ?_), w'⟩
      · rw [← hw] at e
        exact (wipe_some e).1
      · obtain ⟨o, e, _⟩ := T.obj _ _ st2 b hb
        exact (at_ b hb o e).2
    cases b with
    | true => exact hact _ σ3 G4 s4 Nx _ I4 (by simpa using q4) close
    | false => exact close s4 G4 I4 (by simpa using q4)
/-- what a comprehension's turn asks of the loop -/
def TurnOf (M : Model) (A : Around) (tg : Expr) (ifs : List Expr) (env : Env) (it : Addr) (Ac : (Shared → Prop) → Shared → Prop) (R : Result → Shared → Prop) (J : Nat → Shared → Prop) : Prop := ∀ (E1 E2 E3 E4 : Value → Shared → Prop) (n : Nat) (u : Shared), J n u →
  wpAny M A (pyNext (.ref it)) (fun r s1 => match r with
      | none => R (.ok .next) s1
      | some v => wpAny M A (letOwnedTupleGo tg (.ref it) v) (fun _ s2 => wpAny M A (assign tg env v) (fun _ s3 =>
          wpAny M A (forIn ifs true fun c r => if r = true then do let ok ← isTrue c env (eval c env); pure (ForInStep.yield ok) else pure (ForInStep.yield r)) (fun ok s4 =>
            if ok = true then Ac (fun s5 => ∃ m, m < n ∧ J m s5) s4 else ∃ m, m < n ∧ J m s4) E1 s3) E2 s2) E3 s1) E4 u
/-- the word of a comprehension that fills the new thing O D -/
def tFill (wi : TI) (g : TG) (tt : TT) (ta : Addr → TAct) (O : Addr → HO) (vs : List Nat) : TE := fun σ H Q => wi σ H fun J H1 => ∀ D, H1 D = none → ∃ W : Nat → Nat → Hp → Prop, (∃ m, W 0 m (upd H1 D (O D))) ∧ Steps J W g tt (ta D) (wipe σ vs) vs (Q (.ref D))
theorem comp_runE {X : Cx} {pins : List (Addr × Obj)} {s : Shared} {σ : L2.St} {H : Hp} {Q : VK} {node tg iter : Expr} {ifs : List Expr} {scope : Scope} {own : List (Str × Nat)} {pos' : Pos} {wi : TI} {g : TG} {tt : TT} {ta : Addr → TAct} {O : Addr → HO} {newX : Sem Value} {o0 : Obj} {use : Option (Value → Sem Unit)} {Qf : Value → Shared → Prop}
    {Ac : Addr → Env → (Shared → Prop) → Shared → Prop}
    (hc : X.calm = true) (hN : X.N.Nodup) (I : Inv X pins σ H s) (hi : ∀ R : It → Hp → Prop, wi σ H R → wpAny (model X.prog X.w) X.A (eval iter X.env) (fun v s1 => wpAny (model X.prog X.w) X.A (pyIter v) (PIE X pins σ tg R) X.xe s1) X.xe s) (ok : BlkOk X.N X.env.scope scope own) (hcl : clausesOf node = [⟨tg, iter, ifs, 0⟩]) (hs : ∀ x, foldedSetIterable iter X.env x = pure x)
    (hnew : ∀ (z : Shared) (Q1 : Value → Shared → Prop) (E : Value → Shared → Prop), Q1 (.ref z.heap.objs.size) { z with heap := z.heap.push o0 } → wpAny (model X.prog X.w) X.A newX Q1 E z)
    (hobj : ∀ (H' : Hp) (h : Heap), sysModules < h.objs.size → ObjOk X.prog X.w H' (h.push o0) h.objs.size (O h.objs.size))
    (hg : ∀ (s : Shared) (H : Hp) (C : Addr) (cl : List (Str × Addr)) (fp : List Addr), PG (X.blk s H scope (compEnvC scope cl C X.env) fp) tg g) (ht : ∀ (s : Shared) (H : Hp) (C : Addr) (cl : List (Str × Addr)) (fp : List Addr), PTs (X.blk s H scope (compEnvC scope cl C X.env) fp) ifs tt)
    (hact : ∀ (s : Shared) (H : Hp) (C : Addr) (cl : List (Str × Addr)) (fp : List Addr) (D : Addr) (pins : List (Addr × Obj)) (σ2 : L2.St) (G : Hp) (u : Shared) (Nx : Hp → Prop) (Fin : Shared → Prop), Inv (X.blk s H scope (compEnvC scope cl C X.env) fp) pins σ2 G u → ta D σ2 G Nx →
      (∀ u' G', Inv (X.blk s H scope (compEnvC scope cl C X.env) fp) pins σ2 G' u' → Nx G' → Fin u') → Ac D (compEnvC scope cl C X.env) Fin u)
    (hstart : ∀ (it D : Addr) (env : Env) (R : Result → Shared → Prop) (z : Shared), codeAny (model X.prog X.w) X.A (.compLoop node 0 (.ref it) (.ref D) env) R z →
      (∀ (Q1 : Value → Shared → Prop) (E : Value → Shared → Prop), Q1 (.ref it) z → wpAny (model X.prog X.w) X.A (pyIter (.ref it)) Q1 E z) → codeAny (model X.prog X.w) X.A (.compStart node 0 (.ref it) (.ref D) env) R z)
    (hloop : ∀ (it D : Addr) (env : Env) (R : Result → Shared → Prop) (J : Nat → Shared → Prop), TurnOf (model X.prog X.w) X.A tg ifs env it (Ac D env) R J → ∀ n z, J n z → codeAny (model X.prog X.w) X.A (.compLoop node 0 (.ref it) (.ref D) env) R z)
    (h : tFill wi g tt ta O (own.map (·.2)) σ H Q)
    (hRR : ∀ D C s' m H', Inv X pins σ H' s' → Q (.ref D) H' → s'.heap.Ns C m → FpOk X pins H' C → compPost (model X.prog X.w) X.A X.xe use Qf (.ref D) C (.ok .next) s') :
    wpAny (model X.prog X.w) X.A (comprehension node scope X.env pos' newX false (eval iter X.env) use) Qf X.xe s := by
  have cells : ∀ y ∈ scope.names, y.2 = .free → ∃ c, X.env.cells.lookup y.1 = some c := fun y hy e => (ok.free y hy e).elim (fun k => I.ok.has _ (.inl k)) fun k => I.ok.has _ (.inr k)
  refine wpAny_comprehension_free (use := use) hcl hs (closure_ok cells) ok.kind (fun y hy e => by rw [ok.uniq y hy, e]) (thn (hi _ h) fun v s1 h1 => thn h1 fun itv s2 h2 => ?_)
  obtain ⟨it, fp, tn, J, H2, rfl, I2, T, st, f2, q⟩ := h2
  refine hnew s2 _ _ (newEnv_comp ?_)
  have n0 : H2 s2.heap.objs.size = none := I2.hok.fresh (Nat.le_refl _)
  obtain ⟨W, ⟨m0, w0⟩, steps⟩ := q _ n0
  generalize hs3 : ({ s2 with heap := s2.heap.push o0 } : Shared) = s3
  have e3 : s3.heap = s2.heap.push o0 := by rw [← hs3]
  have I3 : Inv X pins σ (upd H2 s2.heap.objs.size (O s2.heap.objs.size)) s3 := by
    rw [← hs3]
    exact I2.laid (t' := s2.toks) (fun b o e => Heap.get?_push_of_some _ e) (Nat.le_refl _) (hobj _ s2.heap I2.big)
  have low : ∀ b ∈ fp, b < s2.heap.objs.size := fun b hb => by
    obtain ⟨o, e, _⟩ := T.obj _ _ st b hb
    exact Heap.lt_size e
  have f3 : ∀ b ∈ fp, FpOk X pins (upd H2 s2.heap.objs.size (O s2.heap.objs.size)) b ∧ b < s3.heap.objs.size := fun b hb =>
    ⟨⟨by rw [upd_ne (Nat.ne_of_lt (low b hb))]; exact (f2 b hb).1, (f2 b hb).2⟩, by rw [e3, Heap.size_push]; exact Nat.lt_succ_of_lt (low b hb)⟩
  have I4 := block_start I3 ok hN f3
  have pg := hg s3 (upd H2 s2.heap.objs.size (O s2.heap.objs.size)) s3.heap.objs.size (cellsFrom (s3.heap.objs.size + 1) scope.names (cloFrom X.env.cells scope.names [])) fp
  have pt := ht s3 (upd H2 s2.heap.objs.size (O s2.heap.objs.size)) s3.heap.objs.size (cellsFrom (s3.heap.objs.size + 1) scope.names (cloFrom X.env.cells scope.names [])) fp
  have pa := hact s3 (upd H2 s2.heap.objs.size (O s2.heap.objs.size)) s3.heap.objs.size (cellsFrom (s3.heap.objs.size + 1) scope.names (cloFrom X.env.cells scope.names [])) fp s2.heap.objs.size
  show codeAny _ _ (.compStart node 0 (.ref it) (.ref s2.heap.objs.size) (compEnvC scope (cellsFrom (s3.heap.objs.size + 1) scope.names (cloFrom X.env.cells scope.names [])) s3.heap.objs.size X.env)) (compPost (model X.prog X.w) X.A X.xe use Qf (.ref s2.heap.objs.size) s3.heap.objs.size) { s3 with heap := pushCells (s3.heap.push { cls := .type "dict", data := .dict #[] }) scope.names }
  have none3 : ∀ b ∈ fp, (upd H2 s2.heap.objs.size (O s2.heap.objs.size)) b = none := fun b hb => (f3 b hb).1.1
  have loc4 : (compEnvC scope (cellsFrom (s3.heap.objs.size + 1) scope.names (cloFrom X.env.cells scope.names [])) s3.heap.objs.size X.env).locals = s3.heap.objs.size := rfl
  generalize compEnvC scope (cellsFrom (s3.heap.objs.size + 1) scope.names (cloFrom X.env.cells scope.names [])) s3.heap.objs.size X.env = ce at I4 pg pt pa loc4 ⊢
  have st4 : tn 0 (pushCells (s3.heap.push { cls := .type "dict", data := .dict #[] }) scope.names) := T.keep _ _ _ st fun b _ o e => pushCells_keeps _ _ _ _ (Heap.get?_push_of_some _ (by rw [e3]; exact Heap.get?_push_of_some _ e))
  refine hstart it _ ce _ _ (hloop it _ ce _ (BlkJ (X.blk s3 (upd H2 s2.heap.objs.size (O s2.heap.objs.size)) scope ce fp) (wipe σ (own.map (·.2))) tn fp W) (fun E1 E2 E3 E4 n u hJ => ?_) m0 _ ⟨0, _, I4, st4, none3, w0⟩) fun Q1 E z => T.self X.A 0 _ _ _ st4 z
  refine blk_turn (Y := X.blk s3 (upd H2 s2.heap.objs.size (O s2.heap.objs.size)) scope ce fp) hc T pg pt rfl (fun σ' G u' I' hn b hb => ?_) steps (fun pins σ2 G u' Nx Fin I' ta' k => pa pins σ2 G u' Nx Fin I' ta' k) (fun u' G I' qd => ?_) n u hJ
  · exact ⟨hn b hb, (I'.ok.exf b hb).1, I'.ok.exfs b hb, .inl hb, fun x c e => (I'.ok.exf b hb).2 x c e, fun p hp => nomatch (show p ∈ ([] : List (Addr × Obj)) ++ [] from hp)⟩
  · have I7 : Inv X pins σ G u' := I3.call' (ch := fp) I'.os I'.base I'.hok I'.bare fun b hb => ⟨(f3 b hb).1.2.2.2.1, (f3 b hb).1.2.1, (f3 b hb).1.2.2.2.2.1, (f3 b hb).1.2.2.2.2.2⟩
    have nC : G s3.heap.objs.size = none := by
      have z : G ce.locals = none := I'.free
      rwa [loc4] at z
    obtain ⟨m, hn, _⟩ := I'.loc
    have hn : u'.heap.Ns ce.locals m := hn
    rw [loc4] at hn
    exact hRR _ _ u' m G I7 qd hn (I3.fpOk (Nat.le_refl _) nC)
theorem TurnOf.at {M : Model} {A : Around} {tg : Expr} {ifs : List Expr} {env : Env} {it : Addr} {Ac1 : (Value → Shared → Prop) → (Shared → Prop) → Shared → Prop} {R : Result → Shared → Prop} {J : Nat → Shared → Prop} (t : TurnOf M A tg ifs env it (fun Fin z => ∀ E, Ac1 E Fin z) R J) (E0 : Value → Shared → Prop) (n : Nat) (u : Shared) (hJ : J n u) :
    wpAny M A (pyNext (.ref it)) (fun r s1 => match r with
      | none => R (.ok .next) s1
      | some v => wpAny M A (letOwnedTupleGo tg (.ref it) v) (fun _ s2 => wpAny M A (assign tg env v) (fun _ s3 =>
          wpAny M A (forIn ifs true fun c r => if r = true then do let ok ← isTrue c env (eval c env); pure (ForInStep.yield ok) else pure (ForInStep.yield r)) (fun ok s4 =>
            if ok = true then Ac1 E0 (fun s5 => ∃ m, m < n ∧ J m s5) s4 else ∃ m, m < n ∧ J m s4) E0 s3) E0 s2) E0 s1) E0 u := by
  refine wpAny_mono (t E0 E0 E0 E0 n u hJ) (fun r s1 h1 => ?_) fun _ _ z => z
  cases r with
  | none => exact h1
  | some v =>
    refine wpAny_mono h1 (fun _ s2 h2 => wpAny_mono h2 (fun _ s3 h3 => wpAny_mono h3 (fun ok s4 h4 => ?_) fun _ _ z => z) fun _ _ z => z) fun _ _ z => z
    cases ok with
    | true => exact (show ∀ E, Ac1 E (fun s5 => ∃ m, m < n ∧ J m s5) s4 from by simpa using h4) E0
    | false => exact h4
section
variable {X : Cx}
/-- [e for x in it if ..], the first token is out -/
theorem pet_lc {elt tg iter : Expr} {ifs : List Expr} {scope : Scope} {own : List (Str × Nat)} {pos : Pos} {wi : TI} {g : TG} {tt : TT} {te : TE} (hc : X.calm = true) (hN : X.N.Nodup) (hi : PIT X tg iter wi) (ok : BlkOk X.N X.env.scope scope own)
    (hg : ∀ (s : Shared) (H : Hp) (C : Addr) (cl : List (Str × Addr)) (fp : List Addr), PG (X.blk s H scope (compEnvC scope cl C X.env) fp) tg g) (ht : ∀ (s : Shared) (H : Hp) (C : Addr) (cl : List (Str × Addr)) (fp : List Addr), PTs (X.blk s H scope (compEnvC scope cl C X.env) fp) ifs tt)
    (he : ∀ (s : Shared) (H : Hp) (C : Addr) (cl : List (Str × Addr)) (fp : List Addr), PE (X.blk s H scope (compEnvC scope cl C X.env) fp) elt te) (hs : ∀ x, foldedSetIterable iter X.env x = pure x := by intro _; rfl) :
    PET X (.ListComp elt [⟨tg, iter, ifs, 0⟩] scope pos) (tLc wi g tt te (own.map (·.2))) := by
  intro pins s σ H Q h0 I h
  rw [eval_ListComp]
  refine comp_runE (o0 := { cls := .type "list", data := .seq ([] : List Value).toArray }) (O := fun _ => .lst []) (ta := fun D σ G Nx => te σ G fun y G1 => ∃ acc, G1 D = some (.lst acc) ∧ acc.length < sizeLine ∧ Nx (upd G1 D (.lst (acc ++ [y]))))
    (Ac := fun D env Fin u => ∀ E, wpAny (model X.prog X.w) X.A (eval elt env) (fun x s5 => wpAny (model X.prog X.w) X.A (call (.builtin "list.append") [.ref D, x]) (fun _ s6 => Fin s6) E s5) E u)
    hc hN I (fun R r => hi pins s σ H R h0 I r) ok rfl hs (fun z Q1 E q => wpAny_newObj_type q (by show 0 ≤ sizeLine; decide)) (fun H' hp hb => ⟨Nat.zero_le _, [], 0, .nil, Heap.get?_push_size _ rfl⟩) hg ht
    (fun s0 H0 C cl fp D pins σ2 G u Nx Fin I' ta k E => thnF ((he s0 H0 C cl fp).run pins u σ2 G _ I' ta) fun x s5 ⟨y, G1, I1, ry, acc, hD, hz, nx⟩ => app_ok (X := X.blk s0 H0 scope (compEnvC scope cl C X.env) fp) I1 hD hz ry fun s6 I6 => k s6 _ I6 nx)
    (fun it D env R z loop self => codeAny_compStart_list loop (self _ _ loop)) (fun it D env R J t n z hJ => compLoop_any J (fun n z hJ => TurnOf.at t _ n z hJ) n hJ) h (fun D C s' m H' I' q hn f => ⟨m, hn, fun h'' sb => ?_⟩)
  obtain ⟨f0, f1, f2, f3, f4, f5⟩ := f
  exact ⟨.ref D, H', I'.turned (t' := s'.toks) (fun b o hb e => (sb.2 b hb).trans e) f0 f1 f3 f4 f5, rfl, q⟩
/-- e.split(sep), the first token is out -/
theorem pet_split {o e : Expr} {to te : TE} {apos pos : Pos} (ho : PET X o to) (he : PE X e te) (hs : starEach [e] X.env = [(false, eval e X.env)] := by rfl)
    (hbase : attributeBase o "split" X.env (eval o X.env) = eval o X.env := by rfl) (hline : (apos.endLine == pos.line) = true := by rfl) :
    PET X (.Call (.Attribute o "split" apos) [e] [] pos) (fun σ H Q => to σ H fun x H1 => ∃ a, x = .str a ∧ te σ H1 fun y H2 => ∃ b, y = .str b ∧ (b.length == 0) = false ∧ a.length + 2 ≤ sizeLine ∧ rNewStrs (Txt.split a b) H2 Q) := by
  intro pins s σ H Q h0 I h
  refine PySem.Call_method1 hbase hs hline (thn (ho pins s σ H _ h0 I h) fun v s1 ⟨x, H1, I1, r1, a, ea, q1⟩ => ?_)
  subst ea
  cases r1 with
  | intro tk e1 =>
    subst e1
    exact ⟨"str", _, F.plainAttrs_str, F.slot_str_split, F.type_str_split, typeIs_str _ _ _, (fun _ z => nomatch z), Calls.callWith_builtin rfl (Calls.evalArgs_plain (Calls.spliced_cons (thn (he.run pins s1 σ H1 _ I1 q1) fun u s2 ⟨y, H2, I2, r2, b, eb, q2⟩ =>
      Calls.spliced_nil (mt_split pins s2 σ H2 _ [y] _ [u] Q I2 (show RelV (.str a) (.str a tk) from ⟨tk, rfl⟩) (.cons r2 .nil) ⟨a, b, rfl, by rw [eb], q2⟩))))⟩
/-- a def by its body, where a token must be out -/
theorem fun_okT {P : Program} {w : World} {K : PySem.W.Frag} {mg : Str → Option Value} {base : Heap} {CX : CXT} {x qual : Str} {st : Stmt} {f : Addr} {fd : FuncData} {N ps : List Str} {k : Nat} {sp : Sp} (F : Fun K x qual st f fd) (S : FnScope N ps (defScope st)) (hnc : ∀ y ∈ (defScope st).names, y.2 ≠ .cell) (hps : 1 ≤ ps.length)
    (len : ∀ vs H Q E, sp vs H Q E → vs.length = ps.length)
    (hbody : ∀ (cdv : Value) (A : Around) (outer : List Env) (s : Shared) (H : Hp) (vs : List V) (Q : VK) (E : XK), Room k (A.deeper (envOfC qual (defScope st) s.heap.objs.size f cdv)) → sp vs H Q E →
      ∃ t, PSsT (cxOf CX P w K mg base N qual (defScope st) f cdv A outer s H E) (defBody st) t ∧ t { nx := fun _ H' => Q .non H', rt := Q } (start N vs) H) :
    FnOk P w K mg base CX (k + 1) f fd ps sp := by
  obtain ⟨oc, od, kV, doc, pm, an, cdv, ct, osl, rfl, lk, hcd⟩ := F.ex
  exact fn_ofT lk hcd S hnc hps len (hbody cdv)
end
end Ss
namespace Ss
open PySem L2
/-! ### the runs of a text -/
/-- blanks and line feeds -/
def gapC (c : Nat) : Bool := c == 32 || c == 10
def rn : List Nat → List Nat → List (List Nat)
  | acc, [] => if acc = [] then [] else [acc]
  | acc, c :: r => if gapC c = true then (if acc = [] then rn [] r else acc :: rn [] r) else rn (acc ++ [c]) r
theorem repl_gap : ∀ L : List Nat, PySem.StrLaws.replL [10] [32] L = L.map fun c => if c = 10 then 32 else c
  | [] => PySem.StrLaws.replL_nil
  | c :: r => by
    by_cases h : c = 10
    · subst h
      rw [PySem.StrLaws.replL_hit (by simp) rfl]
      show 32 :: PySem.StrLaws.replL [10] [32] r = _
      rw [repl_gap r]
      rfl
    · rw [PySem.StrLaws.replL_miss (by show ¬ (c :: r).take 1 = [10]; simpa using h), repl_gap r, List.map_cons, if_neg h]
theorem spl_rn : ∀ (L acc : List Nat), ((TL.spl [32] 0 acc (L.map fun c => if c = 10 then 32 else c)).filter fun t => t != []) = rn acc L
  | [], acc => by
    rw [List.map_nil, TL.spl_nil, rn]
    by_cases h : acc = []
    · rw [if_pos h, List.filter_cons, if_neg (by simpa using h)]; rfl
    · rw [if_neg h, List.filter_cons, if_pos (by simpa using h)]; rfl
  | c :: r, acc => by
    rw [List.map_cons, rn]
    have pr : ∀ d : Nat, TL.pre [32] (d :: (r.map fun c => if c = 10 then 32 else c)) = (d == 32) := fun d => by
      cases hd : (d == 32) with
      | true => have e := eq_of_beq hd; subst e; rfl
      | false =>
        have e : (32 == d) = false := beq_eq_false_iff_ne.mpr fun z => by rw [← z] at hd; exact Bool.noConfusion hd
        first
        | rfl
        | simp [TL.pre, hd, e]
    by_cases h : gapC c = true
    · have e : (if c = 10 then 32 else c) = 32 := by
        unfold gapC at h
        rw [Bool.or_eq_true, beq_iff_eq, beq_iff_eq] at h
        rcases h with h | h
        · subst h; rfl
        · subst h; rfl
      rw [if_pos h, e, TL.spl_hit (by rw [pr]; rfl), List.filter_cons]
      show _ = if acc = [] then rn [] r else acc :: rn [] r
      have ih := spl_rn r []
      by_cases q : acc = []
      · rw [if_neg (by simpa using q), if_pos q]; exact ih
      · rw [if_pos (by simpa using q), if_neg q]; exact congrArg (acc :: ·) ih
    · have h32 : c ≠ 32 := fun z => h (by rw [z]; rfl)
      have h10 : c ≠ 10 := fun z => h (by rw [z]; rfl)
      rw [if_neg h, if_neg h10, TL.spl_miss (by rw [pr]; exact beq_eq_false_iff_ne.mpr h32)]
      exact spl_rn r (acc ++ [c])
/-- the parts of a text between blanks -/
def partsS (z : Str) : List Str := Txt.split (Txt.replace z "\n" " ") " "
theorem parts_rn (z : Str) : (((partsS z).filter fun y : Str => y != "").map V.str) = (rn [] z.cps.toList).map fun t => V.str (mkS t) := by
  have e10 : ("\n" : Str).cps.toList = [10] := by decide +kernel
  have e32 : (" " : Str).cps.toList = [32] := by decide +kernel
  have s1 := TL.split_spl (Txt.replace z "\n" " ") " " (by show (" " : Str).cps.toList ≠ []; rw [e32]; simp) (TL.kind_ok (by decide +kernel))
  have r1 := PySem.StrLaws.replace_list (x := z) (y := "\n") (z := " ") (by decide +kernel)
  rw [e10, e32, repl_gap] at r1
  have s2 : (partsS z).map (fun y => y.cps.toList) = TL.spl [32] 0 [] (z.cps.toList.map fun c => if c = 10 then 32 else c) := by
    have q : (partsS z).map (fun y => y.cps.toList) = TL.spl (" " : Str).cps.toList 0 [] (Txt.replace z "\n" " ").cps.toList := s1
    rw [e32, r1] at q
    exact q
  rw [← spl_rn, ← s2, List.filter_map, List.map_map]
  have f1 : ((fun t : List Nat => t != []) ∘ fun y : Str => y.cps.toList) = fun y : Str => y != "" := by
    funext y
    show (y.cps.toList != []) = (y != "")
    by_cases h : y = ""
    · subst h; rfl
    · exact (bne_iff_ne.mpr (fun z => h (by rw [mkS_of y, z]; exact mkS_nil.symm))).trans (bne_iff_ne.mpr h).symm
  have f2 : ((fun t => V.str (mkS t)) ∘ fun y : Str => y.cps.toList) = V.str := by
    funext y
    show V.str (mkS y.cps.toList) = V.str y
    rw [← mkS_of]
  rw [f1, f2]
theorem parts_len (z : Str) : (partsS z).length ≤ z.length + z.length + 3 := by
  have h1 := PyProof.Rows.split_le (Txt.replace z "\n" " ") " "
  have h2 := TK.replace_len z "\n" " "
  have h3 : (" " : Str).length = 1 := by decide +kernel
  rw [h3, Nat.mul_one] at h2
  unfold partsS
  omega
/-! ### what is laid -/
theorem rn_gap : ∀ {g : List Nat} (r : List Nat), (∀ c ∈ g, gapC c = true) → rn [] (g ++ r) = rn [] r
  | [], r, _ => rfl
  | c :: g, r, h => by
    rw [List.cons_append, rn, if_pos (h c List.mem_cons_self), if_pos rfl]
    exact rn_gap r fun d hd => h d (List.mem_cons_of_mem _ hd)
theorem rn_tok : ∀ {t : List Nat} (acc r : List Nat), (∀ c ∈ t, gapC c = false) → rn acc (t ++ r) = rn (acc ++ t) r
  | [], acc, r, _ => by rw [List.append_nil]; rfl
  | c :: t, acc, r, h => by
    rw [List.cons_append, rn, if_neg (by rw [h c List.mem_cons_self]; exact Bool.false_ne_true), rn_tok (acc ++ [c]) r (fun d hd => h d (List.mem_cons_of_mem _ hd)), List.append_assoc]
    rfl
theorem rn_end {acc g : List Nat} (r : List Nat) (ha : acc ≠ []) (hg : g ≠ []) (h : ∀ c ∈ g, gapC c = true) : rn acc (g ++ r) = acc :: rn [] r := by
  cases g with
  | nil => exact absurd rfl hg
  | cons c g =>
    rw [List.cons_append, rn, if_pos (h c List.mem_cons_self), if_neg ha, rn_gap r fun d hd => h d (List.mem_cons_of_mem _ hd)]
/-- a text whose runs are these, the last one perhaps not at its end -/
structure Laid (z : List Nat) (ts : List (List Nat)) : Prop where
  run : ∀ g r : List Nat, (∀ c ∈ g, gapC c = true) → g ≠ [] → rn [] (z ++ (g ++ r)) = ts ++ rn [] r
  fin : ∀ g : List Nat, (∀ c ∈ g, gapC c = true) → rn [] (z ++ g) = ts
theorem laid_nil : Laid [] [] := ⟨fun g r h _ => rn_gap r h, fun g h => by
  have q := rn_gap (g := g) [] h
  rw [List.append_nil] at q
  exact q⟩
theorem laid_first {g t : List Nat} (hg : ∀ c ∈ g, gapC c = true) (ht : ∀ c ∈ t, gapC c = false) (h1 : t ≠ []) : Laid (g ++ t) [t] := by
  have base : ∀ r, rn [] (g ++ t ++ r) = rn t r := fun r => by rw [List.append_assoc, rn_gap _ hg, rn_tok [] r ht, List.nil_append]
  refine ⟨fun g2 r h2 hn => ?_, fun g2 h2 => ?_⟩
  · rw [base, rn_end r h1 hn h2]; rfl
  · rw [base]
    by_cases hn : g2 = []
    · rw [hn, rn, if_neg h1]
    · have q := rn_end [] h1 hn h2
      rw [List.append_nil] at q
      rw [q]; rfl
theorem laid_more {z g t : List Nat} {ts : List (List Nat)} (L : Laid z ts) (hg : ∀ c ∈ g, gapC c = true) (hn : g ≠ []) (ht : ∀ c ∈ t, gapC c = false) (h1 : t ≠ []) : Laid (z ++ g ++ t) (ts ++ [t]) := by
  have T := laid_first (g := []) (t := t) (fun c hc => nomatch hc) ht h1
  have base : ∀ r, rn [] (z ++ g ++ t ++ r) = ts ++ rn [] (t ++ r) := fun r => by rw [List.append_assoc, List.append_assoc, L.run g _ hg hn]
  refine ⟨fun g2 r h2 hn2 => ?_, fun g2 h2 => ?_⟩
  · rw [base, show t ++ (g2 ++ r) = [] ++ t ++ (g2 ++ r) from rfl, T.run g2 r h2 hn2, List.append_assoc]
  · rw [base, show t ++ g2 = [] ++ t ++ g2 from rfl, T.fin g2 h2]
theorem sgn_gap : ∀ c ∈ SGN, gapC c = false := by decide +kernel
theorem gap_more {x : V} (h : x ∈ [V.str " ", V.str " ", V.str " ", V.str "  ", V.str "\n", V.str " \n ", V.str "\n\n"]) : ∃ g : List Nat, x = .str (mkS g) ∧ (∀ c ∈ g, gapC c = true) ∧ g ≠ [] ∧ g.length ≤ 3 := by
  simp only [List.mem_cons, List.not_mem_nil, or_false] at h
  rcases h with rfl | rfl | rfl | rfl | rfl | rfl | rfl
  · exact ⟨[32], congrArg V.str (by decide +kernel), by decide, by decide, by decide⟩
  · exact ⟨[32], congrArg V.str (by decide +kernel), by decide, by decide, by decide⟩
  · exact ⟨[32], congrArg V.str (by decide +kernel), by decide, by decide, by decide⟩
  · exact ⟨[32, 32], congrArg V.str (by decide +kernel), by decide, by decide, by decide⟩
  · exact ⟨[10], congrArg V.str (by decide +kernel), by decide, by decide, by decide⟩
  · exact ⟨[32, 10, 32], congrArg V.str (by decide +kernel), by decide, by decide, by decide⟩
  · exact ⟨[10, 10], congrArg V.str (by decide +kernel), by decide, by decide, by decide⟩
theorem gap_first {x : V} (h : x ∈ [V.str "", V.str "", V.str " ", V.str "\n"]) : ∃ g : List Nat, x = .str (mkS g) ∧ (∀ c ∈ g, gapC c = true) ∧ g.length ≤ 3 := by
  simp only [List.mem_cons, List.not_mem_nil, or_false] at h
  rcases h with rfl | rfl | rfl | rfl
  · exact ⟨[], congrArg V.str (by decide +kernel), by decide, by decide⟩
  · exact ⟨[], congrArg V.str (by decide +kernel), by decide, by decide⟩
  · exact ⟨[32], congrArg V.str (by decide +kernel), by decide, by decide⟩
  · exact ⟨[10], congrArg V.str (by decide +kernel), by decide, by decide⟩
theorem gap_last {x : V} (h : x ∈ [V.str "", V.str "", V.str " ", V.str "\n", V.str "\n \n"]) : ∃ g : List Nat, x = .str (mkS g) ∧ (∀ c ∈ g, gapC c = true) ∧ g.length ≤ 3 := by
  simp only [List.mem_cons, List.not_mem_nil, or_false] at h
  rcases h with rfl | rfl | rfl | rfl | rfl
  · exact ⟨[], congrArg V.str (by decide +kernel), by decide, by decide⟩
  · exact ⟨[], congrArg V.str (by decide +kernel), by decide, by decide⟩
  · exact ⟨[32], congrArg V.str (by decide +kernel), by decide, by decide⟩
  · exact ⟨[10], congrArg V.str (by decide +kernel), by decide, by decide⟩
  · exact ⟨[10, 32, 10], congrArg V.str (by decide +kernel), by decide, by decide⟩
/-- the promise of runs_of -/
def spRuns : Sp := fun vs H Q _ => ∃ z : Str, vs = [.str z] ∧ z.length ≤ 1000000 ∧ ∀ (p : Addr) (H' : Hp), H p = none → Same H H' → H' p = some (.lst ((rn [] z.cps.toList).map fun t => V.str (mkS t))) → Q (.ref p) H'
end Ss
namespace Ss
open PySem L2
def topS (i : Nat) : Stmt := PySem.Challenge.pw_silentslips_k29_tokens_of_a_text.main.body.getD i (.Pass ⟨0, 0, 0, 0⟩)
abbrev sBag : Stmt := topS 5
theorem scBag : FnScope ["script", "at", "cell", "digits"] ["script", "at"] (defScope sBag) := ⟨rfl, rfl, rfl, by decide +kernel, rfl, by decide +kernel, by decide +kernel⟩
abbrev sTake : Stmt := topS 6
theorem scTake : FnScope ["dice", "many", "digit", "mixed"] ["dice", "many"] (defScope sTake) := ⟨rfl, rfl, rfl, by decide +kernel, rfl, by decide +kernel, by decide +kernel⟩
abbrev sOf : Stmt := topS 7
theorem scOf : FnScope ["dice", "some"] ["dice", "some"] (defScope sOf) := ⟨rfl, rfl, rfl, by decide +kernel, rfl, by decide +kernel, by decide +kernel⟩
abbrev sSigns : Stmt := topS 8
theorem scSigns : FnScope ["some"] [] (defScope sSigns) := ⟨rfl, rfl, rfl, by decide +kernel, rfl, by decide +kernel, by decide +kernel⟩
abbrev sToken : Stmt := topS 9
theorem scToken : FnScope ["dice", "taken", "chars", "made", "turn", "base", "sign"] ["dice", "taken"] (defScope sToken) := ⟨rfl, rfl, rfl, by decide +kernel, rfl, by decide +kernel, by decide +kernel⟩

def spBag (K : PySem.W.Frag) : Sp := fun vs H Q _ => ∃ (a : Addr) (ns : List Int) (i : Nat), vs = [.ref a, .int i] ∧ SqL K H a (ns.map V.int) ∧ ns.length ≤ 63 ∧ i ≤ 63 ∧
  ∀ (p : Addr) (H' : Hp), H p = none → Same H H' → Bag H' p 0 → Q (.ref p) H'
def spTake : Sp := fun vs H Q _ => ∃ (b : Addr) (many : Int) (n : Nat), vs = [.ref b, .int many] ∧ Bag H b n ∧ n ≤ 1000000000 ∧ 1 ≤ many ∧ many < 2 ^ 200 ∧
  ∀ (i : Int) (H' : Hp), 0 ≤ i → i < many → Off b H H' → Bag H' b (n + 1) → Q (.int i) H'
/-- one of some: of a list, a tuple, a text -/
def spOf (K : PySem.W.Frag) : Sp := fun vs H Q _ => ∃ (b : Addr) (n : Nat), Bag H b n ∧ n ≤ 1000000000 ∧
  ((∃ (p : Addr) (xs : List V), vs = [.ref b, .ref p] ∧ p ≠ b ∧ SqL K H p xs ∧ 1 ≤ xs.length ∧ xs.length ≤ 1000000 ∧ ∀ (x : V) (H' : Hp), x ∈ xs → Off b H H' → Bag H' b (n + 1) → Q x H') ∨
   (∃ (z : Str), vs = [.ref b, .str z] ∧ 1 ≤ z.length ∧ z.length ≤ 1000000 ∧ ∀ (c : Nat) (H' : Hp), c ∈ z.cps.toList → Off b H H' → Bag H' b (n + 1) → Q (.str ⟨#[c]⟩) H'))
section
variable {P : Program} {w : World} {K : PySem.W.Frag} {mg : Str → Option Value} {base : Heap}
theorem ok_bag (F : DefAt K mg "_law_bag" sBag) (T : G0 mg) : Dk P w K mg base CX0 1 "_law_bag" ["script", "at"] (spBag K) := by
  obtain ⟨f, fd, F, mf⟩ := F.ex
  refine ⟨f, fd, F.ok scBag (fun vs H Q E h => ?_) (fun cdv A outer s H vs Q E hr h => ?_), mf, F.kp, F.binds fun _ _ _ _ _ _ us hl => match us, hl with | [_, _], _ => rfl⟩
  · obtain ⟨a, ns, i, rfl, _⟩ := h
    rfl
  · obtain ⟨a, ns, i, rfl, hS, hl, hi, k⟩ := h
    refine ⟨_, (Evl.pss_cut (ps_set (i := 2) scBag.nd rfl (Or.inl rfl) (pe_ifExp (pt_cmpR op_lt (pv 1) (pe_callB call_len_seq (by rfl) T.len (by decide +kernel) (pa_cons (pv 0) pa_nil)) (nomark _)) (pe_ix ix_list (pv 0) (pv 1) (fun _ _ => rfl)) pe_int)) (Evl.pss_cut (ps_set (i := 3) scBag.nd rfl (Or.inl rfl) (pe_ifExp (pt_cmpR op_ge (pe_callB call_abs (by rfl) T.abs (by decide +kernel) (pa_cons (pv 2) pa_nil)) (pe_op op_pow pe_int pe_int) (nomark _)) (pe_callB call_abs (by rfl) T.abs (by decide +kernel) (pa_cons (pv 2) pa_nil)) pe_int)) (pss_one (ps_ret (pe_lst (pa_cons (pv 3) (pa_cons (pe_op op_add (pe_op op_add (pe_op op_mul (pe_op op_mod (pe_callTy call_int1 (by rfl) T.int (by decide +kernel) (pa_cons (pv 2) pa_nil)) pe_int) pe_int) (pe_op op_mul pe_int (pv 1))) pe_int) (pa_cons pe_int pa_nil)))))))), ?_⟩
    refine ⟨fun σ' H' => H' = H ∧ ∃ cell : Int, σ' = [some (.ref a), some (.int i), some (.int cell), none], ?_, ?_⟩
    · refine ⟨_, rfl, _, rfl, a, _, rfl, .inl hS, _, _, rfl, rfl, _, rfl, ?_⟩
      refine ite2 (fun c => ?_) (fun c => ?_)
      · have c' : i < ns.length := by
          have q := of_decide_eq_true c
          rw [List.length_map] at q
          omega
        exact ⟨_, rfl, _, rfl, a, _, i, _, rfl, rfl, hS, atI_nat (by rw [List.getElem?_map, List.getElem?_eq_getElem c']; rfl), rfl, _, rfl⟩
      · exact ⟨rfl, 0, rfl⟩
    rintro _ H2 ⟨rfl, cell, rfl⟩
    refine ⟨fun σ' H1 => H1 = H2 ∧ ∃ d : Int, 0 ≤ d ∧ σ' = [some (.ref a), some (.int i), some (.int cell), some (.int d)], ?_, ?_⟩
    · refine ⟨_, rfl, _, rfl, _, _, rfl, rfl, ⟨by decide, by decide, by decide⟩, _, _, rfl, rfl, _, rfl, ?_⟩
      refine ite2 (fun c => ?_) (fun c => ?_)
      · refine ⟨_, rfl, _, rfl, rfl, _, ?_, rfl⟩
        split <;> omega
      · exact ⟨rfl, 0, Int.le_refl _, rfl⟩
    rintro _ _ ⟨rfl, d, hd, rfl⟩
    refine ⟨_, rfl, _, rfl, .inl ⟨_, rfl, _, _, rfl, rfl, (by show (0 : Int) < 2305843009213693951; decide), _, _, rfl, rfl, .inr ⟨by decide, by decide⟩, _, rfl, _, _, rfl, rfl, .inl ⟨by decide, by decide⟩, _, _, rfl, rfl, _, _, rfl, rfl, ?_⟩⟩
    refine ⟨by show 3 ≤ sizeLine; decide, fun p hp => ?_⟩
    have h1 := Int.emod_nonneg cell (show (2305843009213693951 : Int) ≠ 0 by decide)
    have h2 := Int.emod_lt_of_pos cell (show (0 : Int) < 2305843009213693951 by decide)
    refine k p _ hp (fun b o e => ?_) ⟨d, _, 0, upd_same, hd, ?_, ?_, Int.le_refl _, Int.le_refl _⟩
    · rw [upd_ne (ne_of_none e hp)]; exact e
    · omega
    · show _ < (11529215047000000000 : Int)
      omega
theorem ok_take (F : DefAt K mg "_law_take" sTake) (T : G0 mg) : Dk P w K mg base CX0 1 "_law_take" ["dice", "many"] spTake := by
  obtain ⟨f, fd, F, mf⟩ := F.ex
  refine ⟨f, fd, F.ok scTake (fun vs H Q E h => ?_) (fun cdv A outer s H vs Q E hr h => ?_), mf, F.kp, F.binds fun _ _ _ _ _ _ us hl => match us, hl with | [_, _], _ => rfl⟩
  · obtain ⟨b, many, n, rfl, _⟩ := h
    rfl
  · obtain ⟨b, many, n, rfl, ⟨d, m, c, hb, hd, hm, hM, hc, hn⟩, hn9, h1, h2, k⟩ := h
    have hM : m < (11529215047000000000 : Int) := hM
    have hW : CDivW d many := wide_div (b := 200) (by omega) (by omega) (by decide) (by decide)
    refine ⟨_, (pss_cons (ps_if (pt_cmpR op_gt (pe_ix ix_list (pv 0) pe_int (fun _ _ => rfl)) pe_int (nomark _)) (pss_cons (ps_set (i := 2) scTake.nd rfl (Or.inl rfl) (pe_op op_mod (pe_callTy call_int1 (by rfl) T.int (by decide +kernel) (pa_cons (pe_ix ix_list (pv 0) pe_int (fun _ _ => rfl)) pa_nil)) (pv 1))) (pss_cons (ps_asg (pe_op op_fdivW (pe_ix ix_list (pv 0) pe_int (fun _ _ => rfl)) (pv 1)) (pg_sub (pv 0) pe_int set_list)) (pss_one (ps_ret (pv 2))))) pss_nil) (pss_cons (ps_asg (pe_op op_add (pe_ix ix_list (pv 0) pe_int (fun _ _ => rfl)) pe_int) (pg_sub (pv 0) pe_int set_list)) (pss_cons (ps_set (i := 3) scTake.nd rfl (Or.inl rfl) (pe_op op_mod (pe_callTy call_int1 (by rfl) T.int (by decide +kernel) (pa_cons (pe_op op_pow (pe_op op_add (pe_ix ix_list (pv 0) pe_int (fun _ _ => rfl)) (pe_op op_mul pe_int (pe_ix ix_list (pv 0) pe_int (fun _ _ => rfl)))) pe_int) pa_nil)) pe_int)) (pss_cons (ps_set (i := 3) scTake.nd rfl (Or.inl rfl) (pe_op op_mod (pe_callTy call_int1 (by rfl) T.int (by decide +kernel) (pa_cons (pe_op op_pow (pe_op op_add (pv 3) (pe_op op_mul pe_int (pe_ix ix_list (pv 0) pe_int (fun _ _ => rfl)))) pe_int) pa_nil)) pe_int)) (pss_one (ps_ret (pe_op op_mod (pe_callTy call_int1 (by rfl) T.int (by decide +kernel) (pa_cons (pe_op op_fdivW (pv 3) pe_int) pa_nil)) (pv 1)))))))), ?_⟩
    refine ⟨_, rfl, b, _, 0, _, rfl, rfl, SqL.of hb, rfl, _, _, rfl, rfl, _, rfl, ?_⟩
    refine ite2 (fun c0 => ?_) (fun c0 => ?_)
    · refine ⟨_, rfl, b, _, 0, _, rfl, rfl, SqL.of hb, rfl, .inl ⟨_, rfl, _, rfl, _, _, rfl, rfl, (by show (0 : Int) < many; omega), ?_⟩⟩
      refine ⟨_, rfl, b, _, 0, _, rfl, rfl, SqL.of hb, rfl, _, rfl, _, _, rfl, rfl, hW, _, rfl, b, _, _, 0, rfl, rfl, hb, rfl, ?_⟩
      refine ⟨_, rfl, k _ _ (Int.emod_nonneg _ (by omega)) (Int.emod_lt_of_pos _ (by omega)) (Off.upd (Off.refl b H)) ⟨_, m, c, upd_same, ?_, hm, hM, hc, by omega⟩⟩
      exact Int.ediv_nonneg hd (by omega)
    · have x1 := Int.emod_nonneg ((m + 1000081 * (c + 1)) ^ 3) (show (2305843009213693921 : Int) ≠ 0 by decide)
      have x2 := Int.emod_lt_of_pos ((m + 1000081 * (c + 1)) ^ 3) (show (0 : Int) < 2305843009213693921 by decide)
      have e64 : (2 : Nat) ^ 64 = 18446744073709551616 := by decide
      refine ⟨_, rfl, b, _, 2, _, rfl, rfl, SqL.of hb, rfl, _, _, rfl, rfl, _, rfl, b, _, _, 2, rfl, rfl, hb, rfl, ?_⟩
      have hb2 := upd_same (H := H) (a := b) (o := .lst [.int d, .int m, .int (c + 1)])
      refine ⟨_, rfl, b, _, 1, _, rfl, rfl, SqL.of hb2, rfl, _, rfl, b, _, 2, _, rfl, rfl, SqL.of hb2, rfl, _, _, rfl, rfl, .inl ⟨by decide, by decide⟩, _, _, rfl, rfl, ?_⟩
      refine ⟨_, _, rfl, rfl, ⟨by decide, by decide, ?_⟩, .inl ⟨_, rfl, _, _, rfl, rfl, (by show (0 : Int) < 2305843009213693921; decide), ?_⟩⟩
      · rw [e64]; omega
      refine ⟨_, rfl, _, rfl, b, _, 2, _, rfl, rfl, SqL.of hb2, rfl, _, _, rfl, rfl, .inl ⟨by decide, by decide⟩, _, _, rfl, rfl, ?_⟩
      refine ⟨_, _, rfl, rfl, ⟨by decide, by decide, ?_⟩, .inl ⟨_, rfl, _, _, rfl, rfl, (by show (0 : Int) < 2305843009213693951; decide), ?_⟩⟩
      · rw [e64]
        show Int.natAbs ((m + 1000081 * (c + 1)) ^ 3 % 2305843009213693921 + 32452867 * (c + 1)) < _
        omega
      refine ⟨_, rfl, _, _, rfl, rfl, ⟨by decide, by decide⟩, .inl ⟨_, rfl, _, rfl, _, _, rfl, rfl, (by show (0 : Int) < many; omega), ?_⟩⟩
      refine k _ _ (Int.emod_nonneg _ (by omega)) (Int.emod_lt_of_pos _ (by omega)) (Off.upd (Off.refl b H)) ⟨d, m, c + 1, upd_same, hd, hm, hM, by omega, by omega⟩
theorem ok_of (F : DefAt K mg "_law_of" sOf) (T : G0 mg) (D_law_take : Dk P w K mg base CX0 1 "_law_take" ["dice", "many"] spTake) : Dk P w K mg base CX0 2 "_law_of" ["dice", "some"] (spOf K) := by
  obtain ⟨f, fd, F, mf⟩ := F.ex
  refine ⟨f, fd, F.ok scOf (fun vs H Q E h => ?_) (fun cdv A outer s H vs Q E hr h => ?_), mf, F.kp, F.binds fun _ _ _ _ _ _ us hl => match us, hl with | [_, _], _ => rfl⟩
  · obtain ⟨b, n, _, _, ⟨p, xs, rfl, _⟩ | ⟨z, rfl, _⟩⟩ := h <;> rfl
  · refine ⟨_, (pss_one (ps_ret (pe_ix ix_seq (pv 1) (pe_cd D_law_take hr pass0 (pa_cons (pv 0) (pa_cons (pe_callB call_len (by rfl) T.len (by decide +kernel) (pa_cons (pv 1) pa_nil)) pa_nil))) (fun _ _ => rfl)))), ?_⟩
    have e200 : (1000000 : Int) < 2 ^ 200 := by decide
    obtain ⟨b, n, hB, hn, ⟨p, xs, rfl, hpb, hS, h1, h2, k⟩ | ⟨z, rfl, h1, h2, k⟩⟩ := h
    · refine ⟨_, rfl, _, rfl, _, rfl, .ref p, xs.length, rfl, .inl ⟨xs, hS, rfl⟩, ?_⟩
      refine ⟨b, _, n, rfl, hB, hn, by omega, by omega, fun i H' i0 i1 hO hB' => ?_⟩
      have hi : i.toNat < xs.length := by omega
      exact .inl ⟨p, xs, i, xs[i.toNat], rfl, rfl, hO.seq hpb hS, atI_int i0 hi, k _ _ (List.getElem_mem hi) hO hB'⟩
    · have hz : z.cps.toList.length = z.length := by rw [Array.length_toList]; rfl
      refine ⟨_, rfl, _, rfl, _, rfl, .str z, z.length, rfl, ?_, ?_⟩
      · exact ⟨Nat.le_trans h2 (by decide), rfl⟩
      refine ⟨b, _, n, rfl, hB, hn, by omega, by omega, fun i H' i0 i1 hO hB' => ?_⟩
      have hi : i.toNat < z.cps.toList.length := by omega
      exact .inr (.inr ⟨z, i, z.cps.toList[i.toNat], rfl, rfl, Nat.le_trans h2 (by decide), atI_int i0 hi, k _ _ (List.getElem_mem hi) hO hB'⟩)
def spSigns : Sp := fun vs H Q _ => vs = [] ∧ Q (.str (mkS SGN)) H
theorem ok_signs (F : DefAt K mg "_law_signs" sSigns) : Dk P w K mg base CX0 1 "_law_signs" [] spSigns := by
  obtain ⟨f, fd, F, mf⟩ := F.ex
  refine ⟨f, fd, F.ok scSigns (fun vs H Q E h => ?_) (fun cdv A outer s H vs Q E hr h => ?_), mf, F.kp, F.binds fun _ _ _ _ _ _ us hl => match us, hl with | [], _ => rfl⟩
  · obtain ⟨rfl, _⟩ := h; rfl
  · obtain ⟨rfl, k⟩ := h
    refine ⟨_, (pss_cons (ps_set (i := 0) scSigns.nd rfl (Or.inl rfl) pe_str) (pss_one (ps_ret (pe_op op_add_str (pv 0) pe_str)))), ?_⟩
    refine ⟨_, rfl, _, _, rfl, rfl, (by decide +kernel), ?_⟩
    refine cast (congrArg (fun z => Q (.str z) H) ?_) k
    decide +kernel
/-- a text t of the letters L, of 1 to m letters, that is not among xs -/
def spWord (K : PySem.W.Frag) (L : List Nat) (m : Nat) : Sp := fun vs H Q _ => ∃ (b p : Addr) (n : Nat) (xs : List Str), vs = [.ref b, .ref p] ∧ Bag H b n ∧ n ≤ 900000000 ∧ p ≠ b ∧ SqL K H p (xs.map V.str) ∧ xs.length < L.length ∧
  ∀ (t : List Nat) (H' : Hp), 1 ≤ t.length → t.length ≤ m → (∀ c ∈ t, c ∈ L) → mkS t ∉ xs → Off b H H' → Bag H' b (n + 1 + m) → Q (.str (mkS t)) H'
theorem ok_token (F : DefAt K mg "_law_token" sToken) (T : G0 mg) (D_law_of : Dk P w K mg base CX0 2 "_law_of" ["dice", "some"] (spOf K)) (D_law_signs : Dk P w K mg base CX0 1 "_law_signs" [] spSigns) :
    Dk P w K mg base CX0 3 "_law_token" ["dice", "taken"] (spWord K SGN 4) := by
  obtain ⟨f, fd, F, mf⟩ := F.ex
  refine ⟨f, fd, F.ok scToken (fun vs H Q E h => ?_) (fun cdv A outer s H vs Q E hr h => ?_), mf, F.kp, F.binds fun _ _ _ _ _ _ us hl => match us, hl with | [_, _], _ => rfl⟩
  · obtain ⟨b, p, n, xs, rfl, _⟩ := h; rfl
  · obtain ⟨b, p, n, xs, rfl, hB, hn, hpb, hS, hl, k⟩ := h
    refine ⟨_, (pss_cons (ps_par (by rfl) scToken.nd rfl rfl (by decide) rfl rfl (pa_cons (pe_cd0 D_law_signs hr pass0) (pa_cons pe_str pa_nil)) (by rfl) (i := 2) (j := 3)) (pss_cons (ps_for PassesOwn.never rfl (pi_range1 (by rfl) T.range (pa_cons (pe_cd D_law_of hr pass0 (pa_cons (pv 0) (pa_cons (pe_lst (pa_cons pe_int (pa_cons pe_int (pa_cons pe_int (pa_cons pe_int (pa_cons pe_int (pa_cons pe_int pa_nil))))))) pa_nil))) pa_nil)) (pg_name (i := 4) scToken.nd rfl (.inl rfl)) (pss_one (ps_set (i := 3) scToken.nd rfl (Or.inl rfl) (pe_op op_add_str (pv 3) (pe_cd D_law_of hr pass0 (pa_cons (pv 0) (pa_cons (pv 2) pa_nil))))))) (pss_cons (ps_set (i := 5) scToken.nd rfl (Or.inl rfl) (pe_slice sl_str (pv 3) po_none (po_some pe_int))) (pss_cons (ps_for PassesOwn.never rfl (pi_str (pv 2)) (pg_name (i := 6) scToken.nd rfl (.inl rfl)) (pss_one (ps_if (pt_cmpR op_in_seq (pv 3) (pv 1) (by rfl)) (pss_one (ps_set (i := 3) scToken.nd rfl (Or.inl rfl) (pe_op op_add_str (pv 5) (pv 6)))) pss_nil))) (pss_one (ps_ret (pv 3))))))), ?_⟩
    refine ⟨rfl, _, _, rfl, ?_⟩
    refine ⟨_, rfl, by show 6 ≤ sizeLine; decide, fun q hq => ?_⟩
    refine ⟨b, n, hB.new hq, by omega, .inl ⟨q, _, rfl, (hB.ne hq).symm, SqL.of upd_same, by show 1 ≤ 6; decide, by show 6 ≤ 1000000; decide, fun x H1 hx hO hB1 => ?_⟩⟩
    obtain ⟨j, hj1, hj4, rfl⟩ : ∃ j : Nat, 1 ≤ j ∧ j ≤ 4 ∧ x = .int j := by
      simp only [List.mem_cons, List.not_mem_nil, or_false] at hx
      rcases hx with rfl | rfl | rfl | rfl | rfl | rfl
      · exact ⟨1, by decide, by decide, rfl⟩
      · exact ⟨1, by decide, by decide, rfl⟩
      · exact ⟨1, by decide, by decide, rfl⟩
      · exact ⟨2, by decide, by decide, rfl⟩
      · exact ⟨3, by decide, by decide, rfl⟩
      · exact ⟨4, by decide, by decide, rfl⟩
    have O1 : Off b H H1 := ((Off.refl b H).new hq).trans hO
    refine ⟨j, rfl, by omega, by omega, ?_⟩
    rw [Int.toNat_natCast]
    refine for_range (lo := 0) (n := j) (fun i σ H' => ∃ (m : List Nat) (v : Option V), σ = [some (.ref b), some (.ref p), some (.str (mkS SGN)), some (.str (mkS m)), v, none, none] ∧ m.length = i ∧ (∀ c ∈ m, c ∈ SGN) ∧ Off b H H' ∧ Bag H' b (n + 1 + i))
      ⟨[], none, by rw [← mkS_nil]; rfl, rfl, (fun _ h => by cases h), O1, hB1⟩ ?_ ?_
    · rintro i σ H' hi ⟨m, v, rfl, hm, hc, hO', hB'⟩
      refine ⟨_, rfl, _, rfl, _, rfl, b, n + 1 + i, hB', by omega, .inr ⟨mkS SGN, rfl, by decide +kernel, by decide +kernel, fun c H2 hcs hO2 hB2 => ?_⟩⟩
      rw [mkS_cps] at hcs
      refine ⟨_, _, rfl, rfl, ?_, ?_⟩
      · rw [mkS_len]; exact Nat.le_trans (show _ ≤ 10 by rw [hm]; show i + 1 ≤ 10; omega) (by decide)
      · refine ⟨m ++ [c], some (.int (0 + i)), ?_, by rw [List.length_append, hm]; rfl, fun d hd => ?_, hO'.trans hO2, hB2⟩
        · rw [mkS_one, mkS_app]; rfl
        · rcases List.mem_append.mp hd with hd | hd
          · exact hc d hd
          · rw [List.mem_singleton.mp hd]; exact hcs
    · rintro σ H' ⟨m, v, rfl, hm, hc, hO', hB'⟩
      refine ⟨_, rfl, 3, rfl, _, rfl, ?_, ?_⟩
      · rw [mkS_len]; exact Nat.le_trans (show _ ≤ 10 by omega) (by decide)
      rw [show cutS (mkS m) none (some (3 : Int)) = mkS (m.take 3) from cut_to m 3]
      refine ⟨_, rfl, _, rfl, for_it walk_str (fun i σ H2 => H2 = H' ∧ ∃ u : Option V, σ = [some (.ref b), some (.ref p), some (.str (mkS SGN)), some (.str (mkS ((SGN.take i).foldl (more1 xs (m.take 3)) m))), v, some (.str (mkS (m.take 3))), u])
        ⟨rfl, none, rfl⟩ (fun _ _ _ _ _ => trivial) ?_ ?_⟩
      · rintro i x σ H2 H3 hi ⟨rfl, u, rfl⟩ ⟨rfl, c, hc', rfl⟩
        have hs : SGN[i]? = some c := by
          have q : (mkS SGN).cps.toList[i]? = some c := by rw [Array.getElem?_toList]; exact hc'
          rw [mkS_cps] at q
          exact q
        refine ⟨_, rfl, _, rfl, p, _, rfl, .inl (hO'.seq hpb hS), rfl, flat_strs xs, _, rfl, ?_⟩
        show if inV (.str _) (xs.map V.str) = true then _ else _
        rw [inV_str]
        have et : SGN.take (i + 1) = SGN.take i ++ [c] := by
          rw [List.take_add_one, hs]; rfl
        have ef : (SGN.take (i + 1)).foldl (more1 xs (m.take 3)) m = more1 xs (m.take 3) ((SGN.take i).foldl (more1 xs (m.take 3)) m) c := by
          rw [et, List.foldl_append]; rfl
        refine ite2 (fun q => ?_) (fun q => ?_)
        · refine ⟨_, rfl, _, rfl, _, _, rfl, rfl, ?_, rfl, some (.str ⟨#[c]⟩), ?_⟩
          · rw [mkS_len]; exact Nat.le_trans (show _ ≤ 10 by rw [List.length_take]; show _ + 1 ≤ 10; omega) (by decide)
          · rw [ef, more_yes (of_decide_eq_true q), mkS_one, mkS_app]
            rfl
        · refine ⟨rfl, some (.str ⟨#[c]⟩), ?_⟩
          rw [ef, more_no (fun z => q (decide_eq_true z))]
          rfl
      · rintro σ H2 ⟨rfl, u, rfl⟩
        have es : (mkS SGN).cps.size = SGN.length := by rw [← Array.length_toList, mkS_cps]
        rw [es, List.take_length]
        refine ⟨_, rfl, ?_⟩
        have sh : ∀ c, c ∈ SGN → (fun t : List Nat => 1 ≤ t.length ∧ t.length ≤ 4 ∧ ∀ d ∈ t, d ∈ SGN) (m.take 3 ++ [c]) := fun c hcs => by
          refine ⟨by rw [List.length_append]; exact Nat.le_add_left _ _, ?_, fun d hd => ?_⟩
          · rw [List.length_append, List.length_take]; show min 3 m.length + 1 ≤ 4; omega
          · rcases List.mem_append.mp hd with hd | hd
            · exact hc d (List.mem_of_mem_take hd)
            · rw [List.mem_singleton.mp hd]; exact hcs
        obtain ⟨s1, s2, s3⟩ := more_shape (xs := xs) (bs := m.take 3) (cs := SGN) (S := fun t : List Nat => 1 ≤ t.length ∧ t.length ≤ 4 ∧ ∀ d ∈ t, d ∈ SGN) sh (m := m) ⟨by omega, by omega, hc⟩
        exact k _ _ s1 s2 s3 (more_new sgn_nd hl) hO' (hB'.mono (by omega))
abbrev sRuns : Stmt := topS 1
theorem scRuns : FnScope ["text", "run"] ["text"] (defScope sRuns) := ⟨rfl, rfl, rfl, by decide +kernel, rfl, by decide +kernel, by decide +kernel⟩
theorem ok_runs (F : DefAt K mg "runs_of" sRuns) : Dk P w K mg base CX0 1 "runs_of" ["text"] spRuns := by
  obtain ⟨f, fd, F, mf⟩ := F.ex
  refine ⟨f, fd, fun_okT F scRuns (by decide +kernel) (by decide) (fun vs H Q E h => ?_) (fun cdv A outer s H vs Q E hr h => ?_), mf, F.kp, F.binds fun _ _ _ _ _ _ us hl => match us, hl with | [_], _ => rfl⟩
  · obtain ⟨z, rfl, _⟩ := h; rfl
  · obtain ⟨z, rfl, hz, k⟩ := h
    refine ⟨_, CwR.psst_one (CwR.pst_ret (pet_lc (own := [("run", 1)]) (g := gName 1) rfl scRuns.nd (pit_list (pet_split (CwR.pet_replC (pv 0)) pe_str)) (blkOk_by (N := ["text", "run"]) (sc := defScope sRuns) (by decide +kernel)) (fun _ _ _ _ _ => pg_name (i := 1) scRuns.nd rfl (.inl rfl)) (fun _ _ _ _ _ => (pts_one (pt_cmpR op_ne (pv 1) pe_str (nomark _)))) (fun _ _ _ _ _ => (pv 1)))), ?_⟩
    have l32 : (" " : Str).length = 1 := by decide +kernel
    have e16 : (16777216 : Nat) ≤ sizeLine := by decide
    have lr := TK.replace_len z "\n" " "
    rw [l32] at lr
    have lp := parts_len z
    refine ⟨_, rfl, z, rfl, ?_, _, rfl, _, rfl, by decide +kernel, ?_, fun p hp => ⟨p, rfl, ⟨_, SqL.of upd_same⟩, fun D hD => ?_⟩⟩
    · rw [l32]; omega
    · omega
    have nD : D ≠ p := fun e => by subst e; rw [upd_same] at hD; cases hD
    have hDH : H D = none := by rw [upd_ne nD] at hD; exact hD
    refine lc_list (xs := (partsS z).map V.str) (fun i H' => H' D = some (.lst ((((partsS z).take i).filter fun y : Str => y != "").map V.str)) ∧ H' p = some (.lst ((partsS z).map V.str)) ∧ Same H H') ⟨upd_same, by rw [upd_ne nD.symm]; exact upd_same, (Same.new (Same.new (Same.refl H) hp) hD)⟩ (fun i H' _ h => SqL.of h.2.1) ?_ ?_
    · rintro i x H' hx ⟨h1, h2, h3⟩
      obtain ⟨y, hy, rfl⟩ : ∃ y, (partsS z)[i]? = some y ∧ x = V.str y := by
        rw [List.getElem?_map] at hx
        cases e : (partsS z)[i]? with
        | none => rw [e] at hx; cases hx
        | some y => rw [e] at hx; cases hx; exact ⟨y, rfl, rfl⟩
      have et : (partsS z).take (i + 1) = (partsS z).take i ++ [y] := by rw [List.take_add_one, hy]; rfl
      have hi : i < (partsS z).length := (List.getElem?_eq_some_iff.mp hy).1
      refine ⟨rfl, _, rfl, rfl, _, rfl, ?_⟩
      have ed : (!decide (V.str y = V.str "")) = (y != "") := by
        by_cases q : y = ""
        · subst q; rfl
        · rw [decide_eq_false (fun z => q (by injection z))]; exact (bne_iff_ne.mpr q).symm
      have fl : ((((partsS z).take i).filter fun y : Str => y != "").map V.str).length < sizeLine := by
        rw [List.length_map]
        have q1 := List.length_filter_le (fun y : Str => y != "") ((partsS z).take i)
        rw [List.length_take] at q1
        omega
      by_cases q : (y != "") = true
      · have e1 : (!decide (V.str y = V.str "")) = true := ed.trans q
        show if (!decide (V.str y = V.str "")) = true then _ else _
        rw [if_pos e1]
        refine ⟨_, rfl, _, h1, fl, ?_, ?_, ?_⟩
        · rw [upd_same, et, List.filter_append, List.map_append, List.filter_cons, if_pos q]; rfl
        · rw [upd_ne nD.symm]; exact h2
        · exact fun b o hb => by rw [upd_ne (ne_of_none hb hDH)]; exact h3 b o hb
      · have e1 : ¬ (!decide (V.str y = V.str "")) = true := fun z => q (ed.symm.trans z)
        show if (!decide (V.str y = V.str "")) = true then _ else _
        rw [if_neg e1]
        refine ⟨?_, h2, h3⟩
        rw [et, List.filter_append, List.filter_cons, if_neg q, h1]; simp
    · rintro H' ⟨h1, h2, h3⟩
      rw [List.length_map, List.take_length, parts_rn] at h1
      exact k D H' hDH h3 h1
abbrev sTokensof : Stmt := topS 3
theorem scTokensof : FnScope ["text"] ["text"] (defScope sTokensof) := ⟨rfl, rfl, rfl, by decide +kernel, rfl, by decide +kernel, by decide +kernel⟩
theorem ok_tokensof (F : DefAt K mg "tokens_of" sTokensof) (Druns : Dk P w K mg base CX0 1 "runs_of" ["text"] spRuns) : Dk P w K mg base CX0 2 "tokens_of" ["text"] spRuns := by
  obtain ⟨f, fd, F, mf⟩ := F.ex
  refine ⟨f, fd, F.ok scTokensof (fun vs H Q E h => ?_) (fun cdv A outer s H vs Q E hr h => ?_), mf, F.kp, F.binds fun _ _ _ _ _ _ us hl => match us, hl with | [_], _ => rfl⟩
  · obtain ⟨z, rfl, _⟩ := h; rfl
  · obtain ⟨z, rfl, hz, k⟩ := h
    refine ⟨_, (pss_one (ps_ret (pe_cd Druns hr pass0 (pa_cons (pv 0) pa_nil)))), ?_⟩
    exact ⟨_, rfl, z, rfl, hz, k⟩
abbrev sLaid : Stmt := topS 10
theorem scLaid : FnScope ["bag", "tokens", "text", "line", "lines", "at", "token", "gap"] ["bag", "tokens"] (defScope sLaid) := ⟨rfl, rfl, rfl, by decide +kernel, rfl, by decide +kernel, by decide +kernel⟩
/-- a text of these tokens -/
def spLaid (K : PySem.W.Frag) : Sp := fun vs H Q _ => ∃ (b p : Addr) (n : Nat) (ts : List (List Nat)), vs = [.ref b, .ref p] ∧ Bag H b n ∧ n ≤ 800000000 ∧ p ≠ b ∧ SqL K H p (ts.map fun t => V.str (mkS t)) ∧ ts.length ≤ 1000 ∧
  (∀ t ∈ ts, t ≠ [] ∧ t.length ≤ 8 ∧ ∀ c ∈ t, gapC c = false) ∧
  ∀ (q l : Addr) (z : List Nat) (ls : List V) (H' : Hp), Off b H H' → Bag H' b (n + 2 * ts.length + 1) → H q = none → H' q = some (.tup [.str (mkS z), .ref l]) → rn [] z = ts → z.length ≤ 11 * ts.length + 3 → H l = none → H' l = some (.lst ls) → Q (.ref q) H'
theorem ok_laid (F : DefAt K mg "_law_laid" sLaid) (T : G0 mg) (Dof : Dk P w K mg base CX0 2 "_law_of" ["dice", "some"] (spOf K)) : Dk P w K mg base CX0 3 "_law_laid" ["bag", "tokens"] (spLaid K) := by
  obtain ⟨f, fd, F, mf⟩ := F.ex
  refine ⟨f, fd, F.ok scLaid (fun vs H Q E h => ?_) (fun cdv A outer s H vs Q E hr h => ?_), mf, F.kp, F.binds fun _ _ _ _ _ _ us hl => match us, hl with | [_, _], _ => rfl⟩
  · obtain ⟨b, p, n, ts, rfl, _⟩ := h; rfl
  · obtain ⟨b, p, n, ts, rfl, hB, hn, hpb, hS, hl, ht, k⟩ := h
    refine ⟨_, (pss_cons (ps_par3 (i := 2) (j := 3) (l := 4) (by rfl) scLaid.nd rfl rfl rfl (by decide) (by decide) (by decide) rfl rfl rfl (pa_cons pe_str (pa_cons pe_int (pa_cons (pe_lst pa_nil) pa_nil))) (by rfl)) (pss_cons (ps_for PassesOwn.never rfl (pi_enum (by rfl) T.enumerate (pa_cons (pv 1) pa_nil)) (pg_tup (by rfl) (pgs_cons (pg_name (i := 5) scLaid.nd rfl (.inl rfl)) (pgs_cons (pg_name (i := 6) scLaid.nd rfl (.inl rfl)) pgs_nil))) (pss_cons (ps_set (i := 7) scLaid.nd rfl (Or.inl rfl) (pe_cd Dof hr pass0 (pa_cons (pv 0) (pa_cons (pe_lst (pa_cons pe_str (pa_cons pe_str (pa_cons pe_str (pa_cons pe_str (pa_cons pe_str (pa_cons pe_str (pa_cons pe_str pa_nil)))))))) pa_nil)))) (Evl.pss_cut (ps_if (pt_cmpR op_eq (pv 5) pe_int (nomark _)) (pss_one (ps_set (i := 7) scLaid.nd rfl (Or.inl rfl) (pe_cd Dof hr pass0 (pa_cons (pv 0) (pa_cons (pe_lst (pa_cons pe_str (pa_cons pe_str (pa_cons pe_str (pa_cons pe_str pa_nil))))) pa_nil))))) pss_nil) (pss_cons (ps_set (i := 2) scLaid.nd rfl (Or.inl rfl) (pe_op op_add_str (pe_op op_add_str (pv 2) (pv 7)) (pv 6))) (pss_cons (ps_set (i := 3) scLaid.nd rfl (Or.inl rfl) (pe_op op_add (pv 3) (pe_bm PySem.F.plainAttrs_str PySem.F.slot_str_count PySem.F.type_str_count mt_count (pv 7) (pa_cons pe_str pa_nil)))) (pss_one (ps_expr (pe_bm PySem.F.plainAttrs_list PySem.F.slot_list_append PySem.F.type_list_append mt_append (pv 4) (pa_cons (pv 3) pa_nil))))))))) (pss_one (ps_ret (pe_tup (pa_cons (pe_op op_add_str (pv 2) (pe_cd Dof hr pass0 (pa_cons (pv 0) (pa_cons (pe_lst (pa_cons pe_str (pa_cons pe_str (pa_cons pe_str (pa_cons pe_str (pa_cons pe_str pa_nil)))))) pa_nil)))) (pa_cons (pv 4) pa_nil))))))), ?_⟩
    refine ⟨Nat.zero_le _, fun l hnl => ⟨_, _, _, rfl, ?_⟩⟩
    have el : (ts.map fun t => V.str (mkS t)).length = ts.length := List.length_map ..
    have sL : (16777216 : Nat) ≤ sizeLine := by decide
    have nbl : l ≠ b := (hB.ne hnl).symm
    refine ⟨_, rfl, p, _, rfl, (Off.new (Off.refl b H) hnl).seq hpb hS, for_it (walk_enum (xs := ts.map fun t => V.str (mkS t))) (fun i σ H' => ∃ (z : List Nat) (ln : Int) (ls : List V) (v5 v6 v7 : Option V), σ = [some (.ref b), some (.ref p), some (.str (mkS z)), some (.int ln), some (.ref l), v5, v6, v7] ∧ Laid z (ts.take i) ∧ (i = 0 → z = []) ∧ z.length ≤ 11 * i ∧ H' l = some (.lst ls) ∧ ls.length = i ∧ Off b H H' ∧ Bag H' b (n + 2 * i))
      ⟨[], 1, [], none, none, none, by rw [← mkS_nil]; rfl, laid_nil, fun _ => rfl, Nat.zero_le _, upd_same, rfl, Off.new (Off.refl b H) hnl, hB.new hnl⟩ (fun i σ H' _ h => ?_) ?_ ?_⟩
    · obtain ⟨_, _, _, _, _, _, _, _, _, _, _, _, hO, _⟩ := h
      exact hO.seq hpb hS
    · rintro i x σ H1 H2 hi ⟨z, ln, ls, v5, v6, v7, rfl, hz, hz0, hzl, hll, hlen, hO, hB1⟩ ⟨t0, x1, x2, rfl, ht0, rfl, e1, e2⟩
      rw [el] at hi
      obtain ⟨tk, etk, rfl⟩ : ∃ t, ts[i]? = some t ∧ x2 = V.str (mkS t) := ⟨ts[i], List.getElem?_eq_getElem hi, by
        have e2 : (ts.map fun t => V.str (mkS t))[i]? = some x2 := e2
        rw [List.getElem?_map, List.getElem?_eq_getElem hi] at e2; cases e2; rfl⟩
      cases e1
      have hne : ∀ {a : Addr} {o : HO}, H1 a = some o → a ≠ t0 := fun h => ne_of_none h ht0
      have nbl0 : b ≠ t0 := hB1.ne ht0
      obtain ⟨htk1, htk2, htk3⟩ := ht tk (List.mem_of_getElem? etk)
      have hB2 := hB1.new (o := .tup [.int (i : Nat), .str (mkS tk)]) ht0
      have hO2 : Off b H (upd H1 t0 (.tup [.int (i : Nat), .str (mkS tk)])) := hO.new ht0
      have hl2 : upd H1 t0 (.tup [.int (i : Nat), .str (mkS tk)]) l = some (.lst ls) := by rw [upd_ne (hne hll)]; exact hll
      refine ⟨t0, _, rfl, SqT.of upd_same, rfl, _, _, rfl, _, _, rfl, rfl, ?_⟩
      generalize upd H1 t0 (.tup [.int (i : Nat), .str (mkS tk)]) = H2 at hB2 hO2 hl2 ⊢
      refine ⟨_, rfl, by show 7 ≤ sizeLine; decide, fun q hq => ?_⟩
      refine ⟨b, n + 2 * i, hB2.new hq, by omega, .inl ⟨q, _, rfl, (hB2.ne hq).symm, SqL.of upd_same, by show 1 ≤ 7; decide, by show 7 ≤ 1000000; decide, fun x H3 hx hO3 hB3 => ?_⟩⟩
      have hO3' : Off b H H3 := (hO2.new hq).trans hO3
      have hl3 : H3 l = some (.lst ls) := hO3 _ _ nbl (by rw [upd_ne (ne_of_none hl2 hq)]; exact hl2)
      obtain ⟨g, rfl, hg, hgn, hgl⟩ := gap_more hx
      refine ⟨fun σ' H' => ∃ g : List Nat, σ' = [some (.ref b), some (.ref p), some (.str (mkS z)), some (.int ln), some (.ref l), some (.int (i : Nat)), some (.str (mkS tk)), some (.str (mkS g))] ∧ (∀ c ∈ g, gapC c = true) ∧ (i ≠ 0 → g ≠ []) ∧ g.length ≤ 3 ∧ Off b H H' ∧ Bag H' b (n + 2 * i + 2) ∧ H' l = some (.lst ls), ?_, ?_⟩
      · refine ⟨_, rfl, rfl, _, rfl, ?_⟩
        refine ite2 (fun c0 => ?_) (fun c0 => ?_)
        · have h0 : i = 0 := by
            have q := of_decide_eq_true c0
            injection q with q
            omega
          subst h0
          refine ⟨_, rfl, by show 4 ≤ sizeLine; decide, fun q2 hq2 => ?_⟩
          refine ⟨b, _, hB3.new hq2, by omega, .inl ⟨q2, _, rfl, (hB3.ne hq2).symm, SqL.of upd_same, by show 1 ≤ 4; decide, by show 4 ≤ 1000000; decide, fun x H4 hx hO4 hB4 => ?_⟩⟩
          obtain ⟨g2, rfl, hg2, hgl2⟩ := gap_first hx
          exact ⟨g2, rfl, hg2, fun z => absurd rfl z, hgl2, (hO3'.new hq2).trans hO4, hB4, hO4 _ _ nbl (by rw [upd_ne (ne_of_none hl3 hq2)]; exact hl3)⟩
        · exact ⟨g, rfl, hg, fun _ => hgn, hgl, hO3', hB3.mono (by omega), hl3⟩
      rintro _ H4 ⟨g, rfl, hg, hgn, hgl, hO4, hB4, hl4⟩
      refine ⟨_, rfl, _, rfl, _, _, rfl, rfl, ?_, _, rfl, _, _, rfl, rfl, ?_, ?_⟩
      · rw [mkS_len, mkS_len]; omega
      · rw [mkS_app, mkS_len, mkS_len, List.length_append]; omega
      refine ⟨_, rfl, _, rfl, rfl, _, _, rfl, rfl, _, _, rfl, rfl, ?_⟩
      refine ⟨_, rfl, .inl ⟨rfl, _, SqL.of hl4⟩, _, rfl, l, _, _, rfl, rfl, hl4, by rw [hlen]; omega, ?_⟩
      refine ⟨z ++ g ++ tk, _, _, _, _, _, by rw [mkS_app, mkS_app]; rfl, ?_, fun e => by omega, ?_, upd_same, by rw [List.length_append, hlen]; rfl, fun a o na ha => ?_, ?_⟩
      · have et : ts.take (i + 1) = ts.take i ++ [tk] := by rw [List.take_add_one, etk]; rfl
        rw [et]
        by_cases h0 : i = 0
        · subst h0
          rw [hz0 rfl]
          exact laid_first hg htk3 htk1
        · exact laid_more hz hg (hgn h0) htk3 htk1
      · rw [List.length_append, List.length_append]; omega
      · rw [upd_ne (ne_of_none ha hnl)]; exact hO4 a o na ha
      · obtain ⟨d, m, c, h1, r⟩ := hB4
        refine ⟨d, m, c, by rw [upd_ne nbl.symm]; exact h1, ?_⟩
        obtain ⟨r1, r2, r3, r4, r5⟩ := r
        exact ⟨r1, r2, r3, r4, by omega⟩
    · rintro σ H1 ⟨z, ln, ls, v5, v6, v7, rfl, hz, hz0, hzl, hll, hlen, hO, hB1⟩
      rw [el] at hz hz0 hzl hlen hB1
      rw [List.take_length] at hz
      refine ⟨_, rfl, _, rfl, by show 5 ≤ sizeLine; decide, fun q hq => ?_⟩
      refine ⟨b, _, hB1.new hq, by omega, .inl ⟨q, _, rfl, (hB1.ne hq).symm, SqL.of upd_same, by show 1 ≤ 5; decide, by show 5 ≤ 1000000; decide, fun x H3 hx hO3 hB3 => ?_⟩⟩
      obtain ⟨g, rfl, hg, hgl⟩ := gap_last hx
      refine ⟨_, _, rfl, rfl, ?_, _, rfl, by show 2 ≤ sizeLine; decide, fun t hnt => ?_⟩
      · rw [mkS_len, mkS_len]; omega
      have hl3 : H3 l = some (.lst ls) := hO3 _ _ nbl (by rw [upd_ne (ne_of_none hll hq)]; exact hll)
      have hO4 : Off b H H3 := (hO.new hq).trans hO3
      refine k t l (z ++ g) ls _ (hO4.new hnt) (hB3.new hnt) ?_ (by rw [mkS_app]; exact upd_same) (hz.fin g hg) (by rw [List.length_append]; omega) hnl (by rw [upd_ne (ne_of_none hl3 hnt)]; exact hl3)
      cases e : H t with
      | none => rfl
      | some o =>
        by_cases ne : t = b
        · subst ne
          obtain ⟨d, m, c, h1, _⟩ := hB3
          rw [h1] at hnt; cases hnt
        · rw [hO4 t o ne e] at hnt; cases hnt
end
end Ss
namespace Ss
open PySem L2 PySem.Spec PyProof.Rows
/-- what changes at b alone, b new at first, leaves all as it was -/
theorem same_off {H H1 H2 : Hp} {b : Addr} (s : Same H H1) (hb : H b = none) (o : Off b H1 H2) : Same H H2 := fun a u h => o a u (ne_of_none h hb) (s a u h)
theorem fresh_off {H H1 H2 : Hp} {b p : Addr} (s : Same H H1) (hb : H b = none) (o : Off b H1 H2) (hp : H2 p = none) : H p = none := Evl.fresh_back (same_off s hb o) hp
theorem el_catL {σ : L2.St} {H : Hp} {ta tb : TE} {l : Addr} {xs ys : List V} (ha : Evl.Ev ta σ H (.ref l)) (hl : H l = some (.lst xs)) (hb : Evl.EvL tb σ H ys) (hz : xs.length + ys.length ≤ 100000) : Evl.EvL (tOp rCat ta tb) σ H (xs ++ ys) := fun H1 e Q q =>
  ha H1 e _ fun H2 e2 => hb H2 (e.trans e2) _ fun p H3 hp e3 h3 => ⟨l, p, xs, ys, rfl, rfl, e3 _ _ (e2 _ _ (e _ _ hl)), h3, Evl.sz_of hz, fun r hr => q r _ (Evl.fresh_back (e2.trans e3) hr) ((e2.trans e3).trans (Evl.Ex.new hr)) upd_same⟩
theorem Bag.ne' {H H3 : Hp} {b r : Addr} {n : Nat} {o : HO} (_ : Bag H b n) (h : H3 r = some o) (hb : H3 b = none) : r ≠ b := ne_of_none h hb
/-! ### lists of texts as data -/
theorem dp_strs {K : PySem.W.Frag} {H : Hp} : ∀ ts : List Str, DpAll K H (ts.map V.str) (ts.map PyData.str)
  | [] => .nil
  | t :: ts => .cons (.str t) (dp_strs ts)
/-- a text of signs that there are -/
def okS (z : Str) : Bool := PyData.canLay0 (.str z)
theorem lay_strs : ∀ ts : List Str, ts.all okS = true → PyData.canLayAll0 (ts.map PyData.str) = true
  | [], _ => rfl
  | t :: ts, h => by
    rw [List.all_cons, Bool.and_eq_true] at h
    show (PyData.canLay0 (.str t) && PyData.canLayAll0 (ts.map PyData.str)) = true
    rw [lay_strs ts h.2, Bool.and_true]
    exact h.1
theorem deep_strs : ∀ ts : List Str, PyData.depthAll (ts.map PyData.str) = 0
  | [] => rfl
  | t :: ts => by
    show max (PyData.depth (.str t)) (PyData.depthAll (ts.map PyData.str)) = 0
    rw [deep_strs ts]
    rfl
theorem shaped_strs {ts : List Str} (h : ts.all okS = true) : SeqAt.shaped (.list (ts.map PyData.str)) = true := by
  show (PyData.canLayAll0 (ts.map PyData.str) && decide (PyData.depthAll (ts.map PyData.str) + 1 ≤ 64)) = true
  rw [lay_strs ts h, deep_strs]
  rfl
theorem okS_mk {t : List Nat} (h : ∀ c ∈ t, c < 1114112) : okS (mkS t) = true := by
  show (mkS t).cps.all (fun c => decide (c < 0x110000)) = true
  rw [← Array.all_toList, mkS_cps]
  exact List.all_eq_true.mpr fun c hc => decide_eq_true (h c hc)
theorem data_same {d : PyData} (h : SeqAt.shaped d = true) : PyData.eqv d d = true := SeqAt.eqv_refl d (SeqAt.canLay_of_shaped h)
theorem rv_eqs {K : PySem.W.Frag} {H : Hp} {p q : Addr} {ts : List Str} (h : ts.all okS = true) (h1 : SqL K H p (ts.map V.str)) (h2 : SqL K H q (ts.map V.str)) : Evl.RV (rEqD K) (.ref p) (.ref q) H (.bl true) := fun H1 e Q k =>
  ⟨_, _, .lst (Evl.ex_l e h1) (dp_strs ts), .lst (Evl.ex_l e h2) (dp_strs ts), shaped_strs h, shaped_strs h, by rw [data_same (shaped_strs h)]; exact k H1 (Evl.Ex.refl H1)⟩
theorem rv_nes {K : PySem.W.Frag} {H : Hp} {p q : Addr} {ts : List Str} (h : ts.all okS = true) (h1 : SqL K H p (ts.map V.str)) (h2 : SqL K H q (ts.map V.str)) : Evl.RV (rNeD K) (.ref p) (.ref q) H (.bl false) := fun H1 e Q k =>
  ⟨_, _, .lst (Evl.ex_l e h1) (dp_strs ts), .lst (Evl.ex_l e h2) (dp_strs ts), shaped_strs h, shaped_strs h, by rw [data_same (shaped_strs h)]; exact k H1 (Evl.Ex.refl H1)⟩
/-- isinstance(x, list) of a list -/
theorem rc_isL {K : PySem.W.Frag} {H : Hp} {p : Addr} {xs : List V} (h : H p = some (.lst xs)) : Evl.RC (rIsi K) [.ref p, .ty "list"] H (.bl true) := fun H1 s Q q =>
  ⟨.ref p, .ty "list", .type "list", .type "list", true, rfl, .ty _, .base (.lst (s _ _ h)), kit_ty (by decide +kernel), q H1 (Evl.Ex.refl H1)⟩
/-- lists of texts by their codes -/
theorem map_mk (ts : List (List Nat)) : (ts.map fun t => V.str (mkS t)) = (ts.map mkS).map V.str := by rw [List.map_map]; rfl
end Ss
namespace Ss
open PySem L2
section
variable {P : Program} {w : World} {K : PySem.W.Frag} {mg : Str → Option Value} {base : Heap}
abbrev sLaw29 : Stmt := topS 11
theorem scLaw29 : FnScope ["script", "bag", "runs", "turn", "run", "text", "lines", "first", "second"] ["script"] (defScope sLaw29) := ⟨rfl, rfl, rfl, by decide +kernel, rfl, by decide +kernel, by decide +kernel⟩
def spLaw (K : PySem.W.Frag) : Sp := fun vs H Q _ => ∃ (a : Addr) (ns : List Int), vs = [.ref a] ∧ SqL K H a (ns.map V.int) ∧ ns.length ≤ 63 ∧ ∀ H', Q (.bl true) H'
theorem ok_law {f : Addr} {fd : FuncData} (F : Fun K "law" "law" sLaw29 f fd) (T : G0 mg) (Dbag : Dk P w K mg base CX0 1 "_law_bag" ["script", "at"] (spBag K)) (Dtake : Dk P w K mg base CX0 1 "_law_take" ["dice", "many"] spTake) (Dtoken : Dk P w K mg base CX0 3 "_law_token" ["dice", "taken"] (spWord K SGN 4))
    (Dlaid : Dk P w K mg base CX0 3 "_law_laid" ["bag", "tokens"] (spLaid K)) (Dtok : Dk P w K mg base CX0 2 "tokens_of" ["text"] spRuns) : FnOk P w K mg base CX0 7 f fd ["script"] (spLaw K) := by
  refine F.ok scLaw29 (fun vs H Q E h => ?_) (fun cdv A outer s H vs Q E hr h => ?_)
  · obtain ⟨a, ns, rfl, _⟩ := h; rfl
  · obtain ⟨a, ns, rfl, hS, hl, k⟩ := h
    refine ⟨_, (pss_cons (ps_set (i := 1) scLaw29.nd rfl (Or.inl rfl) (pe_cd Dbag hr pass0 (pa_cons (pv 0) (pa_cons pe_int pa_nil)))) (pss_cons (ps_set (i := 2) scLaw29.nd rfl (Or.inl rfl) (pe_lst pa_nil)) (pss_cons (ps_for PassesOwn.never rfl (pi_range1 (by rfl) T.range (pa_cons (pe_cd Dtake hr pass0 (pa_cons (pv 1) (pa_cons pe_int pa_nil))) pa_nil)) (pg_name (i := 3) scLaw29.nd rfl (.inl rfl)) (pss_cons (ps_set (i := 4) scLaw29.nd rfl (Or.inl rfl) (pe_cd Dtoken hr pass0 (pa_cons (pv 1) (pa_cons (pe_lst pa_nil) pa_nil)))) (Evl.pss_cut (ps_if (pt_cmpR op_eq (pe_cd Dtake hr pass0 (pa_cons (pv 1) (pa_cons pe_int pa_nil))) pe_int (nomark _)) (pss_one (ps_set (i := 4) scLaw29.nd rfl (Or.inl rfl) (pe_op op_add_str (pv 4) (pe_cd Dtoken hr pass0 (pa_cons (pv 1) (pa_cons (pe_lst pa_nil) pa_nil)))))) pss_nil) (pss_one (ps_expr (pe_bm PySem.F.plainAttrs_list PySem.F.slot_list_append PySem.F.type_list_append mt_append (pv 2) (pa_cons (pv 4) pa_nil))))))) (pss_cons (ps_asg (pe_cd Dlaid hr pass0 (pa_cons (pe_cd Dbag hr pass0 (pa_cons (pv 0) (pa_cons pe_int pa_nil))) (pa_cons (pv 2) pa_nil))) (pg_tup (by rfl) (pgs_cons (pg_name (i := 5) scLaw29.nd rfl (.inl rfl)) (pgs_cons (pg_name (i := 6) scLaw29.nd rfl (.inl rfl)) pgs_nil)))) (pss_cons (ps_set (i := 7) scLaw29.nd rfl (Or.inl rfl) (pe_cd Dtok hr pass0 (pa_cons (pv 5) pa_nil))) (pss_cons (ps_if (PW.pt (pw_or (pt_not (pt_val (pe_callB call_isi (by rfl) T.isinstance (by decide +kernel) (pa_cons (pv 7) (pa_cons (pe_bltn (v := .ty "list") (u := .type "list") (by rfl) T.list (by decide +kernel) rfl) pa_nil))))) (pw_or1 (pt_cmpR (op_neD hr.units) (pv 7) (pv 2) (nomark _))))) (pss_one (ps_ret pe_bl)) pss_nil) (pss_cons (ps_expr (pe_bm PySem.F.plainAttrs_list PySem.F.slot_list_append PySem.F.type_list_append mt_append (pv 7) (pa_cons pe_str pa_nil))) (pss_cons (ps_set (i := 8) scLaw29.nd rfl (Or.inl rfl) (pe_cd Dtok hr pass0 (pa_cons (pv 5) pa_nil))) (pss_cons (ps_if (PW.pt (pw_or (pt_not (pt_val (pe_callB call_isi (by rfl) T.isinstance (by decide +kernel) (pa_cons (pv 8) (pa_cons (pe_bltn (v := .ty "list") (u := .type "list") (by rfl) T.list (by decide +kernel) rfl) pa_nil))))) (pw_or (pt_cmpR (op_neD hr.units) (pv 8) (pv 2) (nomark _)) (pw_or1 (pt_cmpR (op_neD hr.units) (pv 7) (pe_op op_cat (pv 2) (pe_lst (pa_cons pe_str pa_nil))) (nomark _)))))) (pss_one (ps_ret pe_bl)) pss_nil) (pss_one (ps_ret (pe_and (pe_cmpR (op_eqD hr.units) (pe_cd Dtok hr pass0 (pa_cons pe_str pa_nil)) (pe_lst pa_nil) (nomark _)) (pe_and (pe_cmpR (op_eqD hr.units) (pe_cd Dtok hr pass0 (pa_cons pe_str pa_nil)) (pe_lst pa_nil) (nomark _)) (pe_one (pe_cmpR (op_eqD hr.units) (pe_cd Dtok hr pass0 (pa_cons pe_str pa_nil)) (pe_lst (pa_cons pe_str (pa_cons pe_str pa_nil))) (nomark _)))))))))))))))), ?_⟩
    have s13 : ∀ c ∈ SGN, c < 1114112 := by decide +kernel
    refine ⟨_, rfl, a, ns, 0, rfl, hS, hl, by decide, fun b H1 hb s1 B1 => ?_⟩
    refine ⟨Nat.zero_le _, fun r hr1 => ?_⟩
    have hrH : H r = none := Evl.fresh_back s1 hr1
    have nrb : r ≠ b := (B1.ne hr1).symm
    refine ⟨_, rfl, b, _, 0, rfl, B1.new hr1, by decide, by decide, by decide, fun i H2 i0 i1 O2 B2 => ?_⟩
    obtain ⟨j, rfl⟩ : ∃ j : Nat, i = (j : Int) := ⟨i.toNat, (Int.toNat_of_nonneg i0).symm⟩
    have S2 : Same H H2 := same_off (Same.new s1 hr1) hb O2
    have hr2 : H2 r = some (.lst []) := O2 _ _ nrb upd_same
    refine ⟨j, rfl, by omega, by omega, ?_⟩
    rw [Int.toNat_natCast]
    have hj : j < 40 := by omega
    refine for_range (lo := 0) (n := j) (fun i σ H' => ∃ (ts : List (List Nat)) (v3 v4 : Option V), σ = [some (.ref a), some (.ref b), some (.ref r), v3, v4, none, none, none, none] ∧ ts.length = i ∧ (∀ t ∈ ts, t ≠ [] ∧ t.length ≤ 8 ∧ ∀ c ∈ t, c ∈ SGN) ∧ H' r = some (.lst ((ts.map mkS).map V.str)) ∧ Same H H' ∧ Bag H' b (1 + 11 * i))
      ⟨[], none, none, rfl, rfl, (fun t ht => nomatch ht), hr2, S2, B2⟩ ?_ ?_
    · rintro i σ H3 hi ⟨ts, v3, v4, rfl, hlen, hts, hr3, S3, B3⟩
      have frb : ∀ {H4 : Hp}, Off b H3 H4 → H4 r = some (.lst ((ts.map mkS).map V.str)) := fun O => O _ _ nrb hr3
      refine ⟨_, rfl, Nat.zero_le _, fun q hq => ⟨b, q, _, [], rfl, B3.new hq, by omega, (B3.ne hq).symm, SqL.of upd_same, by decide +kernel, fun t H4 l1 l2 l3 _ O4 B4 => ?_⟩⟩
      have O4' : Off b H3 H4 := (Off.new (Off.refl b H3) hq).trans O4
      have S4 : Same H H4 := same_off S3 hb O4'
      refine ⟨fun σ' H' => ∃ t : List Nat, σ' = [some (.ref a), some (.ref b), some (.ref r), some (.int (0 + i)), some (.str (mkS t)), none, none, none, none] ∧ t ≠ [] ∧ t.length ≤ 8 ∧ (∀ c ∈ t, c ∈ SGN) ∧ Off b H3 H' ∧ Bag H' b (1 + 11 * (i + 1)), ?_, ?_⟩
      · refine ⟨_, rfl, b, _, _, rfl, B4, by omega, by decide, by decide, fun u H5 u0 u1 O5 B5 => ⟨rfl, _, rfl, ?_⟩⟩
        refine ite2 (fun c0 => ?_) (fun c0 => ?_)
        · refine ⟨_, rfl, _, rfl, Nat.zero_le _, fun q hq => ⟨b, q, _, [], rfl, B5.new hq, by omega, (B5.ne hq).symm, SqL.of upd_same, by decide +kernel, fun t2 H6 m1 m2 m3 _ O6 B6 => ?_⟩⟩
          refine ⟨_, _, rfl, rfl, ?_, t ++ t2, by rw [mkS_app]; rfl, ?_, ?_, ?_, (O4'.trans O5).trans ((Off.new (Off.refl b H5) hq).trans O6), B6.mono (by omega)⟩
          · rw [mkS_len, mkS_len]; exact Nat.le_trans (show _ ≤ 8 by omega) (by decide)
          · intro e
            have := congrArg List.length e
            rw [List.length_append, List.length_nil] at this
            omega
          · rw [List.length_append]; omega
          · intro c hc
            rcases List.mem_append.mp hc with hc | hc
            · exact l3 c hc
            · exact m3 c hc
        · exact ⟨t, rfl, fun e => by rw [e, List.length_nil] at l1; omega, by omega, l3, O4'.trans O5, B5.mono (by omega)⟩
      rintro _ H5 ⟨t, rfl, h1, h2, h3, O5, B5⟩
      have hr5 := frb O5
      refine ⟨_, rfl, .inl ⟨rfl, _, SqL.of hr5⟩, _, rfl, r, _, _, rfl, rfl, hr5, ?_, ?_⟩
      · rw [List.length_map, List.length_map, hlen]; exact Nat.lt_of_lt_of_le (show i < 1000 by omega) (by decide)
      refine ⟨ts ++ [t], _, _, rfl, by rw [List.length_append, hlen]; rfl, fun u hu => ?_, ?_, Evl.Ex.mut (same_off S3 hb O5) hrH, ?_⟩
      · rcases List.mem_append.mp hu with hu | hu
        · exact hts u hu
        · rw [List.mem_singleton.mp hu]; exact ⟨h1, h2, h3⟩
      · rw [upd_same, List.map_append, List.map_append]; rfl
      · obtain ⟨d, m, c, g1, g2⟩ := B5
        exact ⟨d, m, c, by rw [upd_ne nrb.symm]; exact g1, g2⟩
    · rintro σ H3 ⟨ts, v3, v4, rfl, hlen, hts, hr3, S3, B3⟩
      have hok : (ts.map mkS).all okS = true := by
        rw [List.all_map]
        exact List.all_eq_true.mpr fun t ht => okS_mk fun c hc => s13 c ((hts t ht).2.2 c hc)
      refine ⟨_, rfl, a, ns, 1, rfl, Evl.ex_l S3 hS, hl, by decide, fun b2 H4 hb2 s4 B4 => ?_⟩
      have hr4 := s4 _ _ hr3
      refine ⟨_, rfl, b2, r, 0, ts, rfl, B4, by decide, (B4.ne' hr3 hb2), SqL.of (by rw [map_mk]; exact hr4), by omega, fun t ht => ⟨(hts t ht).1, (hts t ht).2.1, fun c hc => sgn_gap c ((hts t ht).2.2 c hc)⟩, fun q l z ls H5 O5 B5 hq0 hq hz hzl hl0 hll => ?_⟩
      have S5 : Same H3 H5 := same_off s4 hb2 O5
      refine ⟨q, _, rfl, SqT.of hq, rfl, _, _, rfl, _, _, rfl, rfl, ?_⟩
      refine ⟨_, rfl, mkS z, rfl, by rw [mkS_len]; omega, fun p1 H6 hp1 s6 h6 => ?_⟩
      have hr6 := s6 _ _ (S5 _ _ hr3)
      rw [mkS_cps, hz, map_mk] at h6
      refine Evl.q_when (b := false) (Evl.et_is (Evl.et_or (Evl.et_not (Evl.et_B (Evl.ev_cb (Evl.ea_cons (Evl.ev_var rfl) (Evl.ea_cons Evl.ev_c Evl.ea_nil)) (rc_isL h6)))) fun _ => Evl.et_test (Evl.ev_op (Evl.ev_var rfl) (Evl.ev_var rfl) (rv_nes hok (SqL.of h6) (SqL.of hr6)))) rfl) (fun e => Bool.noConfusion e) fun _ H7 s7 => ?_
      have h7 := s7 _ _ h6
      have hr7 := s7 _ _ hr6
      have npr : p1 ≠ r := fun e => by rw [e, S5 _ _ hr3] at hp1; cases hp1
      refine Evl.q_app h7 (Evl.ev_var rfl) Evl.ev_c (by rw [List.length_map, List.length_map, hlen]; omega) fun H8 s8 => ?_
      have hr8 : upd H8 p1 (.lst ((ts.map mkS).map V.str ++ [.str "x"])) r = some (.lst ((ts.map mkS).map V.str)) := by
        rw [upd_ne npr.symm]; exact s8 _ _ hr7
      have h8 : upd H8 p1 (.lst ((ts.map mkS).map V.str ++ [.str "x"])) p1 = some (.lst ((ts.map mkS ++ [("x" : Str)]).map V.str)) := by
        rw [upd_same, List.map_append]; rfl
      generalize upd H8 p1 (.lst ((ts.map mkS).map V.str ++ [.str "x"])) = H9 at hr8 h8 ⊢
      refine ⟨_, rfl, mkS z, rfl, by rw [mkS_len]; omega, fun p2 H10 hp2 s10 h10 => ?_⟩
      rw [mkS_cps, hz, map_mk] at h10
      have hr10 := s10 _ _ hr8
      have hx10 := s10 _ _ h8
      have hokx : (ts.map mkS ++ [("x" : Str)]).all okS = true := by
        rw [List.all_append, hok]; decide +kernel
      refine Evl.q_when (b := false) (Evl.et_is (Evl.et_or (Evl.et_not (Evl.et_B (Evl.ev_cb (Evl.ea_cons (Evl.ev_var rfl) (Evl.ea_cons Evl.ev_c Evl.ea_nil)) (rc_isL h10)))) fun _ =>
        Evl.et_or (Evl.et_test (Evl.ev_op (Evl.ev_var rfl) (Evl.ev_var rfl) (rv_nes hok (SqL.of h10) (SqL.of hr10)))) fun _ =>
        Evl.et_test (Evl.ev_opL (Evl.ev_var rfl) (el_catL (Evl.ev_var rfl) hr10 (Evl.el_lst (Evl.ea_cons Evl.ev_c Evl.ea_nil) (by show 1 ≤ 100000; decide)) (by rw [List.length_map, List.length_map, hlen]; show j + 1 ≤ 100000; omega)) fun p3 H11 h11 s11 =>
          rv_nes hokx (SqL.of (s11 _ _ hx10)) (SqL.of (show H11 p3 = some (.lst ((ts.map mkS ++ [("x" : Str)]).map V.str)) by rw [List.map_append]; exact h11)))) rfl) (fun e => Bool.noConfusion e) fun _ H11 s11 => ?_
      have tk : ∀ (z : Str) (xs : List Str), z.length ≤ 1000000 → ((rn [] z.cps.toList).map fun t => V.str (mkS t)) = xs.map V.str → ∀ {σ : L2.St} {H : Hp}, Evl.EvL (tCall spRuns [] E0 (tCons (tC (.str z)) tNil)) σ H (xs.map V.str) := fun z xs hz e {σ H} =>
        Evl.el_call (Evl.ea_cons Evl.ev_c Evl.ea_nil) fun H1 s Q q _ => ⟨z, rfl, hz, fun p H2 hp s2 h2 => q p H2 hp s2 (by rw [← e]; exact h2)⟩
      have pair : ∀ (z : Str) (xs : List Str), z.length ≤ 1000000 → ((rn [] z.cps.toList).map fun t => V.str (mkS t)) = xs.map V.str → xs.all okS = true → ∀ {σ : L2.St} {H : Hp} {tb : TE}, Evl.EvL tb σ H (xs.map V.str) → Evl.Ev (tOp (rEqD K) (tCall spRuns [] E0 (tCons (tC (.str z)) tNil)) tb) σ H (.bl true) := fun z xs hz e ho {σ H tb} hb =>
        Evl.ev_opLL (tk z xs hz e) hb fun p q H1 h1 h2 _ => rv_eqs ho (SqL.of h1) (SqL.of h2)
      refine Evl.s_ret (Evl.ev_andV (pair "" [] (by decide +kernel) (by decide +kernel) rfl (Evl.el_lst Evl.ea_nil (Nat.zero_le _))) fun _ => Evl.ev_andV (pair " \n  \n" [] (by decide +kernel) (by decide +kernel) rfl (Evl.el_lst Evl.ea_nil (Nat.zero_le _))) fun _ =>
        pair "a\nb " ["a", "b"] (by decide +kernel) (by decide +kernel) (by decide +kernel) (Evl.el_lst (Evl.ea_cons Evl.ev_c (Evl.ea_cons Evl.ev_c Evl.ea_nil)) (by show 2 ≤ 100000; decide))) fun H12 s12 => ?_
      exact k H12
end
end Ss
namespace Ss
open PySem L2 PyProof.Rows
/-- the built-in names that the text leaves as they are -/
def noB (K : PySem.W.Frag) : Bool := (["len", "abs", "int", "range", "tuple", "list", "str", "isinstance", "sorted", "set", "enumerate", "max", "min", "sum"] : List Str).all fun x => PySem.W.nsIn K mainGlobals x == some none
theorem noB_ok {K : PySem.W.Frag} {h : Heap} {mg : Str → Option Value} (X : K.In h) (G : h.Ns mainGlobals mg) (e : noB K = true) : G0 mg := by
  simp only [noB, List.all_cons, List.all_nil, Bool.and_eq_true, beq_iff_eq, and_true] at e
  obtain ⟨e1, e2, e3, e4, e5, e6, e7, e8, e9, e10, e11, e12, e13, e14⟩ := e
  exact ⟨PySem.W.mg_none_of X G e1, PySem.W.mg_none_of X G e2, PySem.W.mg_none_of X G e3, PySem.W.mg_none_of X G e4, PySem.W.mg_none_of X G e5, PySem.W.mg_none_of X G e6, PySem.W.mg_none_of X G e7, PySem.W.mg_none_of X G e8, PySem.W.mg_none_of X G e9, PySem.W.mg_none_of X G e10, PySem.W.mg_none_of X G e11, PySem.W.mg_none_of X G e12, PySem.W.mg_none_of X G e13, PySem.W.mg_none_of X G e14⟩
theorem all_mk {l : PySem.W.OpenLaw} {w : World} {K : PySem.W.Frag} {h : Heap} {mg : Str → Option Value} {fa : Addr}
    {fd0 : Addr} {od0 an0 : Option Addr} {sl0 : Array (Option Value)} {oc0 kV0 dc0 pm0 cd0 ct0 : Value}
    {fd1 : Addr} {od1 an1 : Option Addr} {sl1 : Array (Option Value)} {oc1 kV1 dc1 pm1 cd1 ct1 : Value}
    {fd2 : Addr} {od2 an2 : Option Addr} {sl2 : Array (Option Value)} {oc2 kV2 dc2 pm2 cd2 ct2 : Value}
    {fd3 : Addr} {od3 an3 : Option Addr} {sl3 : Array (Option Value)} {oc3 kV3 dc3 pm3 cd3 ct3 : Value}
    {fd4 : Addr} {od4 an4 : Option Addr} {sl4 : Array (Option Value)} {oc4 kV4 dc4 pm4 cd4 ct4 : Value}
    {fd5 : Addr} {od5 an5 : Option Addr} {sl5 : Array (Option Value)} {oc5 kV5 dc5 pm5 cd5 ct5 : Value}
    {fd6 : Addr} {od6 an6 : Option Addr} {sl6 : Array (Option Value)} {oc6 kV6 dc6 pm6 cd6 ct6 : Value}
    {fd7 : Addr} {od7 an7 : Option Addr} {sl7 : Array (Option Value)} {oc7 kV7 dc7 pm7 cd7 ct7 : Value}
    {fd8 : Addr} {od8 an8 : Option Addr} {sl8 : Array (Option Value)} {oc8 kV8 dc8 pm8 cd8 ct8 : Value}
    (X : K.In h) (G : h.Ns mainGlobals mg) (hfa : mg "law" = some (.ref fa))
    (da0 : PySem.W.nsIn K mainGlobals "_law_bag" = some (some (.ref fd0))) (dl0 : K.lookup fd0 = some ⟨oc0, od0, .func (PySem.W.fnOf "_law_bag" "_law_bag" (defArgs sBag) (defBody sBag) (defScope sBag) .none kV0 dc0 pm0 an0 cd0 ct0), sl0⟩) (dc_0 : PySem.W.codeIn K cd0 "_law_bag" = true) (dk0 : PySem.W.keepIn K (.ref fd0) = true)
    (da1 : PySem.W.nsIn K mainGlobals "_law_take" = some (some (.ref fd1))) (dl1 : K.lookup fd1 = some ⟨oc1, od1, .func (PySem.W.fnOf "_law_take" "_law_take" (defArgs sTake) (defBody sTake) (defScope sTake) .none kV1 dc1 pm1 an1 cd1 ct1), sl1⟩) (dc_1 : PySem.W.codeIn K cd1 "_law_take" = true) (dk1 : PySem.W.keepIn K (.ref fd1) = true)
    (da2 : PySem.W.nsIn K mainGlobals "_law_of" = some (some (.ref fd2))) (dl2 : K.lookup fd2 = some ⟨oc2, od2, .func (PySem.W.fnOf "_law_of" "_law_of" (defArgs sOf) (defBody sOf) (defScope sOf) .none kV2 dc2 pm2 an2 cd2 ct2), sl2⟩) (dc_2 : PySem.W.codeIn K cd2 "_law_of" = true) (dk2 : PySem.W.keepIn K (.ref fd2) = true)
    (da3 : PySem.W.nsIn K mainGlobals "_law_signs" = some (some (.ref fd3))) (dl3 : K.lookup fd3 = some ⟨oc3, od3, .func (PySem.W.fnOf "_law_signs" "_law_signs" (defArgs sSigns) (defBody sSigns) (defScope sSigns) .none kV3 dc3 pm3 an3 cd3 ct3), sl3⟩) (dc_3 : PySem.W.codeIn K cd3 "_law_signs" = true) (dk3 : PySem.W.keepIn K (.ref fd3) = true)
    (da4 : PySem.W.nsIn K mainGlobals "_law_token" = some (some (.ref fd4))) (dl4 : K.lookup fd4 = some ⟨oc4, od4, .func (PySem.W.fnOf "_law_token" "_law_token" (defArgs sToken) (defBody sToken) (defScope sToken) .none kV4 dc4 pm4 an4 cd4 ct4), sl4⟩) (dc_4 : PySem.W.codeIn K cd4 "_law_token" = true) (dk4 : PySem.W.keepIn K (.ref fd4) = true)
    (da5 : PySem.W.nsIn K mainGlobals "_law_laid" = some (some (.ref fd5))) (dl5 : K.lookup fd5 = some ⟨oc5, od5, .func (PySem.W.fnOf "_law_laid" "_law_laid" (defArgs sLaid) (defBody sLaid) (defScope sLaid) .none kV5 dc5 pm5 an5 cd5 ct5), sl5⟩) (dc_5 : PySem.W.codeIn K cd5 "_law_laid" = true) (dk5 : PySem.W.keepIn K (.ref fd5) = true)
    (da6 : PySem.W.nsIn K mainGlobals "runs_of" = some (some (.ref fd6))) (dl6 : K.lookup fd6 = some ⟨oc6, od6, .func (PySem.W.fnOf "runs_of" "runs_of" (defArgs sRuns) (defBody sRuns) (defScope sRuns) .none kV6 dc6 pm6 an6 cd6 ct6), sl6⟩) (dc_6 : PySem.W.codeIn K cd6 "runs_of" = true) (dk6 : PySem.W.keepIn K (.ref fd6) = true)
    (da7 : PySem.W.nsIn K mainGlobals "tokens_of" = some (some (.ref fd7))) (dl7 : K.lookup fd7 = some ⟨oc7, od7, .func (PySem.W.fnOf "tokens_of" "tokens_of" (defArgs sTokensof) (defBody sTokensof) (defScope sTokensof) .none kV7 dc7 pm7 an7 cd7 ct7), sl7⟩) (dc_7 : PySem.W.codeIn K cd7 "tokens_of" = true) (dk7 : PySem.W.keepIn K (.ref fd7) = true)
    (da8 : PySem.W.nsIn K mainGlobals "law" = some (some (.ref fd8))) (dl8 : K.lookup fd8 = some ⟨oc8, od8, .func (PySem.W.fnOf "law" "law" (defArgs sLaw29) (defBody sLaw29) (defScope sLaw29) .none kV8 dc8 pm8 an8 cd8 ct8), sl8⟩) (dc_8 : PySem.W.codeIn K cd8 "law" = true) (dk8 : PySem.W.keepIn K (.ref fd8) = true)
    (no : noB K = true) :
    ∃ fd : FuncData, (∀ (s : Shared) (v : Value), BindsTo s fd ⟨[v], []⟩ [("script", v)]) ∧ ∀ base : Heap, K.In base → base.Ns mainGlobals mg → FnOk l.prog w K mg base CX0 7 fa fd ["script"] (spLaw K) := by
  have e := hfa.symm.trans (PySem.W.mg_of X G da8)
  cases e
  obtain T := noB_ok X G no
  have F0 : DefAt K mg "_law_bag" sBag := def_at X G da0 dl0 dc_0 dk0
  have F1 : DefAt K mg "_law_take" sTake := def_at X G da1 dl1 dc_1 dk1
  have F2 : DefAt K mg "_law_of" sOf := def_at X G da2 dl2 dc_2 dk2
  have F3 : DefAt K mg "_law_signs" sSigns := def_at X G da3 dl3 dc_3 dk3
  have F4 : DefAt K mg "_law_token" sToken := def_at X G da4 dl4 dc_4 dk4
  have F5 : DefAt K mg "_law_laid" sLaid := def_at X G da5 dl5 dc_5 dk5
  have F6 : DefAt K mg "runs_of" sRuns := def_at X G da6 dl6 dc_6 dk6
  have F7 : DefAt K mg "tokens_of" sTokensof := def_at X G da7 dl7 dc_7 dk7
  refine ⟨PySem.W.fnOf "law" "law" (defArgs sLaw29) (defBody sLaw29) (defScope sLaw29) .none kV8 dc8 pm8 an8 cd8 ct8, fun s v => .of_eq rfl, fun base _ _ => ?_⟩
  have FL : Fun K "law" "law" sLaw29 _ _ := fun_mk (st := sLaw29) dl8 dc_8 dk8
  have Dtake : Dk l.prog w K mg base CX0 1 "_law_take" ["dice", "many"] spTake := ok_take F1 T
  have Dof := ok_of F2 T Dtake
  have Dsigns : Dk l.prog w K mg base CX0 1 "_law_signs" [] spSigns := ok_signs F3
  exact ok_law FL T (ok_bag F0 T) Dtake (ok_token F4 T Dof Dsigns) (ok_laid F5 T Dof) (ok_tokensof F7 (ok_runs F6))
theorem walk {l : PySem.W.OpenLaw} {q : Program} {loose : List Str} {XP : (Str → Option Value) → Heap → Prop} {YP : World → Heap → Prop} {d : DefRec} {K : Params → PySem.W.Frag} (hn : l.most = some 63) (hdf : d.params.defaults = [])
    (hY : ∀ (w : World) (h : Heap), YP w h → (K w.params).In h)
    (F : ∀ (w : World) (mg : Str → Option Value) (fa : Addr) (h : Heap), (K w.params).In h → h.Ns mainGlobals mg → mg d.name = some (.ref fa) →
      ∃ fd : FuncData, (∀ (s : Shared) (u : Value), BindsTo s fd ⟨[u], []⟩ [("script", u)]) ∧ ∀ base : Heap, (K w.params).In base → base.Ns mainGlobals mg → FnOk l.prog w (K w.params) mg base CX0 7 fa fd ["script"] (spLaw (K w.params))) :
    PySem.W.WalkO q loose XP YP l.row.toRowW d [] (fun f vs => PySem.call f vs) :=
  L2.walk_of (n := 63) (k := 7) (x := "script") (CX := fun _ => CX0) (sp := fun w => spLaw (K w.params)) hn (by decide) hdf ⟨rfl, by decide, by decide⟩ hY F (fun _ _ a ns hl _ hS => ⟨a, ns, rfl, hS, hl, fun _ => rfl⟩) fun _ _ _ _ _ z => z
end Ss
open PySem PySem.W PyProof.Rows in
set_option maxRecDepth 100000 in
set_option maxHeartbeats 0 in
theorem PySem.Challenge.cw_silentslips_k29_tokens_of_a_text_holds : PySem.Challenge.rw_silentslips_k29_tokens_of_a_text.Holds := by
  w_on; o_law; k_head; (case hw => w_witness2)
  k_fill
  refine Ss.walk (l := PySem.Challenge.rw_silentslips_k29_tokens_of_a_text) rfl rfl (fun w h Y => PySem.W.kIn_of Y) ?F
  case F =>
    intro w mg fa h KX G hmg
    refine' Ss.all_mk KX G hmg ?da0 ?dl0 ?dc_0 ?dk0 ?da1 ?dl1 ?dc_1 ?dk1 ?da2 ?dl2 ?dc_2 ?dk2 ?da3 ?dl3 ?dc_3 ?dk3 ?da4 ?dl4 ?dc_4 ?dk4 ?da5 ?dl5 ?dc_5 ?dk5 ?da6 ?dl6 ?dc_6 ?dk6 ?da7 ?dl7 ?dc_7 ?dk7 ?da8 ?dl8 ?dc_8 ?dk8 ?no
    (case da0 => k_is)
    (case dl0 => k_is)
    (case dc_0 => k_is)
    (case dk0 => k_is)
    (case da1 => k_is)
    (case dl1 => k_is)
    (case dc_1 => k_is)
    (case dk1 => k_is)
    (case da2 => k_is)
    (case dl2 => k_is)
    (case dc_2 => k_is)
    (case dk2 => k_is)
    (case da3 => k_is)
    (case dl3 => k_is)
    (case dc_3 => k_is)
    (case dk3 => k_is)
    (case da4 => k_is)
    (case dl4 => k_is)
    (case dc_4 => k_is)
    (case dk4 => k_is)
    (case da5 => k_is)
    (case dl5 => k_is)
    (case dc_5 => k_is)
    (case dk5 => k_is)
    (case da6 => k_is)
    (case dl6 => k_is)
    (case dc_6 => k_is)
    (case dk6 => k_is)
    (case da7 => k_is)
    (case dl7 => k_is)
    (case dc_7 => k_is)
    (case dk7 => k_is)
    (case da8 => k_is)
    (case dl8 => k_is)
    (case dc_8 => k_is)
    (case dk8 => k_is)
    (case no => first | rfl | kernel_rfl)
