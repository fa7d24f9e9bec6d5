import PyProof.Rows.All
import Wide.All
import OpenK.AllK
import Wide.FinOn
import HandS.ForMost
import HandS.EndBits
import HandS.Evl
import HandS.Wide
import HandS.IsInst
import HandS.TupAny
import HandS.Zip
import HandS.Walk
import HandS.More
import HandS.Strs
import HandS.SetFor
import HandS.SortInts
import HandS.ExcOwn
import KE.SortData
import HandS.WideBits
import HandS.TupSets
import HandS.IterVal
import HandS.OwnIter
import HandS.Property
import HandS.Codes
import HandS.Deep
import HandS.WordsExc
import HandS.TryOnly
import PyProof.InstSpecial
import PyProof.P3In
import PyProof.TupleOfSeq
import HandS.OwnEq
import KE.KDictWalk
import HandS.Iter
import HandS.Dict
import HandS.Small
import HandS.Flt
import HandS.Conv
import HandS.Star
import HandS.Style
import HandS.ExcIs
import HandS.ExcValue
import HandS.MakeKwOnly
import PySem.Challenge.RW_thingwise_k01_tables_made
set_option Elab.async false
set_option linter.all false
set_option maxRecDepth 100000
set_option maxHeartbeats 2000000
namespace TW
open PySem PySem.Spec PyProof.Rows L2
abbrev Ex (H H' : Hp) : Prop := Evl.Ex H H'
theorem Ex.rfl' {H : Hp} : Ex H H := Evl.Ex.refl H
/-! what stands beside H0: the things of l, each apart from the others -/
structure Has (H0 H : Hp) (l : List (Addr × HO)) : Prop where
  ex : Ex H0 H
  own : ∀ q ∈ l, H0 q.1 = none ∧ H q.1 = some q.2
  nd : (l.map (·.1)).Nodup
/-- all but the thing at w stays -/
def But (w : Addr) (H H' : Hp) : Prop := ∀ a o, a ≠ w → H a = some o → H' a = some o
theorem But.ex {w : Addr} {H H' : Hp} (e : Ex H H') : But w H H' := fun a o _ h => e a o h
theorem But.upd {w : Addr} {H : Hp} {o : HO} : But w H (upd H w o) := fun a u n h => by rw [upd_ne n]; exact h
theorem But.trans {w : Addr} {H H1 H2 : Hp} (a : But w H H1) (b : But w H1 H2) : But w H H2 := fun c o n h => b c o n (a c o n h)
theorem But.refl {w : Addr} {H : Hp} : But w H H := fun _ _ _ h => h
theorem But.free {w : Addr} {H H' : Hp} {p : Addr} {o : HO} (b : But w H H') (h : H' p = none) (hw : H' w = some o) : H p = none := by
  cases e : H p with
  | none => rfl
  | some u =>
    have n : p ≠ w := fun z => by rw [z, hw] at h; cases h
    rw [b p u n e] at h
    cases h
section
variable {H0 H H' : Hp} {l : List (Addr × HO)} {p w : Addr} {o o' : HO}
theorem Has.nil : Has H H [] := ⟨Evl.Ex.refl H, fun q h => absurd h List.not_mem_nil, List.Pairwise.nil⟩
theorem Has.get (h : Has H0 H l) (i : Nat) (hi : l[i]? = some (p, o)) : H p = some o := (h.own _ (List.mem_of_getElem? hi)).2
theorem Has.fr (h : Has H0 H l) (i : Nat) (hi : l[i]? = some (p, o)) : H0 p = none := (h.own _ (List.mem_of_getElem? hi)).1
theorem Has.new (h : Has H0 H l) (hp : H p = none) : Has H0 (upd H p o) ((p, o) :: l) := by
  refine ⟨h.ex.trans (Evl.Ex.new hp), fun q hq => ?_, ?_⟩
  · rcases List.mem_cons.mp hq with e | e
    · subst e
      exact ⟨Evl.fresh_back h.ex hp, upd_same⟩
    · obtain ⟨a, b⟩ := h.own q e
      exact ⟨a, by rw [upd_ne (ne_of_none b hp)]; exact b⟩
  · rw [List.map_cons, List.nodup_cons]
    refine ⟨fun z => ?_, h.nd⟩
    obtain ⟨q, hq, e⟩ := List.mem_map.mp z
    have b := (h.own q hq).2
    rw [e, hp] at b
    cases b
theorem Has.go (h : Has H0 H l) (e : Ex H H') : Has H0 H' l := ⟨h.ex.trans e, fun q hq => ⟨(h.own q hq).1, e _ _ (h.own q hq).2⟩, h.nd⟩
/-- a new thing behind an extension -/
theorem Has.newE (h : Has H0 H l) (e : Ex H H') (hp : H p = none) (hv : H' p = some o) : Has H0 H' ((p, o) :: l) := by
  refine ⟨h.ex.trans e, fun q hq => ?_, ?_⟩
  · rcases List.mem_cons.mp hq with z | z
    · subst z
      exact ⟨Evl.fresh_back h.ex hp, hv⟩
    · exact ⟨(h.own q z).1, e _ _ (h.own q z).2⟩
  · rw [List.map_cons, List.nodup_cons]
    refine ⟨fun z => ?_, h.nd⟩
    obtain ⟨q, hq, z2⟩ := List.mem_map.mp z
    have b := (h.own q hq).2
    rw [z2, hp] at b
    cases b
theorem nodup_at {α : Type} : ∀ {l : List α} {i j : Nat} {x : α}, l.Nodup → l[i]? = some x → l[j]? = some x → i = j := by
  intro l i j x nd hi hj
  obtain ⟨hi1, hi2⟩ := List.getElem?_eq_some_iff.mp hi
  obtain ⟨hj1, hj2⟩ := List.getElem?_eq_some_iff.mp hj
  rcases Nat.lt_trichotomy i j with c | c | c
  · exact absurd (hi2.trans hj2.symm) (List.pairwise_iff_getElem.mp nd i j hi1 hj1 c)
  · exact c
  · exact absurd (hj2.trans hi2.symm) (List.pairwise_iff_getElem.mp nd j i hj1 hi1 c)
/-- the i-th thing changes, all else stays -/
theorem Has.setB (h : Has H0 H l) (i : Nat) (hi : l[i]? = some (w, o)) (b : But w H H') (hv : H' w = some o') : Has H0 H' (l.set i (w, o')) := by
  have em : (l.set i (w, o')).map (·.1) = l.map (·.1) := by
    rw [List.map_set]
    refine List.ext_getElem? fun j => ?_
    by_cases e : i = j
    · subst e
      obtain ⟨h1, h2⟩ := List.getElem?_eq_some_iff.mp hi
      rw [List.getElem?_set_self (by rw [List.length_map]; exact h1), List.getElem?_map, hi]
      rfl
    · rw [List.getElem?_set_ne e]
  have nw : H0 w = none := h.fr i hi
  refine ⟨fun a u e => b a u (ne_of_none e nw) (h.ex a u e), fun q hq => ?_, by rw [em]; exact h.nd⟩
  obtain ⟨j, hj⟩ := List.mem_iff_getElem?.mp hq
  by_cases e : i = j
  · subst e
    obtain ⟨h1, _⟩ := List.getElem?_eq_some_iff.mp hi
    rw [List.getElem?_set_self h1] at hj
    cases hj
    exact ⟨nw, hv⟩
  · rw [List.getElem?_set_ne e] at hj
    obtain ⟨a, c⟩ := h.own q (List.mem_of_getElem? hj)
    refine ⟨a, b _ _ (fun z => e ?_) c⟩
    refine nodup_at h.nd (x := w) ?_ ?_
    · rw [List.getElem?_map, hi]
      rfl
    · rw [List.getElem?_map, hj, ← z]
      rfl
theorem Has.set (h : Has H0 H l) (i : Nat) (hi : l[i]? = some (w, o)) : Has H0 (upd H w o') (l.set i (w, o')) := h.setB i hi But.upd upd_same
theorem Has.sub {l' : List (Addr × HO)} (h : Has H0 H l) (s : l'.Sublist l) : Has H0 H l' := ⟨h.ex, fun q hq => h.own q (s.subset hq), (s.map _).nodup h.nd⟩
theorem Has.tail {q : Addr × HO} (h : Has H0 H (q :: l)) : Has H0 H l := h.sub (List.sublist_cons_self _ _)
/-- a new thing behind a step that changes w -/
theorem Has.newB (h : Has H0 H l) (i : Nat) (hi : l[i]? = some (w, o)) (hp : H p = none) (hv : H' p = some o') : p ≠ w := fun z => by
  have a := h.get i hi
  rw [← z, hp] at a
  cases a
/-- adding a thing that H0 does not know and that stands apart -/
theorem Has.add (h : Has H0 H l) (hp : H0 p = none) (hv : H p = some o) (na : p ∉ l.map (·.1)) : Has H0 H ((p, o) :: l) := by
  refine ⟨h.ex, fun q hq => ?_, List.nodup_cons.mpr ⟨na, h.nd⟩⟩
  rcases List.mem_cons.mp hq with z | z
  · subst z
    exact ⟨hp, hv⟩
  · exact h.own q z
theorem Has.notin (h : Has H0 H l) (hp : H p = none) : p ∉ l.map (·.1) := fun z => by
  obtain ⟨q, hq, z2⟩ := List.mem_map.mp z
  have b := (h.own q hq).2
  rw [z2, hp] at b
  cases b
end
/-! defs by their names -/
def Dfn (K : PySem.W.Frag) (mg : Str → Option Value) (x : Str) (st : Stmt) (ps : List Str) : Prop := ∃ (f : Addr) (fd : FuncData), Fun K x x st f fd ∧ mg x = some (.ref f) ∧ Binds K fd ps []
def Ok (P : Program) (w : World) (K : PySem.W.Frag) (mg : Str → Option Value) (base : Heap) (k : Nat) (x : Str) (ps : List Str) (sp : Sp) : Prop :=
  ∃ (f : Addr) (fd : FuncData), FnOk P w K mg base CX0 k f fd ps sp ∧ mg x = some (.ref f) ∧ PySem.W.keepIn K (.ref f) = true ∧ Binds K fd ps []
theorem Dfn.ok {P : Program} {w : World} {K : PySem.W.Frag} {mg : Str → Option Value} {base : Heap} {k : Nat} {x : Str} {st : Stmt} {ps : List Str} {sp : Sp} (D : Dfn K mg x st ps)
    (h : ∀ f fd, Fun K x x st f fd → FnOk P w K mg base CX0 k f fd ps sp) : Ok P w K mg base k x ps sp := by
  obtain ⟨f, fd, F, g, b⟩ := D
  exact ⟨f, fd, h f fd F, g, F.kp, b⟩
theorem pe_o {X : Cx} {k : Nat} {x : Str} {ps : List Str} {sp : Sp} {e : Expr} {es : List Expr} {t : TA} {p pos : Pos} (O : Ok X.prog X.w X.K X.mg X.base k x ps sp) (hr : Room k X.A) (ha : PA X (e :: es) t) (hg : Gl X x := by rfl)
    (hdb : (x == ("__debug__" : Str)) = false := by decide) (he : starEach (e :: es) X.env = (false, eval e X.env) :: starEach es X.env := by rfl) (hpl : (backTo pos (starEach es X.env)).any (·.1) = false := by rfl) :
    PE X (.Call (.Name x p) (e :: es) [] pos) (tCall sp [] E0 t) := by
  obtain ⟨f, fd, F, g, kp, b⟩ := O
  exact pe_call F hr hg g kp b .nil pass0 ha hdb he hpl
theorem dfn_mk {K : PySem.W.Frag} {mg : Str → Option Value} {h : Heap} {x : Str} {st : Stmt} {ps : List Str} {f : Addr} {oc : Value} {od an : Option Addr} {osl : Array (Option Value)} {kV doc pm cdv ct : Value}
    (X : K.In h) (G : h.Ns mainGlobals mg) (hb : ∀ (kV doc pm : Value) (an : Option Addr) (f' cdv ct : Value) (us : List Value), us.length = ps.length → bindArgs (PySem.W.fnOf x x (defArgs st) (defBody st) (defScope st) .none kV doc pm an cdv ct) ⟨us, []⟩ = pure (ps.zip us))
    (a : PySem.W.nsIn K mainGlobals x = some (some (.ref f))) (l : K.lookup f = some ⟨oc, od, .func (PySem.W.fnOf x x (defArgs st) (defBody st) (defScope st) .none kV doc pm an cdv ct), osl⟩)
    (c : PySem.W.codeIn K cdv x = true) (k : PySem.W.keepIn K (.ref f) = true) : Dfn K mg x st ps := by
  have F := fun_mk (st := st) l c k
  exact ⟨f, _, F, PySem.W.mg_of X G a, F.binds fun kV doc pm an cdv ct us hl => hb kV doc pm an .none cdv ct us hl⟩

theorem walk_zipT {K : PySem.W.Frag} {a b : Addr} {xs ys : List V} {n : Nat} (hn : n = min xs.length ys.length) : Walk (RZ.ItzT K a b) n (fun H => SqT K H a xs ∧ SqT K H b ys)
    (fun i H v H' => ∃ T x y, v = .ref T ∧ H T = none ∧ H' = upd H T (.tup [x, y]) ∧ xs[i]? = some x ∧ ys[i]? = some y) := by
  subst hn
  refine ⟨fun i H hi q => ?_, fun H q => ⟨xs, ys, q.1, q.2, by omega⟩, fun i H v H' hi q y => ?_⟩
  · have h1 : i < xs.length := by omega
    have h2 : i < ys.length := by omega
    exact ⟨xs, ys, xs[i], ys[i], q.1, q.2, List.getElem?_eq_getElem h1, List.getElem?_eq_getElem h2⟩
  · obtain ⟨T, x, z, rfl, hT, rfl, f1, f2⟩ := y
    exact ⟨T, x, z, rfl, hT, rfl, f1 xs q.1, f2 ys q.2⟩
theorem take_snoc {α : Type} {l : List α} {i : Nat} {x : α} (h : l[i]? = some x) : l.take (i + 1) = l.take i ++ [x] := by
  rw [List.take_add_one, h]
  rfl
theorem sz {n : Nat} (h : n ≤ 100000) : n ≤ sizeLine := Evl.sz_of h
theorem szl {n : Nat} (h : n < 100000) : n < sizeLine := Evl.sz_lt h
end TW
set_option Elab.async false
set_option linter.all false
set_option maxRecDepth 100000
set_option maxHeartbeats 4000000
namespace TW
open PySem PySem.Spec PyProof.Rows L2
/-- an empty set as it is made -/
abbrev fresh0 (w : World) : Obj := { cls := .type "set", dict := none, data := .set #[] 0 (.fresh 0 0 (!w.params.followText "set-order")) }
section
variable {P : Program} {w : World} {A : Around} {E : Value → Shared → Prop} {s : Shared}
theorem set_of_ints {l : Addr} {its : Array Value} (ns : List Int) {Q : Value → Shared → Prop} (noh : A.handled = none) (il : s.heap.IsList l its) (ii : IntsAre its.toList ns) (few : ns.length + 1 < scanBound)
    (go : ∀ (g : Heap) (tk c : Nat), SetR w g s.heap.objs.size (fun j => decide (j ∈ ns)) c → c ≤ ns.length → (∀ b o, s.heap.get? b = some o → g.get? b = some o) → Q (.ref s.heap.objs.size) { s with heap := g, toks := tk }) :
    wpAny (model P w) A (call (.type "set") [.ref l]) Q E s := by
  have size_eq : its.size = ns.length := by simpa using ii.length
  have C := F.called_set
  obtain ⟨c, tl, mro⟩ := C.mro
  have made_ := C.made
  have sub_ := C.sub
  have nt := C.notType
  have cc := C.canCreate
  have tc1 := F.typeCall_set_1 (.ref l)
  refine wpAny_call (codeAny_of_tree ?_)
  change wpAny _ _ (callAny (Value.type "set") ⟨[.ref l], []⟩) _ _ _
  refine wpAny_pure ⟨Code.quiet_builtin _ (by decide +kernel), codeAny_builtin F.entry_type_call ?_⟩
  rw [Around.under_plain (weight_type_call_type "set" _ _) rfl]
  repeat (any_goals (first | assumption | wp_step))
  refine codeAny_mono (code_set_led1 (.ref l) (E := E) (Q₁ := fun ob t => ob = .ref s.heap.objs.size ∧ t = { s with heap := s.heap.push (fresh0 w) }) ⟨rfl, rfl⟩) fun r t hr => ?_
  match r, hr with
  | .error e, hr => exact hr
  | .ok (.ret ob), hr =>
    obtain ⟨rfl, rfl⟩ := hr
    have at0 : (s.heap.push (fresh0 w)).get? s.heap.objs.size = some (fresh0 w) := Heap.get?_push_size _ rfl
    have ty0 : Shared.TypeIs { s with heap := s.heap.push (fresh0 w) } (.ref s.heap.objs.size) "set" := ⟨_, at0, rfl⟩
    have look_ := C.init.lookup
    have bind_ := C.init.bind (.ref s.heap.objs.size)
    repeat (any_goals (first | assumption | wp_step))
    refine codeAny_mono (codeAny_call_builtin (R := wants (fun r t => r = .none ∧ ∃ g tk c, t = { s with heap := g, toks := tk } ∧ SetR w g s.heap.objs.size (fun j => decide (j ∈ ns)) c ∧ c ≤ ns.length ∧ (∀ b o, s.heap.get? b = some o → g.get? b = some o)) E) C.init.plain F.entry_set_init (check_set_init_1 ty0 ?_)) fun r2 t2 hr2 => ?_
    · obtain ⟨⟨lc, ld, ldat, lsl⟩, lat, e1, nl, e2⟩ := il
      simp only at e1 e2
      subst e1
      subst e2
      have lat1 : (s.heap.push (fresh0 w)).get? l = some { cls := .type "list", dict := ld, data := .seq its nl, slots := lsl } := Heap.get?_push_of_some _ lat
      have k1 := F.sub_list_set
      have k2 := F.sub_list_frozenset
      have k3 : (Value.type "list" == Value.type "dict") = false := by decide
      have il1 : (s.heap.push (fresh0 w)).IsList l its := ⟨_, lat1, rfl, nl, rfl⟩
      unfold Builtin.«set.__init__» noKeywords Builtin.Frozenset.updateFrom
      generalize ePI : pyIter = PI
      wp_walk
      subst ePI
      refine wpAny_pyIter_list il1 (wpAny_bind (wpAny_runValue ?_))
      have ll := Heap.lt_size lat
      have sz1 : (s.heap.push (fresh0 w)).objs.size = s.heap.objs.size + 1 := Heap.size_push ..
      have noh3 : A.in1.in1.in1.handled = none := by simp [noh]
      have nI : l ≠ (s.heap.push (fresh0 w)).objs.size := sz1 ▸ Nat.ne_of_lt (Nat.lt_succ_of_lt ll)
      have nS : s.heap.objs.size ∉ [(s.heap.push (fresh0 w)).objs.size, l] := by
        simp only [List.mem_cons, List.not_mem_nil, or_false, not_or]
        exact ⟨sz1 ▸ Nat.ne_of_lt (Nat.lt_succ_self _), Nat.ne_of_gt ll⟩
      have vals_ : ∀ (i : Nat) (v : Value), its[i]? = some v → ∃ k t, ns[i]? = some k ∧ v = .int k t := fun i v hv => by
        have hi : i < ns.length := size_eq ▸ (Array.getElem?_eq_some_iff.mp hv).1
        obtain ⟨t, e⟩ := PyProof.Rows.IntsAre.int_at ii i v (by simpa using hv)
        refine ⟨ns[i], t, List.getElem?_eq_getElem hi, ?_⟩
        rw [e]
        simp [List.getD_eq_getElem?_getD, hi]
      refine set_update_ints ((Walks.list noh3 _ l nI its).toS) s.heap.objs.size nS ns size_eq few vals_ (its.size - 0) 0 _ (by omega) (Nat.zero_le _) ⟨⟨_, Heap.get?_push_size _ rfl, rfl, rfl⟩, il1.push _⟩ ⟨0, Nat.le_refl 0, setR_new_at (Heap.get?_push_of_some _ at0)⟩ ?_
      rintro ⟨g, g2, d2, tk, os2⟩ c2 mv c2l R2
      have z1 : g2 = s.gens := mv.gens
      have z2 : d2 = s.drawn := mv.drawn
      have z3 : os2 = s.os := mv.os
      subst z1 z2 z3
      show wpAny _ _ _ _ _ _
      refine wpAny_pure ?_
      show wpAny _ _ (ret Value.none) _ _ _
      refine wpAny_pure ⟨rfl, g, tk, c2, rfl, R2, by omega, fun b o e => ?_⟩
      have bl := Heap.lt_size e
      refine mv.heap b o ?_ (Heap.get?_push_of_some _ (Heap.get?_push_of_some _ e))
      simp only [List.mem_cons, List.not_mem_nil, or_false, not_or]
      exact ⟨Nat.ne_of_lt bl, sz1 ▸ Nat.ne_of_lt (Nat.lt_succ_of_lt bl)⟩
    · match r2, hr2 with
      | .error e, hr2 => exact hr2
      | .ok (.ret r3), hr2 =>
        obtain ⟨rfl, g, tk, c2, rfl, R2, c2l, kp⟩ := hr2
        repeat (any_goals (first | assumption | wp_step))
        exact go _ _ _ R2 c2l kp
      | .ok .next, hr2 => exact hr2.elim
      | .ok .brk, hr2 => exact hr2.elim
      | .ok .cont, hr2 => exact hr2.elim
  | .ok .next, hr => exact hr.elim
  | .ok .brk, hr => exact hr.elim
  | .ok .cont, hr => exact hr.elim
end
section
variable {X : Cx}
/-- set(xs), xs a list of ints -/
def rSetI (K : PySem.W.Frag) (w : World) : List V → Hp → VK → Prop := fun xs H Q => ∃ (l : Addr) (ns : List Int), xs = [V.ref l] ∧ SqL K H l (ns.map V.int) ∧ ns.length ≤ 4000 ∧
  ∀ a c, H a = none → c ≤ ns.length → Q (.ref a) (upd H a (SetO w a (fun j => decide (j ∈ ns)) c))
theorem cr_setI (hc : X.calm = true) : CallR X (.type "set") (rSetI X.K X.w) := by
  intro pins s σ H xs us Q I r h
  obtain ⟨l, ns, rfl, hl, hf, q⟩ := h
  rw [Vals.ref1 r]
  obtain ⟨its, rv, pl, hz⟩ := I.list hl
  have hn : H s.heap.objs.size = none := I.hok.fresh (Nat.le_refl _)
  refine set_of_ints (P := X.prog) (w := X.w) ns (I.ok.hd hc) pl.isList (by simpa using RZ.intsAre_vals rv) (by unfold scanBound; omega) fun g tk c R hcl k => ?_
  exact ⟨.ref s.heap.objs.size, upd H s.heap.objs.size (SetO X.w s.heap.objs.size (fun j => decide (j ∈ ns)) c), I.laid (t' := tk) k (Nat.le_refl _) (setO_new R), rfl, q _ c hn hcl⟩
end
end TW
set_option Elab.async false
set_option linter.all false
set_option maxRecDepth 100000
namespace TW
open PySem PySem.Spec PyProof.Rows L2
section
variable {X : Cx} {K : PySem.W.Frag}
def rIxA (K : PySem.W.Frag) : R2 := fun x y H Q => rIxL K x y H Q ∨ rIxT K x y H Q
theorem ix_any (h : X.K = K := by rfl) : IxR X (rIxA K) := by
  subst h
  exact IxR.or ix_list ix_tup
theorem op_inK (h : X.K = K := by rfl) : OpR X (compareOp .In) (rIn K false) := by
  subst h
  exact op_in_seq
theorem op_notInK (h : X.K = K := by rfl) : OpR X (compareOp .NotIn) (rIn K true) := by
  subst h
  exact op_notIn_seq
def rTupOf (K : PySem.W.Frag) : List V → Hp → VK → Prop := fun xs H Q => ∃ p ys, xs = [.ref p] ∧ ((SqL K H p ys ∧ ∀ l, H l = none → Q (.ref l) (upd H l (.tup ys))) ∨ (SqT K H p ys ∧ Q (.ref p) H))
theorem call_tupleK (h : X.K = K := by rfl) : CallR X (.type "tuple") (rTupOf K) := by
  subst h
  exact call_tuple_of
def rLenOf (K : PySem.W.Frag) : List V → Hp → VK → Prop := fun xs H Q => ∃ p ys, xs = [.ref p] ∧ (SqL K H p ys ∨ SqT K H p ys) ∧ Q (.int ys.length) H
theorem call_lenK (h : X.K = K := by rfl) : CallR X (.builtin "len") (rLenOf K) := by
  subst h
  exact call_len_seq
def rListOf (K : PySem.W.Frag) : List V → Hp → VK → Prop := fun xs H Q => ∃ p ys, xs = [.ref p] ∧ (SqL K H p ys ∨ SqT K H p ys) ∧ ∀ l, H l = none → Q (.ref l) (upd H l (.lst ys))
theorem call_listK (h : X.K = K := by rfl) : CallR X (.type "list") (rListOf K) := by
  subst h
  exact call_list_of
theorem cr_allK (hc : X.calm = true) (h : X.K = K := by rfl) : CallR X (.builtin "all") (rAll K) := by
  subst h
  exact cr_all hc
theorem cr_setK {w : World} (hc : X.calm = true) (h : X.K = K := by rfl) (hw : X.w = w := by rfl) : CallR X (.type "set") (rSetI K w) := by
  subst h
  subst hw
  exact cr_setI hc
theorem cr_sortedSetK {w : World} (hc : X.calm = true) (hw : X.w = w := by rfl) : CallR X (.builtin "sorted") (rSortedSet w) := by
  subst hw
  exact cr_sortedSet hc
theorem cr_anyK (hc : X.calm = true) (h : X.K = K := by rfl) : CallR X (.builtin "any") (rAny K) := by
  subst h
  exact cr_any hc
end
end TW
set_option maxRecDepth 100000
namespace TW
open PySem PySem.Spec PyProof.Rows L2
def topS (i : Nat) : Stmt := PySem.Challenge.pw_thingwise_k01_tables_made.main.body.getD i (.Pass ⟨0, 0, 0, 0⟩)
abbrev s_is_integer : Stmt := topS 6
abbrev s_is_thing : Stmt := topS 7
abbrev s_is_ascending : Stmt := topS 8
abbrev s_is_lot : Stmt := topS 9
abbrev s_check_things : Stmt := topS 10
abbrev s_Table_init : Stmt := inClass (topS 12) 0
abbrev s_Table_things : Stmt := inClass (topS 12) 1
abbrev s_Table_lots : Stmt := inClass (topS 12) 2
abbrev s_Table_len : Stmt := inClass (topS 12) 3
abbrev s_Table_iter : Stmt := inClass (topS 12) 4
abbrev s_Table_contains : Stmt := inClass (topS 12) 5
abbrev s_Table_eq : Stmt := inClass (topS 12) 6
abbrev s__law_draws_of : Stmt := topS 14
abbrev s__law_dip : Stmt := topS 15
abbrev s__law_same : Stmt := topS 16
abbrev s__law_number : Stmt := topS 17
abbrev s__law_rising : Stmt := topS 18
abbrev s__law_lot_of : Stmt := topS 19
abbrev s__law_bits_of : Stmt := topS 20
abbrev s__law_met : Stmt := topS 21
abbrev s__law_all_kept : Stmt := topS 22
abbrev s__law_one_sign : Stmt := topS 23
abbrev s__law_one_bar : Stmt := topS 24
abbrev s__law_some_bars : Stmt := topS 25
abbrev s__law_some_masks : Stmt := topS 26
abbrev s__law_mixed : Stmt := topS 27
abbrev s__law_make_table : Stmt := topS 28
abbrev s__law_a_lot : Stmt := topS 29
abbrev s__law_far_odd : Stmt := topS 30
abbrev s__law_odd : Stmt := topS 31
abbrev s__law_bent : Stmt := topS 32
abbrev s__law_width : Stmt := topS 33
abbrev s__law_nested : Stmt := topS 34
abbrev s__law_asked : Stmt := topS 35
abbrev s__law_unlike : Stmt := topS 36
abbrev s_law : Stmt := topS 37
end TW
set_option Elab.async false
set_option linter.all false
set_option maxRecDepth 100000
set_option maxHeartbeats 4000000
namespace TW
open PySem PySem.Spec PyProof.Rows L2
structure Z (mg : Str → Option Value) : Prop where
  len : mg "len" = none
  int : mg "int" = none
  all : mg "all" = none
  sorted : mg "sorted" = none
  tuple : mg "tuple" = none
  list : mg "list" = none
  set : mg "set" = none
  type : mg "type" = none
  isinstance : mg "isinstance" = none
  zip : mg "zip" = none
  range : mg "range" = none
  bool : mg "bool" = none
  any : mg "any" = none
  iter : mg "iter" = none
  property : mg "property" = none
section
variable {P : Program} {w : World} {K : PySem.W.Frag} {mg : Str → Option Value} {base : Heap}
theorem pe_tyn {X : Cx} {n : String} {p : Pos} (hg : Gl X (Str.ofString n)) (hm : X.mg (Str.ofString n) = none) (hv : bootBuiltins (Str.ofString n) = some (.type n)) (hn : Str.ofString n ≠ "__name__" := by decide) (hd : (Str.ofString n == ("__debug__" : Str)) = false := by decide) : PE X (.Name (Str.ofString n) p) (tC (.ty n)) := pe_bltn hg hm hv rfl hn hd
/-! is_integer, of ints -/
theorem sc_is_integer : FnScope ["value", "least"] ["value", "least"] (defScope s_is_integer) := ⟨rfl, rfl, rfl, by decide +kernel, rfl, by decide +kernel, by decide +kernel⟩
def spIsInt : Sp := fun vs H Q _ => ∃ i l : Int, vs = [.int i, .int l] ∧ Q (.bl (decide (l ≤ i))) H
theorem ok_is_integer (D : Dfn K mg "is_integer" s_is_integer ["value", "least"]) (z : Z mg) : Ok P w K mg base 1 "is_integer" ["value", "least"] spIsInt := D.ok fun f fd F => by
  refine F.ok sc_is_integer (fun vs H Q E h => ?_) (fun cdv A outer s H vs Q E hr h => ?_)
  · obtain ⟨i, l, rfl, _⟩ := h
    rfl
  · obtain ⟨i, l, rfl, q⟩ := h
    refine ⟨_, (pss_one (ps_ret (pe_and (pe_cmpR op_isTy (pe_callTy call_type1 (by rfl) z.type (by decide +kernel) (pa_cons (pv 0) pa_nil)) (pe_tyn (n := "int") (by rfl) z.int (by decide +kernel)) (nomark _)) (pe_one (pe_cmpR op_ge (pv 0) (pv 1) (nomark _)))))), ?_⟩
    exact ⟨_, rfl, _, _, rfl, .int i, _, _, rfl, rfl, _, rfl, _, rfl, _, rfl, _, _, rfl, rfl, q⟩

/-! is_thing -/
def thV : Option Int → V
  | none => .non
  | some n => .int n
def inThings (i : Int) : Option Int → Bool
  | none => true
  | some n => decide (i < n)
theorem sc_is_thing : FnScope ["value", "things"] ["value", "things"] (defScope s_is_thing) := ⟨rfl, rfl, rfl, by decide +kernel, rfl, by decide +kernel, by decide +kernel⟩
def spIsThing : Sp := fun vs H Q _ => ∃ (i : Int) (t : Option Int), vs = [.int i, thV t] ∧ Q (.bl (decide (0 ≤ i) && inThings i t)) H
theorem ok_is_thing (D : Dfn K mg "is_thing" s_is_thing ["value", "things"]) (O_is_integer : Ok P w K mg base 1 "is_integer" ["value", "least"] spIsInt) : Ok P w K mg base 2 "is_thing" ["value", "things"] spIsThing := D.ok fun f fd F => by
  refine F.ok sc_is_thing (fun vs H Q E h => ?_) (fun cdv A outer s H vs Q E hr h => ?_)
  · obtain ⟨i, t, rfl, _⟩ := h
    rfl
  · obtain ⟨i, t, rfl, q⟩ := h
    refine ⟨_, (pss_one (ps_ret (pe_and (pe_o O_is_integer hr (pa_cons (pv 0) (pa_cons pe_int pa_nil))) (pe_one (pe_or (pe_cmpR op_isN (pv 1) pe_non (nomark _)) (pe_one (pe_cmpR op_lt (pv 0) (pv 1) (nomark _)))))))), ?_⟩
    refine ⟨_, rfl, _, _, rfl, _, rfl, ?_⟩
    cases h0 : decide (0 ≤ i) with
    | false =>
      rw [h0] at q
      exact q
    | true =>
      rw [h0] at q
      cases t with
      | none => exact ⟨_, rfl, rfl, _, rfl, q⟩
      | some n => exact ⟨_, rfl, rfl, _, rfl, _, rfl, _, rfl, _, _, rfl, rfl, q⟩
/-! is_ascending, of a tuple of ints -/
def adj (ns : List Int) : List Bool := List.zipWith (fun x y => decide (x < y)) ns (ns.drop 1)
theorem adj_len (ns : List Int) : (adj ns).length = min (ns.map V.int).length ((ns.drop 1).map V.int).length := by
  unfold adj
  rw [List.length_zipWith, List.length_map, List.length_map]
theorem adj_get {ns : List Int} {i : Nat} {x y : V} (h1 : (ns.map V.int)[i]? = some x) (h2 : ((ns.drop 1).map V.int)[i]? = some y) : ∃ p q, x = .int p ∧ y = .int q ∧ (adj ns)[i]? = some (decide (p < q)) := by
  rw [List.getElem?_map] at h1 h2
  cases e1 : ns[i]? with
  | none => rw [e1] at h1; cases h1
  | some p =>
    cases e2 : (ns.drop 1)[i]? with
    | none => rw [e2] at h2; cases h2
    | some q =>
      rw [e1] at h1
      rw [e2] at h2
      refine ⟨p, q, (Option.some.inj h1).symm, (Option.some.inj h2).symm, ?_⟩
      unfold adj
      rw [List.getElem?_zipWith, e1, e2]
def asc : List Int → Bool
  | x :: y :: r => decide (x < y) && asc (y :: r)
  | _ => true
theorem adj_asc : ∀ ns : List Int, (adj ns).all id = asc ns
  | [] => rfl
  | [_] => rfl
  | x :: y :: r => by
    have ih := adj_asc (y :: r)
    show (decide (x < y) && (adj (y :: r)).all id) = (decide (x < y) && asc (y :: r))
    rw [ih]
theorem sc_is_ascending : FnScope ["values", "low", "high"] ["values"] (defScope s_is_ascending) := ⟨rfl, rfl, rfl, by decide +kernel, rfl, by decide +kernel, by decide +kernel⟩
def spIsAsc (K : PySem.W.Frag) : Sp := fun vs H Q _ => ∃ (t : Addr) (ns : List Int), vs = [.ref t] ∧ SqT K H t (ns.map V.int) ∧ ns.length ≤ 1000 ∧ ∀ H', Ex H H' → Q (.bl (asc ns)) H'
theorem ok_is_ascending (D : Dfn K mg "is_ascending" s_is_ascending ["values"]) (z : Z mg) : Ok P w K mg base 1 "is_ascending" ["values"] (spIsAsc K) := D.ok fun f fd F => by
  refine F.ok sc_is_ascending (fun vs H Q E h => ?_) (fun cdv A outer s H vs Q E hr h => ?_)
  · obtain ⟨i, t, rfl, _⟩ := h
    rfl
  · obtain ⟨t, ns, rfl, hT, hl, q⟩ := h
    refine ⟨_, (pss_one (ps_ret (pe_callB (cr_all rfl) (by rfl) z.all (by decide +kernel) (pa_cons (pe_lc (own := [("low", 1), ("high", 2)]) (g := gTup K 2 (gCons (gName 1) (gCons (gName 2) gNil))) rfl sc_is_ascending.nd (RZ.pi_zipA (by rfl) z.zip (pa_cons (pv 0) (pa_cons (pe_slice sl_tupA (pv 0) (po_some pe_int) po_none) pa_nil))) (blkOk_by (N := ["values", "low", "high"]) (own := [("low", 1), ("high", 2)]) (sc := defScope s_is_ascending) (by decide +kernel)) (fun _ _ _ _ _ => pg_tup rfl (pgs_cons (pg_name (i := 1) sc_is_ascending.nd rfl (Or.inl rfl)) (pgs_cons (pg_name (i := 2) sc_is_ascending.nd rfl (Or.inl rfl)) (pgs_nil)))) (fun _ _ _ _ _ => pts_nil) (fun _ _ _ _ _ => (pe_cmpR op_lt (pv 1) (pv 2) (nomark _)))) pa_nil)))), ?_⟩
    refine ⟨_, rfl, _, rfl, _, rfl, t, ns.map V.int, rfl, hT, ?_⟩
    have key : ∀ (t' : Addr) (H1 : Hp), Ex H H1 → SqT K H1 t' ((ns.drop 1).map V.int) → ∀ (R : V → Hp → Prop), (∀ Dl H2, H1 Dl = none → Ex H1 H2 → H2 Dl = some (.lst ((adj ns).map V.bl)) → R (.ref Dl) H2) → ∀ Dl, H1 Dl = none → ∃ W : Nat → Nat → Hp → Prop, (∃ m, W 0 m (upd H1 Dl (.lst []))) ∧ ∀ i m H, W i m H →
      ((RZ.ItzT K t t').stop i H ∧ R (.ref Dl) H) ∨ ((RZ.ItzT K t t').go i H ∧ ∃ Nx : Hp → Prop, (∀ H', Nx H' → ∃ m', m' < m ∧ W (i + 1) m' H') ∧ ∀ x H', (RZ.ItzT K t t').yld i H x H' → gTup K 2 (gCons (gName 1) (gCons (gName 2) gNil)) x (wipe (L2.start ["values", "low", "high"] [V.ref t]) [1, 2]) H' fun σ2 H2 => wipe σ2 [1, 2] = wipe (L2.start ["values", "low", "high"] [V.ref t]) [1, 2] ∧ tYes σ2 H2 fun b H3 =>
        if b = true then tOp (rI0 fun i j => .bl (decide (i < j))) (tVar 1) (tVar 2) σ2 H3 fun y H4 => ∃ acc, H4 Dl = some (.lst acc) ∧ acc.length < sizeLine ∧ Nx (upd H4 Dl (.lst (acc ++ [y]))) else Nx H3) := by
      intro t' H1 e1 hT' R hR Dl hD
      refine lc_it (walk_zipT (adj_len ns)) (Qd := fun H => R (.ref Dl) H) (fun i H' => Ex H1 H' ∧ H' Dl = some (.lst (((adj ns).take i).map V.bl))) ⟨Evl.Ex.new hD, by rw [upd_same]; rfl⟩ (fun i H' _ p => ⟨Evl.ex_t (e1.trans p.1) hT, Evl.ex_t p.1 hT'⟩) ?_ (fun H' p => hR Dl H' hD p.1 (by have := p.2; rw [List.take_length] at this; exact this))
      rintro i x H2 H3 hi ⟨x2, hL⟩ ⟨T, u, v, rfl, nT, rfl, hu, hv⟩
      obtain ⟨p, q2, rfl, rfl, ha⟩ := adj_get hu hv
      refine ⟨T, _, rfl, Evl.st_of upd_same, rfl, _, _, rfl, _, _, rfl, rfl, rfl, ?_⟩
      refine ⟨_, rfl, _, rfl, _, _, rfl, rfl, _, Eq.trans (upd_ne (ne_of_none hL nT)) hL, szl ?_, ?_, ?_⟩
      · rw [List.length_map, List.length_take]
        have := adj_len ns
        rw [List.length_map] at this
        omega
      · exact Evl.Ex.mut (x2.trans (Evl.Ex.new nT)) hD
      · rw [upd_same, take_snoc ha, List.map_append]
        rfl
    have fin : ∀ Dl H2, Ex H H2 → H2 Dl = some (.lst ((adj ns).map V.bl)) → rAll K [.ref Dl] H2 Q := fun Dl H2 e2 h2 => ⟨Dl, adj ns, rfl, Evl.sq_of h2, by
      rw [adj_asc]
      exact q H2 e2⟩
    have i0 : HT.sIx (ns.map V.int).length 0 (some 1) = min 1 (ns.map V.int).length := HT.sIx_nat _ 0 1
    have e1 : cutV (ns.map V.int) (some 1) none = (ns.drop 1).map V.int := by
      unfold cutV
      rw [i0, HT.sIx_none, List.map_drop]
      cases ns with
      | nil => rfl
      | cons x r =>
        rw [show min 1 (List.map V.int (x :: r)).length = 1 by rw [List.map_cons, List.length_cons]; omega]
        rw [← List.length_drop, List.take_length]
    refine ⟨fun hw => ?_, fun hw p hp => ?_⟩
    · refine ⟨t, t, ns.map V.int, ns.map V.int, rfl, .inr ⟨hT, hT, key t H (Evl.Ex.refl H) ?_ (fun v H2 => rAll K [v] H2 Q) fun Dl H2 _ e2 h2 => fin Dl H2 e2 h2⟩⟩
      have n0 : ns = [] := by
        have hw1 := hw.1
        rw [i0, List.length_map] at hw1
        cases ns with
        | nil => rfl
        | cons x r =>
          rw [List.length_cons] at hw1
          omega
      rw [n0] at hT ⊢
      exact hT
    · have hp2 : (upd H p (.tup (cutV (ns.map V.int) (some 1) none))) p = some (.tup ((ns.drop 1).map V.int)) := by rw [upd_same, e1]
      exact ⟨t, p, ns.map V.int, (ns.drop 1).map V.int, rfl, .inr ⟨Evl.ex_t (Evl.Ex.new hp) hT, Evl.st_of hp2, key p _ (Evl.Ex.new hp) (Evl.st_of hp2) (fun v H2 => rAll K [v] H2 Q) fun Dl H2 _ e2 h2 => fin Dl H2 ((Evl.Ex.new hp).trans e2) h2⟩⟩
/-! is_lot, of a tuple of ints -/
def isLot (ns : List Int) (t : Option Int) : Bool := (ns.all fun n => decide (0 ≤ n) && inThings n t) && asc ns
theorem sc_is_lot : FnScope ["value", "things", "thing"] ["value", "things"] (defScope s_is_lot) := ⟨rfl, rfl, rfl, by decide +kernel, rfl, by decide +kernel, by decide +kernel⟩
def spIsLot (K : PySem.W.Frag) : Sp := fun vs H Q _ => ∃ (a : Addr) (ns : List Int) (t : Option Int), vs = [.ref a, thV t] ∧ SqT K H a (ns.map V.int) ∧ ns.length ≤ 1000 ∧ ∀ H', Ex H H' → Q (.bl (isLot ns t)) H'
theorem ok_is_lot (D : Dfn K mg "is_lot" s_is_lot ["value", "things"]) (z : Z mg) (O_is_thing : Ok P w K mg base 2 "is_thing" ["value", "things"] spIsThing) (O_is_ascending : Ok P w K mg base 1 "is_ascending" ["values"] (spIsAsc K)) : Ok P w K mg base 3 "is_lot" ["value", "things"] (spIsLot K) := D.ok fun f fd F => by
  refine F.ok sc_is_lot (fun vs H Q E h => ?_) (fun cdv A outer s H vs Q E hr h => ?_)
  · obtain ⟨a, ns, t, rfl, _⟩ := h
    rfl
  · obtain ⟨a, ns, t, rfl, hT, hl, q⟩ := h
    refine ⟨_, (pss_cons (ps_if (pt_cmpR op_isNotTy (pe_callTy call_type1 (by rfl) z.type (by decide +kernel) (pa_cons (pv 0) pa_nil)) (pe_tyn (n := "tuple") (by rfl) z.tuple (by decide +kernel)) (nomark _)) (pss_one (ps_ret pe_bl)) pss_nil)
      (pss_one (ps_ret (pe_and (pe_callB (cr_all rfl) (by rfl) z.all (by decide +kernel) (pa_cons (pe_lc (own := [("thing", 2)]) (g := gName 2) rfl sc_is_lot.nd (pi_tup (pv 0)) (blkOk_by (N := ["value", "things", "thing"]) (own := [("thing", 2)]) (sc := defScope s_is_lot) (by decide +kernel)) (fun _ _ _ _ _ => pg_name (i := 2) sc_is_lot.nd rfl (Or.inl rfl)) (fun _ _ _ _ _ => pts_nil) (fun _ _ _ _ _ => (pe_o O_is_thing hr (pa_cons (pv 2) (pa_cons (pv 1) pa_nil))))) pa_nil)) (pe_one (pe_o O_is_ascending (hr.mono (by decide)) (pa_cons (pv 0) pa_nil))))))), ?_⟩
    refine ⟨_, rfl, _, _, rfl, .tup hT, _, _, rfl, rfl, _, rfl, ?_⟩
    refine ⟨_, rfl, a, rfl, ⟨_, hT⟩, fun Dl hD => ?_⟩
    refine lc_tup (K := K) (xs := ns.map V.int) (fun i H' => Ex H H' ∧ H' Dl = some (.lst (((ns.map fun n => decide (0 ≤ n) && inThings n t).take i).map V.bl))) ⟨Evl.Ex.new hD, by rw [upd_same]; rfl⟩ (fun i H' _ p => Evl.ex_t p.1 hT) ?_ ?_
    · rintro i x H1 hi ⟨e1, h1⟩
      obtain ⟨n, hn, rfl⟩ : ∃ n, ns[i]? = some n ∧ x = V.int n := by
        rw [List.getElem?_map] at hi
        cases e : ns[i]? with
        | none => rw [e] at hi; cases hi
        | some n => rw [e] at hi; exact ⟨n, rfl, (Option.some.inj hi).symm⟩
      refine ⟨rfl, ?_⟩
      refine ⟨_, rfl, _, rfl, n, t, rfl, _, h1, szl ?_, Evl.Ex.mut e1 hD, ?_⟩
      · rw [List.length_map, List.length_take, List.length_map]
        omega
      · rw [upd_same, take_snoc (x := decide (0 ≤ n) && inThings n t) (by rw [List.getElem?_map, hn]; rfl), List.map_append]
        rfl
    · rintro H1 ⟨e1, h1⟩
      have eL : (ns.map fun n => decide (0 ≤ n) && inThings n t).take (ns.map V.int).length = ns.map fun n => decide (0 ≤ n) && inThings n t := List.take_of_length_le (by simp)
      rw [eL] at h1
      refine ⟨Dl, _, rfl, Evl.sq_of h1, _, rfl, ?_⟩
      rw [List.all_map]
      have ea : (ns.all (id ∘ fun n => decide (0 ≤ n) && inThings n t)) = ns.all fun n => decide (0 ≤ n) && inThings n t := rfl
      rw [ea]
      cases hb : ns.all fun n => decide (0 ≤ n) && inThings n t with
      | false =>
        have ef : isLot ns t = false := by unfold isLot; rw [hb]; rfl
        rw [ef] at q
        exact q H1 e1
      | true =>
        have ef : isLot ns t = asc ns := by unfold isLot; rw [hb]; rfl
        rw [ef] at q
        exact ⟨_, rfl, a, ns, rfl, Evl.ex_t e1 hT, hl, fun H2 e2 => q H2 (e1.trans e2)⟩
end
end TW
set_option Elab.async false
set_option linter.all false
set_option maxRecDepth 100000
set_option maxHeartbeats 4000000
namespace TW
open PySem PySem.Spec PyProof.Rows L2
section
variable {P : Program} {w : World} {K : PySem.W.Frag} {mg : Str → Option Value} {base : Heap}
/-! _law_draws_of -/
def wl (a b c : Int) : HO := .lst [.int a, .int b, .int c]
theorem sc_law_draws_of : FnScope ["cell"] ["cell"] (defScope s__law_draws_of) := ⟨rfl, rfl, rfl, by decide +kernel, rfl, by decide +kernel, by decide +kernel⟩
def spDraws : Sp := fun vs H Q _ => ∃ c : Int, vs = [.int c] ∧ ∀ p, H p = none → ∀ a b : Int, 0 ≤ a → 0 ≤ b → b < 2 ^ 81 → Q (.ref p) (upd H p (wl a 0 b))
theorem ok_draws (D : Dfn K mg "_law_draws_of" s__law_draws_of ["cell"]) (z : Z mg) : Ok P w K mg base 1 "_law_draws_of" ["cell"] spDraws := D.ok fun f fd F => by
  refine F.ok sc_law_draws_of (fun vs H Q E h => ?_) (fun cdv A outer s H vs Q E hr h => ?_)
  · obtain ⟨c, rfl, _⟩ := h
    rfl
  · obtain ⟨c, rfl, q⟩ := h
    refine ⟨_, (pss_cons (ps_if (pt_cmpR op_ge (pv 0) (pe_op op_pow pe_int pe_int) (nomark _)) (pss_one (ps_ret (pe_lst (pa_cons (pe_op op_sub (pv 0) (pe_op op_pow pe_int pe_int)) (pa_cons pe_int (pa_cons (pe_op op_mod (pe_callTy call_int1 (by rfl) z.int (by decide +kernel) (pa_cons (pv 0) pa_nil)) pe_int) pa_nil)))))) pss_nil)
      (pss_one (ps_ret (pe_lst (pa_cons pe_int (pa_cons pe_int (pa_cons (pe_op op_mod (pe_callTy call_int1 (by rfl) z.int (by decide +kernel) (pa_cons (pv 0) pa_nil)) (pe_op op_add (pe_op op_pow pe_int pe_int) pe_int)) pa_nil))))))), ?_⟩
    have p18 : CPow 10 18 := ⟨by decide, by decide, by decide⟩
    have p24 : CPow 10 24 := ⟨by decide, by decide, by decide⟩
    refine ⟨_, rfl, _, _, rfl, rfl, p18, _, _, rfl, rfl, _, rfl, ?_⟩
    refine ite2 (fun hc => ?_) (fun hc => ?_)
    · have hc' : (10 : Int) ^ (18 : Int).toNat ≤ c := of_decide_eq_true hc
      refine ⟨_, rfl, _, _, rfl, rfl, p18, _, _, rfl, rfl, _, rfl, .inl ⟨_, rfl, _, _, rfl, rfl, (show (0 : Int) < 1000003 by decide), sz (by show 3 ≤ 100000; decide), fun p hp => ?_⟩⟩
      exact q p hp _ _ (by omega) (Int.emod_nonneg _ (by decide)) (Int.lt_trans (Int.emod_lt_of_pos _ (by decide)) (by decide))
    · refine ⟨_, rfl, .inl ⟨_, rfl, _, _, rfl, rfl, p24, _, _, rfl, rfl, _, _, rfl, rfl, (show (0 : Int) < 10 ^ Int.toNat 24 + 7 by decide), sz (by show 3 ≤ 100000; decide), fun p hp => ?_⟩⟩
      exact q p hp 0 _ (by decide) (Int.emod_nonneg _ (by decide)) (Int.lt_trans (Int.emod_lt_of_pos _ (by decide)) (by decide))
/-! _law_dip -/
theorem sc_law_dip : FnScope ["well", "upto", "drawn", "count", "churn"] ["well", "upto"] (defScope s__law_dip) := ⟨rfl, rfl, rfl, by decide +kernel, rfl, by decide +kernel, by decide +kernel⟩
def spDip : Sp := fun vs H Q _ => ∃ (p : Addr) (n a b c : Int), vs = [.ref p, .int n] ∧ H p = some (wl a b c) ∧ 0 < n ∧ n < 2 ^ 200 ∧ 0 ≤ a ∧ 0 ≤ b ∧ b < 2 ^ 60 ∧ 0 ≤ c ∧ c < 2 ^ 81 ∧
  ∀ r a' b' : Int, 0 ≤ r → r < n → 0 ≤ a' → b ≤ b' → b' ≤ b + 1 → Q (.int r) (upd H p (wl a' b' c))
theorem nab {x : Int} {k : Nat} (h0 : 0 ≤ x) (h : x < 2 ^ k) : x.natAbs < 2 ^ k := by
  have e : ((2 ^ k : Nat) : Int) = (2 : Int) ^ k := by simp
  omega
theorem ok_dip (D : Dfn K mg "_law_dip" s__law_dip ["well", "upto"]) (z : Z mg) : Ok P w K mg base 1 "_law_dip" ["well", "upto"] spDip := D.ok fun f fd F => by
  refine F.ok sc_law_dip (fun vs H Q E h => ?_) (fun cdv A outer s H vs Q E hr h => ?_)
  · obtain ⟨p, n, a, b, c, rfl, _⟩ := h
    rfl
  · obtain ⟨p, n, a, b, c, rfl, hp, n0, n1, a0, b0, b1, c0, c1, q⟩ := h
    refine ⟨_, (pss_cons (ps_if (pt_cmpR op_gt (pe_ix ix_list (pv 0) pe_int (fun _ _ => rfl)) pe_int (nomark _)) (pss_cons (ps_set (i := 2) sc_law_dip.nd rfl (Or.inl rfl) (pe_op op_mod (pe_callTy call_int1 (by rfl) z.int (by decide +kernel) (pa_cons (pe_ix ix_list (pv 0) pe_int (fun _ _ => rfl)) pa_nil)) (pv 1)))
      (pss_cons (ps_asg (pe_op op_fdivW (pe_ix ix_list (pv 0) pe_int (fun _ _ => rfl)) (pv 1)) (pg_sub (pv 0) pe_int set_list))
      (pss_one (ps_ret (pv 2))))) pss_nil)
      (pss_cons (ps_asg (pe_op op_add (pe_ix ix_list (pv 0) pe_int (fun _ _ => rfl)) pe_int) (pg_sub (pv 0) pe_int set_list))
      (pss_cons (ps_set (i := 3) sc_law_dip.nd rfl (Or.inl rfl) (pe_ix ix_list (pv 0) pe_int (fun _ _ => rfl)))
      (pss_cons (ps_set (i := 4) sc_law_dip.nd rfl (Or.inl rfl) (pe_op op_add (pe_op op_mul (pe_op op_add (pe_ix ix_list (pv 0) pe_int (fun _ _ => rfl)) pe_int) (pe_op op_add pe_int (pe_op op_mul pe_int (pv 3)))) (pe_op op_mul (pe_op op_mul pe_int (pv 3)) (pv 3))))
      (pss_cons (ps_set (i := 4) sc_law_dip.nd rfl (Or.inl rfl) (pe_op op_mul (pe_op op_mod (pe_callTy call_int1 (by rfl) z.int (by decide +kernel) (pa_cons (pe_op op_mulW (pv 4) (pv 4)) pa_nil)) pe_int) pe_int))
      (pss_one (ps_ret (pe_op op_mod (pe_callTy call_int1 (by rfl) z.int (by decide +kernel) (pa_cons (pe_op op_fdiv (pe_op op_mod (pe_callTy call_int1 (by rfl) z.int (by decide +kernel) (pa_cons (pv 4) pa_nil)) pe_int) pe_int) pa_nil)) (pv 1))))))))), ?_⟩
    have n9 : CDivW a n := wide_div (b := 200) n0 (nab (Int.le_of_lt n0) n1) (by decide) (by decide)
    refine ⟨_, rfl, p, _, _, _, rfl, rfl, Evl.sq_of hp, rfl, _, _, rfl, rfl, _, rfl, ?_⟩
    refine ite2 (fun hc => ?_) (fun hc => ?_)
    · refine ⟨_, rfl, p, _, _, _, rfl, rfl, Evl.sq_of hp, rfl, .inl ⟨_, rfl, _, rfl, _, _, rfl, rfl, n0, ?_⟩⟩
      refine ⟨_, rfl, p, _, _, _, rfl, rfl, Evl.sq_of hp, rfl, _, rfl, _, _, rfl, rfl, n9, _, rfl, p, _, _, 0, rfl, rfl, hp, rfl, _, rfl, ?_⟩
      exact q _ _ b (Int.emod_nonneg _ (by omega)) (Int.emod_lt_of_pos _ n0) (Int.ediv_nonneg a0 (Int.le_of_lt n0)) (Int.le_refl _) (by omega)
    · refine ⟨_, rfl, p, _, _, _, rfl, rfl, Evl.sq_of hp, rfl, _, _, rfl, rfl, _, rfl, p, _, _, 1, rfl, rfl, hp, rfl, ?_⟩
      refine ⟨_, rfl, p, _, _, _, rfl, rfl, Evl.sq_of upd_same, rfl, ?_⟩
      refine ⟨_, rfl, p, _, _, _, rfl, rfl, Evl.sq_of upd_same, rfl, _, _, rfl, rfl, _, rfl, _, _, rfl, rfl, ?_⟩
      have m1 : CMul 2 (b + 1) := .inl ⟨by decide, by decide⟩
      have m2 : CMul (c + 1) (48611 + 2 * (b + 1)) := .inr ⟨by omega, by omega⟩
      have m3 : CMul 1299709 (b + 1) := .inl ⟨by decide, by decide⟩
      have m4 : CMul (1299709 * (b + 1)) (b + 1) := .inr ⟨by omega, by omega⟩
      have q1 : ((c + 1) * (48611 + 2 * (b + 1))).natAbs < 2 ^ (82 + 64) := wide_lt (nab (by omega) (by omega)) (nab (by omega) (by omega))
      have q2 : (1299709 * (b + 1) * (b + 1)).natAbs < 2 ^ (100 + 64) := wide_lt (nab (by omega) (by omega)) (nab (by omega) (by omega))
      have q3 : ((c + 1) * (48611 + 2 * (b + 1)) + 1299709 * (b + 1) * (b + 1)).natAbs < 2 ^ 200 := by
        have e1 : (2 : Nat) ^ (82 + 64) = 89202980794122492566142873090593446023921664 := by decide
        have e2 : (2 : Nat) ^ (100 + 64) = 23384026197294446691258957323460528314494920687616 := by decide
        have e3 : (2 : Nat) ^ 200 = 1606938044258990275541962092341162602522202993782792835301376 := by decide
        rw [e1] at q1
        rw [e2] at q2
        rw [e3]
        omega
      have m5 : CMulW ((c + 1) * (48611 + 2 * (b + 1)) + 1299709 * (b + 1) * (b + 1)) ((c + 1) * (48611 + 2 * (b + 1)) + 1299709 * (b + 1) * (b + 1)) := wide_mul q3 q3 (by decide) (by decide) (by decide)
      refine ⟨m1, _, _, rfl, rfl, _, _, rfl, rfl, m2, _, rfl, _, _, rfl, rfl, m3, _, rfl, _, _, rfl, rfl, m4, _, _, rfl, rfl, ?_⟩
      refine ⟨_, rfl, _, rfl, _, _, rfl, rfl, m5, .inl ⟨_, rfl, _, _, rfl, rfl, (show (0 : Int) < 2305843009213693951 by decide), _, _, rfl, rfl, .inr ⟨by decide, by decide⟩, ?_⟩⟩
      refine ⟨_, rfl, .inl ⟨_, rfl, _, _, rfl, rfl, (show (0 : Int) < 1000000000000000003 by decide), _, _, rfl, rfl, ⟨by decide, by decide⟩, .inl ⟨_, rfl, _, rfl, _, _, rfl, rfl, n0, ?_⟩⟩⟩

      exact q _ a (b + 1) (Int.emod_nonneg _ (by omega)) (Int.emod_lt_of_pos _ n0) a0 (by omega) (Int.le_refl _)
end
end TW
set_option Elab.async false
set_option linter.all false
set_option maxRecDepth 100000
set_option maxHeartbeats 4000000
namespace TW
open PySem PySem.Spec PyProof.Rows L2
section
variable {P : Program} {w : World} {K : PySem.W.Frag} {mg : Str → Option Value} {base : Heap}
/-! _law_same, of equal data -/
def isFlat : V → Bool
  | .non => true
  | .bl _ => true
  | .int _ => true
  | .str _ => true
  | _ => false
def Rep : Nat → Hp → V → V → Prop
  | 0, _, x, y => x = y ∧ isFlat x = true
  | n + 1, H, x, y => (x = y ∧ isFlat x = true) ∨ ∃ (a b : Addr) (xs ys : List V), x = .ref a ∧ y = .ref b ∧ ((H a = some (.lst xs) ∧ H b = some (.lst ys)) ∨ (H a = some (.tup xs) ∧ H b = some (.tup ys))) ∧
      xs.length = ys.length ∧ ys.length ≤ 10000 ∧ ∀ (i : Nat) x y, xs[i]? = some x → ys[i]? = some y → Rep n H x y
theorem Rep.mono : ∀ {n : Nat} {H H' : Hp} {x y : V}, Ex H H' → Rep n H x y → Rep n H' x y
  | 0, _, _, _, _, _, h => h
  | n + 1, H, H', x, y, e, h => by
    rcases h with h | ⟨a, b, xs, ys, h1, h2, h3, h4, h5, h6⟩
    · exact .inl h
    · refine .inr ⟨a, b, xs, ys, h1, h2, ?_, h4, h5, fun i x y hx hy => Rep.mono e (h6 i x y hx hy)⟩
      rcases h3 with ⟨p, q⟩ | ⟨p, q⟩
      · exact .inl ⟨e _ _ p, e _ _ q⟩
      · exact .inr ⟨e _ _ p, e _ _ q⟩
theorem Rep.flat {n : Nat} {H : Hp} {x : V} (h : isFlat x = true) : Rep n H x x := by
  cases n with
  | zero => exact ⟨rfl, h⟩
  | succ n => exact .inl ⟨rfl, h⟩
theorem sc_law_same : FnScope ["given", "due", "k"] ["given", "due"] (defScope s__law_same) := ⟨rfl, rfl, rfl, by decide +kernel, rfl, by decide +kernel, by decide +kernel⟩
def spSame (n : Nat) : Sp := fun vs H Q _ => ∃ x y : V, vs = [x, y] ∧ Rep n H x y ∧ ∀ H', Ex H H' → Q (.bl true) H'
theorem kit_ll : PySem.W.kitOne K (.type "list") (.type "list") = some true := kit_ty (by decide +kernel)
theorem kit_lt : PySem.W.kitOne K (.type "list") (.type "tuple") = some false := kit_ty (by decide +kernel)
theorem kit_tl : PySem.W.kitOne K (.type "tuple") (.type "list") = some false := kit_ty (by decide +kernel)
theorem kit_tt : PySem.W.kitOne K (.type "tuple") (.type "tuple") = some true := kit_ty (by decide +kernel)
theorem kit_any2 {a : String} {b1 b2 : Bool} (h1 : PySem.W.kitOne K (.type a) (.type "list") = some b1) (h2 : PySem.W.kitOne K (.type a) (.type "tuple") = some b2) : PySem.W.kitAny K (.type a) [.type "list", .type "tuple"] = some (b1 || b2) := by
  unfold PySem.W.kitAny
  rw [h1]
  cases b1 with
  | true => rfl
  | false =>
    unfold PySem.W.kitAny
    rw [h2]
    cases b2 <;> rfl
theorem ok_same_body {f : Addr} {fd : FuncData} (F : Fun K "_law_same" "_law_same" s__law_same f fd) (z : Z mg) (n : Nat) (O_law_same : Ok P w K mg base n "_law_same" ["given", "due"] (match n with | 0 => fun _ _ _ _ => False | m + 1 => spSame m)) : FnOk P w K mg base CX0 (n + 1) f fd ["given", "due"] (spSame n) := by
  refine F.ok sc_law_same (fun vs H Q E h => ?_) (fun cdv A outer s H vs Q E hr h => ?_)
  · obtain ⟨x, y, rfl, _⟩ := h
    rfl
  · obtain ⟨x, y, rfl, hR, q⟩ := h
    refine ⟨_, (pss_cons (ps_if (pt_val (pe_callB call_isiT (by rfl) z.isinstance (by decide +kernel) (pa_cons (pv 1) (pa_cons (pe_tup (pa_cons (pe_tyn (n := "list") (by rfl) z.list (by decide +kernel)) (pa_cons (pe_tyn (n := "tuple") (by rfl) z.tuple (by decide +kernel)) pa_nil))) pa_nil))))
      (pss_cons (ps_if (PW.pt (pw_or (pt_cmpR op_ne (pe_callB call_isi (by rfl) z.isinstance (by decide +kernel) (pa_cons (pv 0) (pa_cons (pe_tyn (n := "list") (by rfl) z.list (by decide +kernel)) pa_nil))) (pe_callB call_isi (by rfl) z.isinstance (by decide +kernel) (pa_cons (pv 1) (pa_cons (pe_tyn (n := "list") (by rfl) z.list (by decide +kernel)) pa_nil))) (nomark _))
          (pw_or1 (pt_cmpR op_ne (pe_callB call_isi (by rfl) z.isinstance (by decide +kernel) (pa_cons (pv 0) (pa_cons (pe_tyn (n := "tuple") (by rfl) z.tuple (by decide +kernel)) pa_nil))) (pe_callB call_isi (by rfl) z.isinstance (by decide +kernel) (pa_cons (pv 1) (pa_cons (pe_tyn (n := "tuple") (by rfl) z.tuple (by decide +kernel)) pa_nil))) (nomark _))))) (pss_one (ps_ret pe_bl)) pss_nil)
      (pss_cons (ps_if (pt_cmpR op_ne (pe_callB call_len_seq (by rfl) z.len PySem.boot_len (pa_cons (pv 0) pa_nil)) (pe_callB call_len_seq (by rfl) z.len PySem.boot_len (pa_cons (pv 1) pa_nil)) (nomark _)) (pss_one (ps_ret pe_bl)) pss_nil)
      (pss_one (ps_ret (pe_callB (cr_all rfl) (by rfl) z.all (by decide +kernel) (pa_cons (pe_lc (own := [("k", 2)]) (g := gName 2) rfl sc_law_same.nd (pi_range1 (by rfl) z.range (pa_cons (pe_callB call_len_seq (by rfl) z.len PySem.boot_len (pa_cons (pv 1) pa_nil)) pa_nil)) (blkOk_by (N := ["given", "due", "k"]) (own := [("k", 2)]) (sc := defScope s__law_same) (by decide +kernel)) (fun _ _ _ _ _ => pg_name (i := 2) sc_law_same.nd rfl (Or.inl rfl)) (fun _ _ _ _ _ => pts_nil) (fun _ _ _ _ _ => (pe_o O_law_same hr (pa_cons (pe_ix (ix_any (K := K)) (pv 0) (pv 2) (fun _ _ => rfl)) (pa_cons (pe_ix (ix_any (K := K)) (pv 1) (pv 2) (fun _ _ => rfl)) pa_nil))))) pa_nil)))))) pss_nil)
      (pss_cons (ps_if (PW.pt (pw_or (pt_val (pe_callB call_isiT (by rfl) z.isinstance (by decide +kernel) (pa_cons (pv 0) (pa_cons (pe_tup (pa_cons (pe_tyn (n := "list") (by rfl) z.list (by decide +kernel)) (pa_cons (pe_tyn (n := "tuple") (by rfl) z.tuple (by decide +kernel)) pa_nil))) pa_nil))))
          (pw_or1 (pt_cmpR op_ne (pe_callB call_isi (by rfl) z.isinstance (by decide +kernel) (pa_cons (pv 0) (pa_cons (pe_tyn (n := "bool") (by rfl) z.bool (by decide +kernel)) pa_nil))) (pe_callB call_isi (by rfl) z.isinstance (by decide +kernel) (pa_cons (pv 1) (pa_cons (pe_tyn (n := "bool") (by rfl) z.bool (by decide +kernel)) pa_nil))) (nomark _))))) (pss_one (ps_ret pe_bl)) pss_nil)
      (pss_cons (ps_if (pt_cmpR op_isN (pv 1) pe_non (nomark _)) (pss_one (ps_ret (pe_cmpR op_isN (pv 0) pe_non (nomark _)))) pss_nil)
      (pss_one (ps_ret (pe_cmpR op_eq (pv 0) (pv 1) (nomark _))))))), ?_⟩
    have hcase : (x = y ∧ isFlat x = true) ∨ ∃ m, n = m + 1 ∧ ∃ (a b : Addr) (xs ys : List V), x = .ref a ∧ y = .ref b ∧ ((H a = some (.lst xs) ∧ H b = some (.lst ys)) ∨ (H a = some (.tup xs) ∧ H b = some (.tup ys))) ∧
      xs.length = ys.length ∧ ys.length ≤ 10000 ∧ ∀ (i : Nat) x y, xs[i]? = some x → ys[i]? = some y → Rep m H x y := by
      cases n with
      | zero => exact .inl hR
      | succ m =>
        rcases hR with h | h
        · exact .inl h
        · exact .inr ⟨m, rfl, h⟩
    have s2 : [V.ty "list", V.ty "tuple"].length ≤ sizeLine := sz (by show 2 ≤ 100000; decide)
    have pr : Paired ClsV [V.ty "list", V.ty "tuple"] [.type "list", .type "tuple"] := .cons (.ty _) (.cons (.ty _) .nil)
    rcases hcase with ⟨rfl, hf⟩ | ⟨m, rfl, a, b, xs, ys, rfl, rfl, h3, h4, h5, h6⟩
    · obtain ⟨T, kb, ty, kl, kt, hb⟩ : ∃ T kb, (∀ H', TyX K H' x (.type T)) ∧ PySem.W.kitOne K (.type T) (.type "list") = some false ∧ PySem.W.kitOne K (.type T) (.type "tuple") = some false ∧ PySem.W.kitOne K (.type T) (.type "bool") = some kb := by
        cases x with
        | non => exact ⟨"NoneType", false, fun _ => .base .non, kit_ty (by decide +kernel), kit_ty (by decide +kernel), kit_ty (by decide +kernel)⟩
        | bl v => exact ⟨"bool", true, fun _ => .base (.bl v), kit_ty (by decide +kernel), kit_ty (by decide +kernel), kit_ty (by decide +kernel)⟩
        | int v => exact ⟨"int", false, fun _ => .base (.int v), kit_ty (by decide +kernel), kit_ty (by decide +kernel), kit_ty (by decide +kernel)⟩
        | str v => exact ⟨"str", false, fun _ => .base (.str v), kit_ty (by decide +kernel), kit_ty (by decide +kernel), kit_ty (by decide +kernel)⟩
        | byt v => exact absurd (show false = true from hf) Bool.false_ne_true
        | flt v => exact absurd (show false = true from hf) Bool.false_ne_true
        | ref v => exact absurd (show false = true from hf) Bool.false_ne_true
        | ty v => exact absurd (show false = true from hf) Bool.false_ne_true
      refine ⟨_, rfl, s2, fun tp htp => ⟨x, tp, _, _, _, false, rfl, upd_same, pr, ty _, kit_any2 kl kt, _, rfl, ?_⟩⟩
      refine ⟨_, rfl, s2, fun tp2 htp2 => ⟨x, tp2, _, _, _, false, rfl, upd_same, pr, ty _, kit_any2 kl kt, _, rfl, ?_⟩⟩
      have ex2 : Ex H (upd (upd H tp (.tup [V.ty "list", V.ty "tuple"])) tp2 (.tup [V.ty "list", V.ty "tuple"])) := (Evl.Ex.new htp).trans (Evl.Ex.new htp2)
      refine ⟨_, rfl, x, _, _, _, kb, rfl, .ty _, ty _, hb, _, rfl, x, _, _, _, kb, rfl, .ty _, ty _, hb, rfl, _, rfl, ?_⟩
      rw [decide_eq_true (rfl : V.bl kb = V.bl kb)]
      refine ⟨_, rfl, rfl, _, rfl, ?_⟩
      refine ite2 (fun hn => ?_) (fun hn => ?_)
      · refine ⟨_, rfl, rfl, ?_⟩
        rw [hn]
        exact q _ ex2
      · refine ⟨_, rfl, _, rfl, ?_, ?_⟩
        · cases x with
          | non => rfl
          | bl v => rfl
          | int v => rfl
          | str v => rfl
          | byt v => exact absurd (show false = true from hf) Bool.false_ne_true
          | flt v => exact absurd (show false = true from hf) Bool.false_ne_true
          | ref v => exact absurd (show false = true from hf) Bool.false_ne_true
          | ty v => exact absurd (show false = true from hf) Bool.false_ne_true
        · rw [decide_eq_true (rfl : x = x)]
          exact q _ ex2
    · obtain ⟨T, kb, tb, tya, tyb, kl, kt, hlen, hia, hib⟩ : ∃ T kb tb, (∀ H', Ex H H' → TyX K H' (.ref a) (.type T)) ∧ (∀ H', Ex H H' → TyX K H' (.ref b) (.type T)) ∧ PySem.W.kitOne K (.type T) (.type "list") = some kb ∧ PySem.W.kitOne K (.type T) (.type "tuple") = some tb ∧ (kb || tb) = true ∧
          (∀ H', Ex H H' → SqL K H' a xs ∨ SqT K H' a xs) ∧ (∀ H', Ex H H' → SqL K H' b ys ∨ SqT K H' b ys) := by
        rcases h3 with ⟨ha, hb⟩ | ⟨ha, hb⟩
        · exact ⟨"list", true, false, fun H' e => .base (.lst (e _ _ ha)), fun H' e => .base (.lst (e _ _ hb)), kit_ll, kit_lt, rfl, fun H' e => .inl (Evl.sq_of (e _ _ ha)), fun H' e => .inl (Evl.sq_of (e _ _ hb))⟩
        · exact ⟨"tuple", false, true, fun H' e => .base (.tup (e _ _ ha)), fun H' e => .base (.tup (e _ _ hb)), kit_tl, kit_tt, rfl, fun H' e => .inr (Evl.st_of (e _ _ ha)), fun H' e => .inr (Evl.st_of (e _ _ hb))⟩
      refine ⟨_, rfl, s2, fun tp htp => ⟨_, tp, _, _, _, _, rfl, upd_same, pr, tyb _ (Evl.Ex.new htp), kit_any2 kl kt, _, rfl, ?_⟩⟩
      rw [hlen]
      have e1 : Ex H (upd H tp (.tup [V.ty "list", V.ty "tuple"])) := Evl.Ex.new htp
      refine ⟨_, rfl, _, _, _, _, kb, rfl, .ty _, tya _ e1, kl, _, rfl, _, _, _, _, kb, rfl, .ty _, tyb _ e1, kl, rfl, _, rfl, ?_⟩
      rw [decide_eq_true (rfl : V.bl kb = V.bl kb)]
      refine ⟨_, rfl, _, _, _, _, tb, rfl, .ty _, tya _ e1, kt, _, rfl, _, _, _, _, tb, rfl, .ty _, tyb _ e1, kt, rfl, _, rfl, ?_⟩
      rw [decide_eq_true (rfl : V.bl tb = V.bl tb)]
      refine ⟨_, rfl, a, xs, rfl, hia _ e1, _, rfl, b, ys, rfl, hib _ e1, rfl, _, rfl, ?_⟩
      rw [h4, decide_eq_true (rfl : V.int ((ys.length : Nat) : Int) = V.int ((ys.length : Nat) : Int))]
      refine ⟨_, rfl, b, ys, rfl, hib _ e1, ((ys.length : Nat) : Int), rfl, by omega, by omega, fun Dl hD => ?_⟩
      have en : ((ys.length : Nat) : Int).toNat = ys.length := by omega
      rw [en]
      refine lc_range (lo := 0) (n := ys.length) (fun i H' => Ex H H' ∧ H' Dl = some (.lst ((List.replicate i true).map V.bl))) ⟨e1.trans (Evl.Ex.new hD), by rw [upd_same]; rfl⟩ ?_ ?_
      · rintro i H2 hi ⟨e2, hL⟩
        have nD : H Dl = none := Evl.fresh_back e1 hD
        have i1 : i < xs.length := by omega
        have gx : xs[i]? = some xs[i] := List.getElem?_eq_getElem i1
        have gy : ys[i]? = some ys[i] := List.getElem?_eq_getElem hi
        have ez : (0 : Int) + (i : Int) = (i : Int) := Int.zero_add _
        rw [ez]
        have tail : ∀ H3, Ex H2 H3 → ∃ acc, H3 Dl = some (.lst acc) ∧ acc.length < sizeLine ∧ (Ex H (upd H3 Dl (.lst (acc ++ [V.bl true]))) ∧ (upd H3 Dl (.lst (acc ++ [V.bl true]))) Dl = some (.lst ((List.replicate (i + 1) true).map V.bl))) := fun H3 e3 => by
          refine ⟨_, e3 _ _ hL, szl ?_, Evl.Ex.mut (e2.trans e3) nD, ?_⟩
          · rw [List.length_map, List.length_replicate]
            omega
          · rw [upd_same, List.replicate_succ', List.map_append]
            rfl
        refine ⟨rfl, _, rfl, _, rfl, ?_⟩
        have step2 : ∀ x', x' = xs[i] → ∀ y', y' = ys[i] → spSame m [x', y'] H2 (fun y H4 => ∃ acc, H4 Dl = some (.lst acc) ∧ acc.length < sizeLine ∧ (Ex H (upd H4 Dl (.lst (acc ++ [y]))) ∧ (upd H4 Dl (.lst (acc ++ [y]))) Dl = some (.lst ((List.replicate (i + 1) true).map V.bl)))) E0 := fun x' ex y' ey =>
          ⟨x', y', rfl, Rep.mono e2 (ex ▸ ey ▸ h6 i _ _ gx gy), fun H3 e3 => tail H3 e3⟩
        have ixy : ∀ (R : V → Hp → Prop), R ys[i] H2 → rIxA K (.ref b) (.int (i : Int)) H2 R := fun R hR2 => by
          rcases hib H2 e2 with hb | hb
          · exact .inl ⟨b, ys, _, _, rfl, rfl, hb, atI_nat gy, hR2⟩
          · exact .inr ⟨b, ys, _, _, rfl, rfl, hb, atI_nat gy, hR2⟩
        have ixx : ∀ (R : V → Hp → Prop), R xs[i] H2 → rIxA K (.ref a) (.int (i : Int)) H2 R := fun R hR2 => by
          rcases hia H2 e2 with hb | hb
          · exact .inl ⟨a, xs, _, _, rfl, rfl, hb, atI_nat gx, hR2⟩
          · exact .inr ⟨a, xs, _, _, rfl, rfl, hb, atI_nat gx, hR2⟩
        refine ixx _ ?_
        refine ⟨_, rfl, _, rfl, ?_⟩
        refine ixy _ ?_
        exact step2 _ rfl _ rfl
      · rintro H2 ⟨e2, hL⟩
        refine ⟨Dl, _, rfl, Evl.sq_of hL, ?_⟩
        have ea : (List.replicate ys.length true).all id = true := by simp
        rw [ea]
        exact q H2 e2
theorem FnOk.never {CX : CXT} {f : Addr} {fd : FuncData} {ps : List Str} : FnOk P w K mg base CX 0 f fd ps (fun _ _ _ _ => False) := ⟨fun _ _ _ _ h => h.elim, fun _ _ _ _ _ _ _ _ _ _ _ _ _ h => h.elim⟩
theorem ok_same (D : Dfn K mg "_law_same" s__law_same ["given", "due"]) (z : Z mg) : ∀ n, Ok P w K mg base (n + 1) "_law_same" ["given", "due"] (spSame n) := by
  obtain ⟨f, fd, F, g, b⟩ := D
  have body := fun n h => ok_same_body (P := P) (w := w) (base := base) F z n ⟨f, fd, h, g, F.kp, b⟩
  have all : ∀ n, FnOk P w K mg base CX0 (n + 1) f fd ["given", "due"] (spSame n) := by
    intro n
    induction n with
    | zero => exact body 0 FnOk.never
    | succ m ih => exact body (m + 1) ih
  exact fun n => ⟨f, fd, all n, g, F.kp, b⟩
end
end TW
set_option Elab.async false
set_option linter.all false
set_option maxRecDepth 100000
set_option maxHeartbeats 4000000
namespace TW
open PySem PySem.Spec PyProof.Rows L2
/-! ascending lists -/
def Up (ns : List Int) : Prop := ns.Pairwise (· < ·)
theorem asc_up : ∀ {ns : List Int}, asc ns = true → Up ns
  | [], _ => List.Pairwise.nil
  | [x], _ => List.pairwise_singleton _ _
  | x :: y :: r, h => by
    have h' : (decide (x < y) && asc (y :: r)) = true := h
    rw [Bool.and_eq_true] at h'
    have ih := asc_up h'.2
    have hxy : x < y := of_decide_eq_true h'.1
    refine List.pairwise_cons.mpr ⟨fun z hz => ?_, ih⟩
    rcases List.mem_cons.mp hz with e | e
    · omega
    · have := (List.pairwise_cons.mp ih).1 z e
      omega
theorem up_asc : ∀ {ns : List Int}, Up ns → asc ns = true
  | [], _ => rfl
  | [x], _ => rfl
  | x :: y :: r, h => by
    obtain ⟨h1, h2⟩ := List.pairwise_cons.mp h
    show (decide (x < y) && asc (y :: r)) = true
    rw [up_asc h2, decide_eq_true (h1 y List.mem_cons_self)]
    rfl
theorem up_nodup {ns : List Int} (h : Up ns) : ns.Nodup := h.imp fun {a b} (c : a < b) => by
  intro e
  omega
theorem up_ext : ∀ {xs ys : List Int}, Up xs → Up ys → (∀ z, z ∈ xs ↔ z ∈ ys) → xs = ys
  | [], [], _, _, _ => rfl
  | [], y :: r, _, _, h => absurd ((h y).mpr List.mem_cons_self) List.not_mem_nil
  | x :: r, [], _, _, h => absurd ((h x).mp List.mem_cons_self) List.not_mem_nil
  | x :: r, y :: s, hx, hy, h => by
    obtain ⟨a1, a2⟩ := List.pairwise_cons.mp hx
    obtain ⟨b1, b2⟩ := List.pairwise_cons.mp hy
    have e : x = y := by
      rcases List.mem_cons.mp ((h x).mp List.mem_cons_self) with q | q
      · exact q
      · rcases List.mem_cons.mp ((h y).mpr List.mem_cons_self) with p | p
        · exact p.symm
        · have c1 := a1 y p
          have c2 := b1 x q
          omega
    subst e
    rw [up_ext a2 b2 fun z => ⟨fun hz => ?_, fun hz => ?_⟩]
    · rcases List.mem_cons.mp ((h z).mp (List.mem_cons_of_mem _ hz)) with q | q
      · have := a1 z hz
        omega
      · exact q
    · rcases List.mem_cons.mp ((h z).mpr (List.mem_cons_of_mem _ hz)) with q | q
      · have := b1 z hz
        omega
      · exact q
theorem up_of_le {ns : List Int} (h : ns.Pairwise (· ≤ ·)) (d : ns.Nodup) : Up ns := by
  refine List.Pairwise.imp₂ (fun a b (x : a ≤ b) (y : a ≠ b) => ?_) h d
  show a < b
  omega
def lotOk (ns : List Int) : Prop := Up ns ∧ (∀ z ∈ ns, 0 ≤ z) ∧ ns.length ≤ 1000
theorem isLot_of {ns : List Int} (h : lotOk ns) : isLot ns none = true := by
  unfold isLot
  rw [up_asc h.1, Bool.and_true, List.all_eq_true]
  intro z hz
  rw [decide_eq_true (h.2.1 z hz)]
  rfl
theorem inV_int (x : Int) (ns : List Int) : inV (.int x) (ns.map V.int) = decide (x ∈ ns) := by
  unfold inV
  rw [List.any_map]
  rw [Bool.eq_iff_iff, List.any_eq_true, decide_eq_true_eq]
  constructor
  · rintro ⟨y, hy, e⟩
    have e' : (y == x) = true := e
    rw [← eq_of_beq e']
    exact hy
  · intro h
    exact ⟨x, h, (show (x == x) = true from beq_self_eq_true x)⟩
theorem flat_ints (ns : List Int) : (ns.map V.int).all flatV = true := by
  rw [List.all_map]
  exact List.all_eq_true.mpr fun _ _ => rfl
theorem map_get {ns : List Int} {i : Nat} {x : V} (hi : (ns.map V.int)[i]? = some x) : ∃ n, ns[i]? = some n ∧ x = V.int n := by
  rw [List.getElem?_map] at hi
  cases e : ns[i]? with
  | none => rw [e] at hi; cases hi
  | some n => rw [e] at hi; exact ⟨n, rfl, (Option.some.inj hi).symm⟩
/-- the things that two of three lots have -/
def IsMid (a b c m : List Int) : Prop := Up m ∧ ∀ x, x ∈ m ↔ (x ∈ a ∧ (x ∈ b ∨ x ∈ c)) ∨ (x ∈ b ∧ x ∈ c)
theorem mid_of {a b c r : List Int} (ua : Up a) (ub : Up b) (hp : r.Perm (a.filter (fun x => decide (x ∈ b) || decide (x ∈ c)) ++ b.filter (fun x => decide (x ∈ c) && !decide (x ∈ a)))) (hs : r.Pairwise (· ≤ ·)) : IsMid a b c r := by
  have nd : (a.filter (fun x => decide (x ∈ b) || decide (x ∈ c)) ++ b.filter (fun x => decide (x ∈ c) && !decide (x ∈ a))).Nodup := by
    refine List.nodup_append.mpr ⟨(up_nodup ua).filter _, (up_nodup ub).filter _, fun x hx y hy e => ?_⟩
    subst e
    have h1 := (List.mem_filter.mp hx).1
    have h2 := (List.mem_filter.mp hy).2
    rw [Bool.and_eq_true] at h2
    rw [decide_eq_true h1] at h2
    exact absurd h2.2 (by decide)
  refine ⟨up_of_le hs (hp.nodup_iff.mpr nd), fun x => ?_⟩
  rw [hp.mem_iff, List.mem_append, List.mem_filter, List.mem_filter, Bool.or_eq_true, Bool.and_eq_true]
  simp only [decide_eq_true_eq, Bool.not_eq_true', decide_eq_false_iff_not]
  by_cases x ∈ a <;> by_cases x ∈ b <;> by_cases x ∈ c <;> simp_all
theorem filt_yes {α : Type} {f : α → Bool} {l : List α} {i : Nat} {n : α} (hn : l[i]? = some n) (hf : f n = true) : (l.take (i + 1)).filter f = (l.take i).filter f ++ [n] := by
  rw [take_snoc hn, List.filter_append, List.filter_cons, if_pos hf]
  rfl
theorem filt_no {α : Type} {f : α → Bool} {l : List α} {i : Nat} {n : α} (hn : l[i]? = some n) (hf : f n = false) : (l.take (i + 1)).filter f = (l.take i).filter f := by
  rw [take_snoc hn, List.filter_append, List.filter_cons, if_neg (by rw [hf]; decide)]
  exact List.append_nil _
theorem filt_len {α : Type} (f : α → Bool) (l : List α) (i : Nat) : ((l.take i).filter f).length ≤ l.length :=
  Nat.le_trans (List.length_filter_le _ _) (by rw [List.length_take]; omega)
end TW
set_option Elab.async false
set_option linter.all false
set_option maxRecDepth 100000
set_option maxHeartbeats 4000000
namespace TW
open PySem PySem.Spec PyProof.Rows L2
/-! calls by keywords alone -/
def OkKw (P : Program) (w : World) (K : PySem.W.Frag) (mg : Str → Option Value) (base : Heap) (k : Nat) (x : Str) (ps ks : List Str) (g : List Value → List Value → List Value) (gV : List V → List V → List V) (sp : Sp) : Prop :=
  ∃ (f : Addr) (fd : FuncData), FnOk P w K mg base CX0 k f fd ps sp ∧ mg x = some (.ref f) ∧ PySem.W.keepIn K (.ref f) = true ∧ KBinds K fd ps ks g gV
def tKw (sp : Sp) (gV : List V → List V → List V) (tk : TA) : TE := fun σ H Q => tk σ H fun zs H2 => sp (gV [] zs) H2 Q E0
theorem pe_kw0 {X : Cx} {k : Nat} {x : Str} {ps ks : List Str} {g : List Value → List Value → List Value} {gV : List V → List V → List V} {sp : Sp} {kws : List Keyword} {tk : TA} {p pos : Pos} (O : OkKw X.prog X.w X.K X.mg X.base k x ps ks g gV sp) (hr : Room k X.A) (hkw : PK X kws tk) (hg : Gl X x := by rfl)
    (hall : (backToKw pos (keywordEach kws X.env)).all (·.1.isSome) = true := by rfl) (hks : (backToKw pos (keywordEach kws X.env)).filterMap (·.1) = ks := by rfl) (hdb : (x == ("__debug__" : Str)) = false := by decide)
    (hpl : ((backTo pos (starEach [] X.env)).any (·.1) || (backToKw pos (keywordEach kws X.env)).any (·.1.isNone)) = false := by rfl) : PE X (.Call (.Name x p) [] kws pos) (tKw sp gV tk) := by
  obtain ⟨f, fd, F, gm, kp, b⟩ := O
  refine ⟨fun pins s σ H Q I h => wpAny_Call_Name_kw (ld_glob I hg gm ?_ hdb)⟩
  refine PySem.W.callWith_KW0 (h₀ := X.base) I.ok.mod.kin kp hall (thn (hkw.run pos pins s σ H _ I h) fun ws s2 h2 => ?_) hpl
  obtain ⟨zs, H2, I2, rz, q2⟩ := h2
  refine ⟨I2.kIn, ?_⟩
  rw [hks]
  exact run_fnk (us := []) (vs := []) F hr b pass0 I2 .nil rz q2
theorem set_same {α : Type} {l : List α} {j : Nat} {x : α} (h : l[j]? = some x) : l.set j x = l := by
  refine List.ext_getElem? fun i => ?_
  by_cases e : j = i
  · subst e
    rw [List.getElem?_set_self (List.getElem?_eq_some_iff.mp h).1, h]
  · rw [List.getElem?_set_ne e]
/-- if m: xs.append(k), both ways at once -/
theorem if_app {K : PySem.W.Frag} {D : Ends} {σ : L2.St} {H0 H : Hp} {l : List (Addr × HO)} {j sl sk : Nat} {o : Addr} {L : List Int} {k : Int} (m : Bool) (hs : σ[sl]? = some (some (.ref o))) (hk : σ[sk]? = some (some (.int k))) (T : Has H0 H l) (hj : l[j]? = some (o, .lst (L.map V.int)))
    (hz : L.length < 100000) (go : ∀ H', Has H0 H' (l.set j (o, .lst ((if m = true then L ++ [k] else L).map V.int))) → D.nx σ H') : if m = true then tDrop (tBM K "list" rAppend (tVar sl) (tCons (tVar sk) tNil)) D σ H else tNext D σ H := by
  cases m with
  | true =>
    refine ⟨_, hs, .inl ⟨rfl, _, Evl.sq_of (T.get j hj)⟩, _, hk, o, _, _, rfl, rfl, T.get j hj, szl (by rw [List.length_map]; exact hz), ?_⟩
    refine go _ ?_
    rw [if_pos rfl, List.map_append]
    exact T.set j hj
  | false =>
    refine go H ?_
    rw [if_neg (by decide), set_same hj]
    exact T
theorem rep_tup {n : Nat} {H : Hp} {t u : Addr} {m : List Int} (h : H t = some (.tup (m.map V.int))) (h' : H u = some (.tup (m.map V.int))) (hl : m.length ≤ 10000) : Rep (n + 1) H (.ref t) (.ref u) := by
  refine .inr ⟨t, u, _, _, rfl, rfl, .inr ⟨h, h'⟩, rfl, by rw [List.length_map]; exact hl, fun i x y hx hy => ?_⟩
  obtain ⟨v, hv, rfl⟩ := map_get hx
  rw [hx] at hy
  obtain rfl := Option.some.inj hy
  exact Rep.flat rfl
end TW
set_option Elab.async false
set_option linter.all false
set_option maxRecDepth 100000
set_option maxHeartbeats 4000000
namespace TW
open PySem PySem.Spec PyProof.Rows L2
section
variable {P : Program} {w : World} {K : PySem.W.Frag} {mg : Str → Option Value} {base : Heap}
def spCheckLot (K : PySem.W.Frag) : Sp := fun vs H Q _ => ∃ (a : Addr) (ns : List Int) (t : Option Int), vs = [.ref a, thV t] ∧ SqT K H a (ns.map V.int) ∧ ns.length ≤ 1000 ∧ isLot ns t = true ∧ ∀ H', Ex H H' → Q .non H'
def spMiddle (K : PySem.W.Frag) : Sp := fun vs H Q _ => ∃ (a b c : Addr) (xs ys zs : List Int), vs = [.ref a, .ref b, .ref c] ∧ SqT K H a (xs.map V.int) ∧ SqT K H b (ys.map V.int) ∧ SqT K H c (zs.map V.int) ∧ lotOk xs ∧ lotOk ys ∧ lotOk zs ∧
  ∀ (p : Addr) (H' : Hp) (m : List Int), H p = none → Ex H H' → H' p = some (.tup (m.map V.int)) → IsMid xs ys zs m → Q (.ref p) H'
end
end TW
set_option Elab.async false
set_option linter.all false
set_option maxRecDepth 100000
set_option maxHeartbeats 4000000
/-! sorted of a list of tuples of ints of any lengths, the empty one too -/
namespace TW
open PySem PySem.W PySem.Calls PyProof.Rows
theorem lex_list : ∀ xs ys : List Int, HT.lexLt xs ys = decide (xs < ys)
  | [], [] => rfl
  | [], y :: ys => (decide_eq_true (by exact List.nil_lt_cons y ys)).symm
  | x :: xs, [] => (decide_eq_false (by exact List.not_lt_nil _)).symm
  | x :: xs, y :: ys => by
    rw [HT.lexLt_cons, Bool.eq_iff_iff, decide_eq_true_eq, List.cons_lt_cons_iff]
    by_cases e : x = y
    · subst e
      rw [if_pos rfl, lex_list xs ys, decide_eq_true_eq]
      constructor
      · exact fun h => .inr ⟨rfl, h⟩
      · rintro (h | ⟨_, h⟩)
        · exact absurd h (Int.lt_irrefl x)
        · exact h
    · rw [if_neg e, decide_eq_true_eq]
      constructor
      · exact .inl
      · rintro (h | ⟨h, _⟩)
        · exact h
        · exact absurd h e
def tupD (ns : List Int) : PyData := .tuple (ns.map .int)
theorem lt_tupD (xs ys : List Int) : dataLt (tupD xs) (tupD ys) = HT.lexLt xs ys := by
  unfold tupD
  rw [dataLt_tuple, lex_list]
  exact dataLt_ints xs ys
theorem alike_tupD (xs ys : List Int) : alike (tupD xs) (tupD ys) = true := by
  unfold tupD
  simpa [alike] using alike_ints xs ys
theorem depth_tupD (xs : List Int) : (tupD xs).depth ≤ 1 := by
  unfold tupD
  simp [PyData.depth, depth_ints]
section
variable {prog : Program} {w : World} {A : Around} {E : Value → Shared → Prop} {s : Shared} {M : Model}
theorem ints_of_reads : ∀ {ns : List Int} {vs : List Value} {as : List Addr}, ReadsAll s.heap vs (ns.map .int) as → IntsAre vs ns
  | [], _, _, h => by cases h; exact .nil
  | n :: ns, _, _, h => by
    cases h with
    | cons r1 r2 =>
      cases r1
      exact .cons _ _ (ints_of_reads r2)
theorem first_lots : ∀ {vs : List Value} {ds : List PyData}, EachIs (fun v d => ∃ as, Reads s.heap v d as) vs ds → (∀ d ∈ ds, ∃ ns, d = tupD ns) →
    ∃ fs : List (Option Value), (fs.all (·.isSome) = true → ∀ d ∈ ds, ∃ x r, d = .tuple (x :: r)) ∧ ∀ {E : Value → Shared → Prop} {Q : List (Option Value) → Shared → Prop}, Q fs s → wpAny M A (vs.mapM firstOfTuple') Q E s
  | _, _, .nil, _ => ⟨[], fun _ d hd => absurd hd List.not_mem_nil, fun {E Q} h => by rw [List.mapM_nil]; exact wpAny_pure h⟩
  | v :: vs, d :: ds, .cons ⟨as, r⟩ t, hl => by
    obtain ⟨fs, h1, h2⟩ := first_lots t fun d hd => hl d (List.mem_cons_of_mem _ hd)
    obtain ⟨ns, rfl⟩ := hl d List.mem_cons_self
    unfold tupD at r
    cases r with
    | @tuple a o xs n _ _ ho hc hd hr =>
      refine ⟨xs[0]? :: fs, fun hall d hm => ?_, fun {E Q} hq => ?_⟩
      · rw [List.all_cons, Bool.and_eq_true] at hall
        rcases List.mem_cons.mp hm with e | e
        · subst e
          cases ns with
          | nil =>
            have q : xs.toList = [] := by
              cases e2 : xs.toList with
              | nil => rfl
              | cons f fr => rw [e2] at hr; cases hr
            have q2 : xs = #[] := by simpa using q
            rw [q2] at hall
            exact absurd hall.1 (by simp)
          | cons k r => exact ⟨_, _, rfl⟩
        · exact h1 hall.2 d e
      · rw [List.mapM_cons, kas_first_eq]
        refine wpAny_bind (wpAny_bind (Looks.here (show Looks M s.heap (typeOf (.ref a)) o.cls from (Looks.ld ho).andThen .now) ?_))
        rw [hc, if_neg (by simp)]
        refine wpAny_bind (listItems_at ho hd (wpAny_pure ?_))
        exact wpAny_bind (h2 (wpAny_pure hq))
theorem oneLt_tups {f : Bool} {xs ys : List Int} {a b : Value} {as bs : List Addr} {Q : Bool → Shared → Prop} (ra : Reads s.heap a (tupD xs) as) (rb : Reads s.heap b (tupD ys) bs) (hu : A.units + 3 < cLine) (hq : Q (HT.lexLt xs ys) s) : wpAny (model prog w) A (oneLt' f a b) Q E s := by
  cases f with
  | false =>
    refine oneLt_alike (fun h => absurd h Bool.false_ne_true) ra rb (alike_tupD xs ys) (fun h => by cases h) ?_ (by rw [lt_tupD]; exact hq)
    have d1 := depth_tupD xs
    omega
  | true =>
    unfold tupD at ra rb
    cases ra with
    | @tuple l o its n _ _ h1 h2 h3 h4 =>
      cases rb with
      | @tuple l' o' its' n' _ _ k1 k2 k3 k4 =>
        obtain ⟨oc, od, odat, osl⟩ := o
        obtain ⟨oc', od', odat', osl'⟩ := o'
        simp only at h2 h3 k2 k3
        subst h2 h3 k2 k3
        rw [oneLt'_eq]
        simp only [if_true]
        refine wpAny_bind (wpAny_cRoomFor (by omega) ?_)
        refine wpAny_bind (wpAny_callSpecialIfBound?_slot (T := "tuple") ⟨_, h1, rfl⟩ F.slot_tuple_lt (call_meets F.slot_tuple_lt ⟨_, h1, rfl⟩ F.entry_tuple_lt (F.args_tuple_lt_2 _ _) (HT.tuple_lt_ints l l' its its' n n' od od' osl osl' xs ys (ints_of_reads h4) (ints_of_reads k4)) ⟨h1, k1, ?_⟩))
        exact wpAny_truthy_bool hq
theorem sorts_lots {vs : List Value} {ds : List PyData} (e : EachIs (fun v d => ∃ as, Reads s.heap v d as) vs ds) (hl : ∀ d ∈ ds, ∃ ns, d = tupD ns) (hu : A.units + 5 < cLine) : SortsAt prog w A s (dataKind s.heap ds) vs := by
  have hal : AllAlike ds := fun d hd d' hd' => by
    obtain ⟨xs, rfl⟩ := hl d hd
    obtain ⟨ys, rfl⟩ := hl d' hd'
    exact alike_tupD xs ys
  obtain ⟨fs, hfs, run⟩ := first_lots (M := model prog w) (A := A) e hl
  by_cases hs : fs.all (·.isSome) = true
  · refine SortsAt.data e hal (.inl (hfs hs)) fun d hd => ?_
    obtain ⟨xs, rfl⟩ := hl d hd
    have := depth_tupD xs
    omega
  · have lt : ∀ kd : SortKind, (∀ x y, keyLt' kd x y = oneLt' true x y) ∨ (∀ x y, keyLt' kd x y = oneLt' false x y) → PyProof.Rows.H.LtAt prog w A s (dataKind s.heap ds) kd := fun kd hk E x y a b Q ha hb hq => by
      obtain ⟨d, as, hd, ra, rfl⟩ := dataKind_inv ha
      obtain ⟨d', as', hd', rb, rfl⟩ := dataKind_inv hb
      obtain ⟨xs, rfl⟩ := hl d hd
      obtain ⟨ys, rfl⟩ := hl d' hd'
      have hq' : Q (dataLt (tupD xs) (tupD ys)) s := hq
      rw [lt_tupD] at hq'
      rcases hk with hk | hk
      · rw [hk]
        exact oneLt_tups ra rb (by omega) hq'
      · rw [hk]
        exact oneLt_tups ra rb (by omega) hq'
    refine ⟨fun v hv => ?_, ?_⟩
    · obtain ⟨d, hd, as, r⟩ := e.left v hv
      exact ⟨_, dataKind_some hal hd r⟩
    · have hna : ¬ (fs.toArray.all fun x => x.isSome) = true := by simpa using hs
      by_cases h0 : (fs[0]?.bind id).isSome = true
      · refine ⟨general', lt _ (.inr fun _ _ => rfl), fun h2 E Q hq => ?_⟩
        rw [kat_kind_eq, List.mapM_toArray, map_eq_pure_bind]
        refine wpAny_bind (wpAny_bind (run (wpAny_pure ?_)))
        rw [if_neg hna, if_pos (by simpa using h0)]
        exact wpAny_pure hq
      · refine ⟨oneType', lt _ (.inl fun _ _ => rfl), fun h2 E Q hq => ?_⟩
        obtain ⟨v₁, v₂, rest, rfl⟩ : ∃ v₁ v₂ rest, vs = v₁ :: v₂ :: rest := by
          match vs, h2 with
          | v₁ :: v₂ :: rest, _ => exact ⟨v₁, v₂, rest, rfl⟩
          | [], h => exact absurd h (by decide)
          | [v], h => exact absurd h (by simp)
        rw [kat_kind_eq, List.mapM_toArray, map_eq_pure_bind]
        refine wpAny_bind (wpAny_bind (run (wpAny_pure ?_)))
        rw [if_neg hna, if_neg (by simpa using h0), oneTypeOnly'_eq, List.mapM_toArray, map_eq_pure_bind]
        refine wpAny_bind (wpAny_bind (wpAny_bind (kas_mapM (r := Value.type "tuple") _ (fun v hv Q' hq' => ?_) (wpAny_pure ?_))))
        · obtain ⟨d, hd, as, r⟩ := e.left v hv
          obtain ⟨xs, rfl⟩ := hl d hd
          exact (looks_reads r).here hq'
        · have all1 : ((List.map (fun _ => Value.type "tuple") (v₁ :: v₂ :: rest)).toArray.all fun x => x == Value.type "tuple") = true := by
            simp only [List.all_toArray, List.all_map, List.all_eq_true]
            exact fun _ _ => beq_self_eq_true _
          have at0 : (List.map (fun _ => Value.type "tuple") (v₁ :: v₂ :: rest)).toArray[0]? = some (Value.type "tuple") := by simp
          rw [at0]
          simp only [all1, if_true]
          exact wpAny_pure (wpAny_pure hq)
end
end TW
set_option Elab.async false
set_option linter.all false
set_option maxRecDepth 100000
set_option maxHeartbeats 4000000
/-! sorted of a list of data, as a rule -/
namespace TW
open PySem PySem.Spec PyProof.Rows L2
open PySem.W (EachIs AllAlike Sortable dataLt dataLe dataKind)
theorem each_of_vals : ∀ {bs : List (V × PyData)} {us : List Value}, Vals (bs.map (·.1)) us → EachIs (fun v b => RelV b.1 v) us bs
  | [], _, .nil => .nil
  | b :: bs, _, .cons r t => .cons r (each_of_vals t)
theorem vals_of_each : ∀ {us : List Value} {bs : List (V × PyData)}, EachIs (fun v b => RelV b.1 v) us bs → Vals (bs.map (·.1)) us
  | _, _, .nil => .nil
  | _, _, .cons r t => .cons r (vals_of_each t)
theorem dataLe_pw (bs : List (V × PyData)) : (bs.mergeSort (dataLe false (·.2))).Pairwise (fun x y => dataLt y.2 x.2 = false) := by
  have T := PySem.W.sortLe_total (PyProof.Rows.listOrd PyProof.Rows.itemOrd) false (fun b : V × PyData => PySem.W.keyToks b.2)
  have e : dataLe false (fun b : V × PyData => b.2) = PySem.W.sortLe (PyProof.Rows.listOrd PyProof.Rows.itemOrd) false (fun b : V × PyData => PySem.W.keyToks b.2) := rfl
  have h := List.pairwise_mergeSort (le := dataLe false (fun b : V × PyData => b.2)) (fun a b c h1 h2 => by rw [e] at h1 h2 ⊢; exact T.trans a b c h1 h2) (fun a b => by rw [e]; rcases T.total a b with h | h <;> simp [h]) bs
  refine h.imp fun {x y} h => ?_
  have h' : (!dataLt y.2 x.2) = true := h
  rw [Bool.not_eq_true'] at h'
  exact h'
def rSortD (K : PySem.W.Frag) : List V → Hp → VK → Prop := fun vs H Q => ∃ (a : Addr) (bs : List (V × PyData)), vs = [.ref a] ∧ SqL K H a (bs.map (·.1)) ∧ (∀ b ∈ bs, Dp K H b.1 b.2) ∧
  ((AllAlike (bs.map (·.2)) ∧ Sortable (bs.map (·.2))) ∨ ∀ b ∈ bs, ∃ ns, b.2 = tupD ns) ∧ (∀ b ∈ bs, b.2.depth ≤ 20) ∧
  ∀ (bs' : List (V × PyData)) (p : Addr), bs'.Perm bs → bs'.Pairwise (fun x y => dataLt y.2 x.2 = false) → H p = none → Q (.ref p) (upd H p (.lst (bs'.map (·.1))))
def rSortE (K : PySem.W.Frag) : List V → Hp → VK → Prop := fun vs H Q => ∃ (a : Addr) (bs : List (V × PyData)), vs = [.ref a] ∧ SqL K H a (bs.map (·.1)) ∧ (∀ b ∈ bs, Dp K H b.1 b.2) ∧
  ((AllAlike (bs.map (·.2)) ∧ Sortable (bs.map (·.2))) ∨ ∀ b ∈ bs, ∃ ns, b.2 = tupD ns) ∧ (∀ b ∈ bs, b.2.depth ≤ 20) ∧
  ∀ p : Addr, H p = none → Q (.ref p) (upd H p (.lst ((bs.mergeSort (dataLe false (·.2))).map (·.1))))
section
variable {X : Cx} {K : PySem.W.Frag}
theorem cr_sortE (hu : X.A.units + 64 < cLine) (hK : X.K = K := by rfl) : CallR X (.builtin "sorted") (rSortE K) := by
  subst hK
  intro pins s σ H vs us Q I r h
  obtain ⟨a, bs, rfl, hs, hd, hk, hdep, q⟩ := h
  obtain ⟨its, rv, hl, hz⟩ := I.list hs
  rw [Vals.ref1 r]
  have lz : its.length = bs.length := by rw [← rv.length, List.length_map]
  have e := each_of_vals rv
  have er : EachIs (fun v b => ∃ as, Reads s.heap v b.2 as) its bs := by
    have e2 := PySem.W.each_mem e
    exact e2.mono fun v b z => Dp.reads I b.2 b.1 v (hd b z.2) z.1
  have er' : EachIs (fun v b => ∃ as, Reads (PySem.W.sortingHeap (PySem.W.copyHeap s.heap its) (s.heap.objs.size + 1) its) v b.2 as) its bs := er.mono fun _ _ z => by
    obtain ⟨as, r⟩ := z
    exact ⟨as, PyProof.Rows.Reads.keeps (fun _ _ => PySem.W.sorting_copy_old) r⟩
  have hal : AllAlike (bs.map (·.2)) := by
    rcases hk with hk | hk
    · exact hk.1
    · intro d hd1 d' hd2
      obtain ⟨b, hb, rfl⟩ := List.mem_map.mp hd1
      obtain ⟨b', hb', rfl⟩ := List.mem_map.mp hd2
      obtain ⟨xs, e1⟩ := hk b hb
      obtain ⟨ys, e2⟩ := hk b' hb'
      rw [e1, e2]
      exact alike_tupD xs ys
  have em := PySem.W.each_map (R := fun v d => ∃ as, Reads (PySem.W.sortingHeap (PySem.W.copyHeap s.heap its) (s.heap.objs.size + 1) its) v d as) (fun b : V × PyData => b.2) er'
  have S : PySem.W.SortsAt X.prog X.w X.A.in1.in1 { s with heap := PySem.W.sortingHeap (PySem.W.copyHeap s.heap its) (s.heap.objs.size + 1) its } (dataKind (PySem.W.sortingHeap (PySem.W.copyHeap s.heap its) (s.heap.objs.size + 1) its) (bs.map (·.2))) its := by
    rcases hk with hk | hk
    · refine PySem.W.SortsAt.data em hal hk.2 fun d hd1 => ?_
      obtain ⟨b, hb, rfl⟩ := List.mem_map.mp hd1
      have := hdep b hb
      show X.A.units + 1 + 1 + b.2.depth < cLine
      omega
    · refine sorts_lots em (fun d hd1 => ?_) (by show X.A.units + 1 + 1 + 5 < cLine; omega)
      obtain ⟨b, hb, rfl⟩ := List.mem_map.mp hd1
      exact hk b hb
  refine PySem.W.sorted_vals hl.isList S (by rw [← rv.length]; exact hz) ?_
  have eo := PySem.W.sortVals_data (h' := PySem.W.sortingHeap (PySem.W.copyHeap s.heap its) (s.heap.objs.size + 1) its) (enc := fun b : V × PyData => b.2) false e er' hal
  generalize PySem.W.sortVals (dataKind (PySem.W.sortingHeap (PySem.W.copyHeap s.heap its) (s.heap.objs.size + 1) its) (bs.map (·.2))) false its its = out at eo
  obtain ⟨ep, hat⟩ := PyProof.Rows.sortedAll_at s.heap its out.toArray
  have pm : (bs.mergeSort (dataLe false (·.2))).Perm bs := List.mergeSort_perm bs _
  have hlen : ((bs.mergeSort (dataLe false (·.2))).map (·.1)).length ≤ sizeLine := by
    rw [List.length_map, pm.length_eq, ← List.length_map (f := (·.1))]
    exact hz
  exact ⟨.ref _, upd H (s.heap.objs.size + 1) (.lst ((bs.mergeSort (dataLe false (·.2))).map (·.1))), I.laid (t' := s.toks) (fun _ _ => PyProof.Rows.sortedAll_old) (Nat.le_succ _) ⟨hlen, out, ep, vals_of_each eo, hat⟩, rfl, q _ (I.hok.fresh (Nat.le_succ _))⟩
theorem cr_sortD (hu : X.A.units + 64 < cLine) (hK : X.K = K := by rfl) : CallR X (.builtin "sorted") (rSortD K) := fun pins s σ H vs us Q I r h => by
  obtain ⟨a, bs, h1, h2, h3, h4, h5, q⟩ := h
  exact cr_sortE hu hK pins s σ H vs us Q I r ⟨a, bs, h1, h2, h3, h4, h5, fun p hp => q _ p (List.mergeSort_perm bs _) (dataLe_pw bs) hp⟩
end
/-! lots -/
section
variable {K : PySem.W.Frag} {H : Hp}
theorem dpAll_ints : ∀ ns : List Int, DpAll K H (ns.map V.int) (ns.map .int)
  | [] => .nil
  | n :: ns => .cons (.int n) (dpAll_ints ns)
theorem dp_lot {t : Addr} {ns : List Int} (h : SqT K H t (ns.map V.int)) : Dp K H (.ref t) (tupD ns) := .tup h (dpAll_ints ns)
end
end TW
set_option Elab.async false
set_option linter.all false
set_option maxRecDepth 100000
set_option maxHeartbeats 4000000
/-! data that stands in the heap -/
namespace TW
open PySem PySem.Spec PyProof.Rows L2
open PySem.W (EachIs AllAlike Sortable dataLt dataLe dataKind)
inductive At (H : Hp) : V → PyData → Prop
  | non : At H .non .none
  | bl (b : Bool) : At H (.bl b) (.bool b)
  | int (i : Int) : At H (.int i) (.int i)
  | str (x : Str) : At H (.str x) (.str x)
  | lst {a : Addr} {xs : List V} {ds : List PyData} (h : H a = some (.lst xs)) (l : xs.length = ds.length) (p : ∀ (i : Nat) x d, xs[i]? = some x → ds[i]? = some d → At H x d) : At H (.ref a) (.list ds)
  | tup {a : Addr} {xs : List V} {ds : List PyData} (h : H a = some (.tup xs)) (l : xs.length = ds.length) (p : ∀ (i : Nat) x d, xs[i]? = some x → ds[i]? = some d → At H x d) : At H (.ref a) (.tuple ds)
def Ats (H : Hp) (xs : List V) (ds : List PyData) : Prop := xs.length = ds.length ∧ ∀ (i : Nat) x d, xs[i]? = some x → ds[i]? = some d → At H x d
section
variable {H H' : Hp} {K : PySem.W.Frag} {x : V} {d : PyData} {a : Addr} {xs : List V} {ds : List PyData}
theorem At.ex (e : Ex H H') (h : At H x d) : At H' x d := by
  induction h with
  | non => exact .non
  | bl b => exact .bl b
  | int i => exact .int i
  | str x => exact .str x
  | lst h l p ih => exact .lst (e _ _ h) l ih
  | tup h l p ih => exact .tup (e _ _ h) l ih
theorem Ats.ex (e : Ex H H') (h : Ats H xs ds) : Ats H' xs ds := ⟨h.1, fun i x d h1 h2 => (h.2 i x d h1 h2).ex e⟩
theorem Ats.nil : Ats H [] [] := ⟨rfl, fun i x d h _ => by cases h⟩
theorem Ats.cons (h : At H x d) (t : Ats H xs ds) : Ats H (x :: xs) (d :: ds) := ⟨by rw [List.length_cons, List.length_cons, t.1], fun i y e h1 h2 => by
  cases i with
  | zero =>
    cases h1
    cases h2
    exact h
  | succ i => exact t.2 i y e h1 h2⟩
theorem Ats.head (h : Ats H (x :: xs) (d :: ds)) : At H x d := h.2 0 x d rfl rfl
theorem Ats.rest (h : Ats H (x :: xs) (d :: ds)) : Ats H xs ds := ⟨by have := h.1; rw [List.length_cons, List.length_cons] at this; omega, fun i y e h1 h2 => h.2 (i + 1) y e h1 h2⟩
theorem Ats.snoc (h : Ats H xs ds) (t : At H x d) : Ats H (xs ++ [x]) (ds ++ [d]) := ⟨by rw [List.length_append, List.length_append, h.1]; rfl, fun i y e h1 h2 => by
  rcases Nat.lt_trichotomy i xs.length with c | c | c
  · rw [List.getElem?_append_left c] at h1
    rw [List.getElem?_append_left (by rw [← h.1]; exact c)] at h2
    exact h.2 i y e h1 h2
  · rw [List.getElem?_append_right (by omega), show i - xs.length = 0 by omega] at h1
    rw [List.getElem?_append_right (by rw [← h.1]; omega), show i - ds.length = 0 by rw [← h.1]; omega] at h2
    cases h1
    cases h2
    exact t
  · rw [List.getElem?_append_right (by omega), List.getElem?_eq_none (by rw [List.length_singleton]; omega)] at h1
    cases h1⟩
theorem Ats.append {ys : List V} {es : List PyData} (h : Ats H xs ds) (t : Ats H ys es) : Ats H (xs ++ ys) (ds ++ es) := by
  induction ys generalizing xs ds es with
  | nil =>
    cases es with
    | nil => rw [List.append_nil, List.append_nil]; exact h
    | cons e es => cases t.1
  | cons y ys ih =>
    cases es with
    | nil => cases t.1
    | cons e es =>
      have := ih (h.snoc t.head) t.rest
      rw [List.append_assoc, List.append_assoc] at this
      exact this
theorem Ats.at_ (h : Ats H xs ds) {i : Nat} (hd : ds[i]? = some d) : ∃ x, xs[i]? = some x ∧ At H x d := by
  have hi := (List.getElem?_eq_some_iff.mp hd).1
  have hx : xs[i]? = some (xs[i]'(by rw [h.1]; exact hi)) := List.getElem?_eq_getElem (by rw [h.1]; exact hi)
  exact ⟨_, hx, h.2 i _ _ hx hd⟩
theorem Ats.at' (h : Ats H xs ds) {i : Nat} (hx : xs[i]? = some x) : ∃ d, ds[i]? = some d ∧ At H x d := by
  have hi := (List.getElem?_eq_some_iff.mp hx).1
  have hd : ds[i]? = some (ds[i]'(by rw [← h.1]; exact hi)) := List.getElem?_eq_getElem (by rw [← h.1]; exact hi)
  exact ⟨_, hd, h.2 i _ _ hx hd⟩
theorem Ats.map_ {α : Type} {l : List α} {f : α → V} {g : α → PyData} (h : ∀ y ∈ l, At H (f y) (g y)) : Ats H (l.map f) (l.map g) := by
  induction l with
  | nil => exact .nil
  | cons y l ih => exact .cons (h y List.mem_cons_self) (ih fun z hz => h z (List.mem_cons_of_mem _ hz))
theorem At.mkL (h : H a = some (.lst xs)) (t : Ats H xs ds) : At H (.ref a) (.list ds) := .lst h t.1 t.2
theorem At.mkT (h : H a = some (.tup xs)) (t : Ats H xs ds) : At H (.ref a) (.tuple ds) := .tup h t.1 t.2
theorem At.isL (h : At H x (.list ds)) : ∃ a xs, x = .ref a ∧ H a = some (.lst xs) ∧ Ats H xs ds := by
  cases h with
  | lst h l p => exact ⟨_, _, rfl, h, l, p⟩
theorem At.isT (h : At H x (.tuple ds)) : ∃ a xs, x = .ref a ∧ H a = some (.tup xs) ∧ Ats H xs ds := by
  cases h with
  | tup h l p => exact ⟨_, _, rfl, h, l, p⟩
theorem At.isI {i : Int} (h : At H x (.int i)) : x = .int i := by
  cases h
  rfl
theorem At.isS {i : Str} (h : At H x (.str i)) : x = .str i := by
  cases h
  rfl
theorem ats_dp : ∀ {xs : List V} {ds : List PyData}, xs.length = ds.length → (∀ (i : Nat) x d, xs[i]? = some x → ds[i]? = some d → Dp K H x d) → DpAll K H xs ds
  | [], [], _, _ => .nil
  | [], _ :: _, h, _ => by cases h
  | _ :: _, [], h, _ => by cases h
  | x :: xs, d :: ds, h, p => .cons (p 0 x d rfl rfl) (ats_dp (by rw [List.length_cons, List.length_cons] at h; omega) fun i y e h1 h2 => p (i + 1) y e h1 h2)
theorem At.dp (h : At H x d) : Dp K H x d := by
  induction h with
  | non => exact .non
  | bl b => exact .bl b
  | int i => exact .int i
  | str x => exact .str x
  | lst h l p ih => exact .lst (Evl.sq_of h) (ats_dp l ih)
  | tup h l p ih => exact .tup (Evl.st_of h) (ats_dp l ih)
end
/-! sorted, to the item -/
def dLe : PyData → PyData → Bool := dataLe false id
theorem sort_data (bs : List (V × PyData)) : (bs.mergeSort (dataLe false (·.2))).map (·.2) = (bs.map (·.2)).mergeSort dLe := List.map_mergeSort fun _ _ _ _ => rfl
theorem ats_sort {H : Hp} {bs : List (V × PyData)} (h : ∀ b ∈ bs, At H b.1 b.2) : Ats H ((bs.mergeSort (dataLe false (·.2))).map (·.1)) ((bs.map (·.2)).mergeSort dLe) := by
  rw [← sort_data]
  exact Ats.map_ fun b hb => h b ((List.mergeSort_perm bs _).mem_iff.mp hb)
end TW
set_option Elab.async false
set_option linter.all false
set_option maxRecDepth 100000
set_option maxHeartbeats 4000000
namespace TW
open PySem PySem.Spec PyProof.Rows L2
/-! literals, rules, lots -/
abbrev Sgn := Nat × Bool
abbrev Bar := List Sgn
def sw (b : Bool) : Str := if b then "in" else "out"
def dSgn (s : Sgn) : PyData := .tuple [.int s.1, .str (sw s.2)]
def dBar (b : Bar) : PyData := .tuple (b.map dSgn)
def dBars (bs : List Bar) : PyData := .list (bs.map dBar)
def bitB (m : Int) (k : Nat) : Bool := decide (m / 2 ^ k % 2 = 1)
def lotOf (m : Int) (w : Nat) : List Int := ((List.range w).filter (bitB m)).map fun k : Nat => (k : Int)
def met (m : Int) (s : Sgn) : Bool := bitB m s.1 == s.2
def keptB (m : Int) (bs : List Bar) : Bool := bs.all fun b => b.any (met m)
theorem At.sgn {H : Hp} {v : V} {s : Sgn} (h : At H v (dSgn s)) : ∃ a, v = .ref a ∧ H a = some (.tup [.int s.1, .str (sw s.2)]) := by
  obtain ⟨a, xs, rfl, ha, hx⟩ := At.isT h
  match xs, hx with
  | [x, y], hx =>
    obtain rfl := hx.head.isI
    obtain rfl := hx.rest.head.isS
    exact ⟨a, rfl, ha⟩
  | [], hx => cases hx.1
  | [_], hx => cases hx.1
  | _ :: _ :: _ :: _, hx => cases hx.1
theorem at_sgn {H : Hp} {a : Addr} {s : Sgn} (h : H a = some (.tup [.int s.1, .str (sw s.2)])) : At H (.ref a) (dSgn s) := At.mkT h (.cons (.int _) (.cons (.str _) .nil))
theorem At.bar {H : Hp} {v : V} {b : Bar} (h : At H v (dBar b)) : ∃ a xs, v = .ref a ∧ H a = some (.tup xs) ∧ Ats H xs (b.map dSgn) := At.isT h
theorem At.bars {H : Hp} {v : V} {b : List Bar} (h : At H v (dBars b)) : ∃ a xs, v = .ref a ∧ H a = some (.lst xs) ∧ Ats H xs (b.map dBar) := At.isL h
theorem ats_get {α : Type} {H : Hp} {xs : List V} {l : List α} {f : α → PyData} (h : Ats H xs (l.map f)) {i : Nat} {x : V} (hx : xs[i]? = some x) : ∃ y, l[i]? = some y ∧ At H x (f y) := by
  obtain ⟨d, hd, hA⟩ := h.at' hx
  rw [List.getElem?_map] at hd
  cases e : l[i]? with
  | none => rw [e] at hd; cases hd
  | some y => rw [e] at hd; cases hd; exact ⟨y, rfl, hA⟩
theorem sw_in (b : Bool) : decide (V.str (sw b) = V.str "in") = b := by cases b <;> decide +kernel
theorem met_eq (m : Int) (s : Sgn) : decide (V.int (m / 2 ^ s.1 % 2 ^ 1) = V.int (if s.2 = true then 1 else 0)) = met m s := by
  unfold met bitB
  have e : m / 2 ^ s.1 % 2 ^ 1 = m / 2 ^ s.1 % 2 := by rw [Int.pow_one]
  rw [e]
  have h := Int.emod_two_eq (m / 2 ^ s.1)
  rcases h with h | h <;> rw [h] <;> cases s.2 <;> decide
section
variable {P : Program} {w : World} {K : PySem.W.Frag} {mg : Str → Option Value} {base : Heap}
/-! _law_met -/
theorem sc_law_met : FnScope ["mask", "sign"] ["mask", "sign"] (defScope s__law_met) := ⟨rfl, rfl, rfl, by decide +kernel, rfl, by decide +kernel, by decide +kernel⟩
def spMet : Sp := fun vs H Q _ => ∃ (m : Int) (v : V) (s : Sgn), vs = [.int m, v] ∧ At H v (dSgn s) ∧ Q (.bl (met m s)) H
theorem ok_met (D : Dfn K mg "_law_met" s__law_met ["mask", "sign"]) (z : Z mg) : Ok P w K mg base 1 "_law_met" ["mask", "sign"] spMet := D.ok fun f fd F => by
  refine F.ok sc_law_met (fun vs H Q E h => ?_) (fun cdv A outer s H vs Q E hr h => ?_)
  · obtain ⟨m, v, s, rfl, _⟩ := h
    rfl
  · obtain ⟨m, v, s, rfl, hv, q⟩ := h
    obtain ⟨a, rfl, ha⟩ := hv.sgn
    refine ⟨_, (pss_one (ps_ret (pe_cmpR op_eq (pe_op op_andM (pe_op op_shrN (pv 0) (pe_ix ix_tup (pv 1) pe_int (fun _ _ => rfl))) pe_int) (pe_callTy call_int1 (by rfl) z.int (by decide +kernel) (pa_cons (pe_cmpR op_eq (pe_ix ix_tup (pv 1) pe_int (fun _ _ => rfl)) pe_str (nomark _)) pa_nil)) (nomark _)))), ?_⟩
    refine ⟨_, rfl, _, rfl, a, _, 0, .int s.1, rfl, rfl, Evl.st_of ha, rfl, m, s.1, rfl, rfl, _, 1, rfl, rfl, ?_⟩
    refine ⟨_, rfl, a, _, 1, .str (sw s.2), rfl, rfl, Evl.st_of ha, rfl, rfl, .inr ⟨_, rfl, ?_⟩⟩
    rw [sw_in]
    have q' : Q (.bl (decide (V.int (m / 2 ^ s.1 % 2 ^ 1) = V.int (if s.2 = true then 1 else 0)))) H := by
      rw [met_eq]
      exact q
    exact ⟨rfl, q'⟩
/-! _law_all_kept -/
theorem sc_law_all_kept : FnScope ["mask", "bars", "bar", "sign"] ["mask", "bars"] (defScope s__law_all_kept) := ⟨rfl, rfl, rfl, by decide +kernel, rfl, by decide +kernel, by decide +kernel⟩
def spKept : Sp := fun vs H Q _ => ∃ (m : Int) (v : V) (bs : List Bar), vs = [.int m, v] ∧ At H v (dBars bs) ∧ (∀ b ∈ bs, b.length ≤ 100) ∧ ∀ H', Ex H H' → Q (.bl (keptB m bs)) H'
theorem take_any {α : Type} (f : α → Bool) {l : List α} {i : Nat} {x : α} (h : l[i]? = some x) : ((l.take (i + 1)).map f) = (l.take i).map f ++ [f x] := by
  rw [take_snoc h, List.map_append]
  rfl
theorem any_id {α : Type} (f : α → Bool) (l : List α) : (l.map f).any id = l.any f := by
  rw [List.any_map]
  rfl
theorem all_id {α : Type} (f : α → Bool) (l : List α) : (l.map f).all id = l.all f := by
  rw [List.all_map]
  rfl
theorem ok_kept (D : Dfn K mg "_law_all_kept" s__law_all_kept ["mask", "bars"]) (z : Z mg) (O_met : Ok P w K mg base 1 "_law_met" ["mask", "sign"] spMet) : Ok P w K mg base 2 "_law_all_kept" ["mask", "bars"] spKept := D.ok fun f fd F => by
  refine F.ok sc_law_all_kept (fun vs H Q E h => ?_) (fun cdv A outer s H vs Q E hr h => ?_)
  · obtain ⟨m, v, bs, rfl, _⟩ := h
    rfl
  · obtain ⟨m, v, bs, rfl, hv, hl, q⟩ := h
    obtain ⟨a, xs, rfl, ha, hx⟩ := hv.bars
    refine ⟨_, (pss_cons (ps_for PassesOwn.never rfl (pi_list (pv 1)) (pg_name (i := 2) sc_law_all_kept.nd rfl (Or.inl rfl))
      (pss_one (ps_if (pt_not (pt_val (pe_callB (cr_any rfl) (by rfl) z.any (by decide +kernel) (pa_cons (pe_lc (own := [("sign", 3)]) (g := gName 3) rfl sc_law_all_kept.nd (pi_tup (pv 2)) (blkOk_by (N := ["mask", "bars", "bar", "sign"]) (own := [("sign", 3)]) (sc := defScope s__law_all_kept) (by decide +kernel)) (fun _ _ _ _ _ => pg_name (i := 3) sc_law_all_kept.nd rfl (Or.inl rfl)) (fun _ _ _ _ _ => pts_nil) (fun _ _ _ _ _ => (pe_o O_met hr (pa_cons (pv 0) (pa_cons (pv 3) pa_nil))))) pa_nil)))) (pss_one (ps_ret pe_bl)) pss_nil)))
      (pss_one (ps_ret pe_bl))), ?_⟩
    refine ⟨_, rfl, a, rfl, ⟨_, Evl.sq_of ha⟩, for_list (K := K) (a := a) (xs := xs) (fun i σ H' => Ex H H' ∧ keptB m (bs.take i) = true ∧ ∃ v2 v3, σ = [some (.int m), some (.ref a), v2, v3]) ⟨Evl.Ex.refl H, rfl, none, none, rfl⟩ (fun i σ H' _ p => Evl.ex_l p.1 (Evl.sq_of ha)) ?_ ?_⟩
    · rintro i x σ H1 hi ⟨e1, hk, v2, v3, rfl⟩
      obtain ⟨b, hb, hA⟩ := ats_get hx hi
      obtain ⟨t, ys, rfl, ht, hy⟩ := (hA.ex e1).bar
      have hlen : ys.length ≤ 100 := by
        have := hy.1
        rw [List.length_map] at this
        rw [this]
        exact hl b (List.mem_of_getElem? hb)
      refine ⟨_, rfl, t, rfl, ⟨_, Evl.st_of ht⟩, fun Dl hD => ?_⟩
      refine lc_tup (K := K) (xs := ys) (fun j H' => Ex H1 H' ∧ H' Dl = some (.lst ((((b.take j).map (met m))).map V.bl))) ⟨Evl.Ex.new hD, by rw [upd_same]; rfl⟩ (fun j H' _ p => Evl.ex_t p.1 (Evl.st_of ht)) ?_ ?_
      · rintro j y H2 hj ⟨e2, h2⟩
        obtain ⟨s, hs, hS⟩ := ats_get hy hj
        refine ⟨rfl, _, rfl, _, rfl, m, y, s, rfl, hS.ex e2, _, h2, szl ?_, Evl.Ex.mut e2 hD, ?_⟩
        · rw [List.length_map, List.length_map, List.length_take]
          have := (List.getElem?_eq_some_iff.mp hj).1
          omega
        · rw [upd_same, take_any (met m) hs, List.map_append]
          rfl
      · rintro H2 ⟨e2, h2⟩
        have eL : b.take ys.length = b := List.take_of_length_le (by have := hy.1; rw [List.length_map] at this; omega)
        rw [eL] at h2
        refine ⟨Dl, _, rfl, Evl.sq_of h2, _, rfl, ?_⟩
        rw [any_id]
        have kn : keptB m (bs.take (i + 1)) = (keptB m (bs.take i) && b.any (met m)) := by
          unfold keptB
          rw [take_snoc hb, List.all_append]
          show ((bs.take i).all _ && (b.any (met m) && true)) = _
          rw [Bool.and_true]
        cases hq : b.any (met m) with
        | true => exact ⟨e1.trans e2, by rw [kn, hk, hq]; rfl, some (.ref t), _, rfl⟩
        | false =>
          have kf : keptB m bs = false := by
            unfold keptB
            rw [List.all_eq_false]
            exact ⟨b, List.mem_of_getElem? hb, by rw [hq]; decide⟩
          rw [kf] at q
          exact q H2 (e1.trans e2)
    · rintro σ H1 ⟨e1, hk, _⟩
      have eL : bs.take xs.length = bs := List.take_of_length_le (by have := hx.1; rw [List.length_map] at this; omega)
      rw [eL] at hk
      rw [hk] at q
      exact q H1 e1
end
end TW
set_option Elab.async false
set_option linter.all false
set_option maxRecDepth 100000
set_option maxHeartbeats 4000000
namespace TW
open PySem PySem.Spec PyProof.Rows L2
section
variable {G H H' : Hp} {l : List (Addr × HO)} {t p : Addr} {u o : HO}
/-- what will not change any more goes to the ground -/
theorem Has.sink (h : Has G H ((t, u) :: l)) : Has (upd G t u) H l := by
  have ht := h.own (t, u) List.mem_cons_self
  have nd := List.nodup_cons.mp (show ((t, u).1 :: l.map (·.1)).Nodup from h.nd)
  refine ⟨fun a o e => ?_, fun q hq => ?_, nd.2⟩
  · by_cases c : a = t
    · rw [c, upd_same] at e
      cases e
      rw [c]
      exact ht.2
    · rw [upd_ne c] at e
      exact h.ex a o e
  · have hq' := h.own q (List.mem_cons_of_mem _ hq)
    refine ⟨?_, hq'.2⟩
    rw [upd_ne (fun c => nd.1 (List.mem_map.mpr ⟨q, hq, c⟩))]
    exact hq'.1
theorem Has.exS (h : Has G H ((t, u) :: l)) : Ex G (upd G t u) := Evl.Ex.new (h.own (t, u) List.mem_cons_self).1
theorem Has.perm {l' : List (Addr × HO)} (h : Has G H l) (s : l.Perm l') : Has G H l' := ⟨h.ex, fun q hq => h.own q (s.mem_iff.mpr hq), (s.map (·.1)).nodup_iff.mp h.nd⟩
theorem Has.swap {q r : Addr × HO} (h : Has G H (q :: r :: l)) : Has G H (r :: q :: l) := h.perm (List.Perm.swap _ _ _)
theorem Has.drop2 {q r : Addr × HO} (h : Has G H (q :: r :: l)) : Has G H (q :: l) := h.sub ((List.sublist_cons_self _ _).cons₂ _)
theorem Has.free (h : Has G H l) {a : Addr} (n : H a = none) : G a = none := Evl.fresh_back h.ex n
end
/-! the draws -/
def WellO (k : Nat) (o : HO) : Prop := ∃ a b c : Int, o = wl a b c ∧ 0 ≤ a ∧ 0 ≤ b ∧ b ≤ k ∧ 0 ≤ c ∧ c < 2 ^ 81
theorem WellO.up {j k : Nat} {o : HO} (h : WellO j o) (e : j ≤ k) : WellO k o := by
  obtain ⟨a, b, c, h1, h2, h3, h4, h5⟩ := h
  exact ⟨a, b, c, h1, h2, h3, by omega, h5⟩
def spDrawsW : Sp := fun vs H Q _ => ∃ c : Int, vs = [.int c] ∧ ∀ p o, H p = none → WellO 0 o → Q (.ref p) (upd H p o)
def spDipW : Sp := fun vs H Q _ => ∃ (p : Addr) (n : Nat) (o : HO) (k : Nat), vs = [.ref p, .int n] ∧ H p = some o ∧ WellO k o ∧ k < 10 ^ 9 ∧ 0 < n ∧ (n : Int) < 2 ^ 200 ∧ ∀ (r : Nat) (o' : HO), r < n → WellO (k + 1) o' → Q (.int r) (upd H p o')
section
variable {P : Program} {w : World} {K : PySem.W.Frag} {mg : Str → Option Value} {base : Heap}
theorem Ok.imp {k : Nat} {x : Str} {ps : List Str} {sp sp' : Sp} (O : Ok P w K mg base k x ps sp) (h : ∀ vs H Q E, sp' vs H Q E → sp vs H Q E) : Ok P w K mg base k x ps sp' := by
  obtain ⟨f, fd, F, r⟩ := O
  exact ⟨f, fd, F.imp h, r⟩
theorem ok_drawsW (O : Ok P w K mg base 1 "_law_draws_of" ["cell"] spDraws) : Ok P w K mg base 1 "_law_draws_of" ["cell"] spDrawsW := O.imp fun vs H Q E h => by
  obtain ⟨c, rfl, q⟩ := h
  exact ⟨c, rfl, fun p hp a b ha hb hc => q p _ hp ⟨a, 0, b, rfl, ha, Int.le_refl _, Int.le_refl _, hb, hc⟩⟩
theorem ok_dipW (O : Ok P w K mg base 1 "_law_dip" ["well", "upto"] spDip) : Ok P w K mg base 1 "_law_dip" ["well", "upto"] spDipW := O.imp fun vs H Q E h => by
  obtain ⟨p, n, o, k, rfl, hp, ⟨a, b, c, rfl, ha, hb, hk, hc, hc'⟩, hk', hn, hn', q⟩ := h
  refine ⟨p, n, a, b, c, rfl, hp, by omega, hn', ha, hb, by omega, hc, hc', fun r a' b' r0 r1 a0 b0 b1 => ?_⟩
  have e : r = ((r.toNat : Nat) : Int) := by omega
  rw [e]
  exact q r.toNat _ (by omega) ⟨a', b', c, rfl, a0, by omega, by omega, hc, hc'⟩
/-! _law_one_sign -/
theorem sc_law_one_sign : FnScope ["well", "wide"] ["well", "wide"] (defScope s__law_one_sign) := ⟨rfl, rfl, rfl, by decide +kernel, rfl, by decide +kernel, by decide +kernel⟩
def spOneSign : Sp := fun vs H Q _ => ∃ (G : Hp) (l : List (Addr × HO)) (p : Addr) (o : HO) (k n : Nat), vs = [.ref p, .int n] ∧ Has G H ((p, o) :: l) ∧ WellO k o ∧ k < 10 ^ 8 ∧ 0 < n ∧ (n : Int) < 2 ^ 200 ∧
  ∀ (G' H' : Hp) (o' : HO) (x : V) (s : Sgn), Ex G G' → Has G' H' ((p, o') :: l) → WellO (k + 2) o' → s.1 < n → At G' x (dSgn s) → Q x H'
theorem ok_one_sign (D : Dfn K mg "_law_one_sign" s__law_one_sign ["well", "wide"]) (O_dip : Ok P w K mg base 1 "_law_dip" ["well", "upto"] spDipW) : Ok P w K mg base 2 "_law_one_sign" ["well", "wide"] spOneSign := D.ok fun f fd F => by
  refine F.ok sc_law_one_sign (fun vs H Q E h => ?_) (fun cdv A outer s H vs Q E hr h => ?_)
  · obtain ⟨G, l, p, o, k, n, rfl, _⟩ := h
    rfl
  · obtain ⟨G, l, p, o, k, n, rfl, S, wo, hk, hn, hn', q⟩ := h
    refine ⟨_, (pss_one (ps_ret (pe_tup (pa_cons (pe_o O_dip hr (pa_cons (pv 0) (pa_cons (pv 1) pa_nil))) (pa_cons (pe_ix ix_list (pe_lst (pa_cons pe_str (pa_cons pe_str pa_nil))) (pe_o O_dip hr (pa_cons (pv 0) (pa_cons pe_int pa_nil))) (fun _ _ => rfl)) pa_nil))))), ?_⟩
    refine ⟨_, rfl, _, rfl, p, n, o, k, rfl, S.get 0 rfl, wo, by omega, hn, hn', fun r o1 hr1 wo1 => ?_⟩
    have S1 : Has G _ ((p, o1) :: l) := S.set 0 rfl
    generalize upd H p o1 = H1 at S1
    refine ⟨sz (by show 2 ≤ 100000; decide), fun t nt => ?_⟩
    have S2 := S1.new (o := .lst [.str "in", .str "out"]) nt
    generalize upd H1 t (.lst [.str "in", .str "out"]) = H2 at S2
    refine ⟨_, rfl, p, 2, o1, k + 1, rfl, S2.get 1 rfl, wo1, by omega, by decide, by decide, fun r2 o2 hr2 wo2 => ?_⟩
    have S3 : Has G _ ((t, .lst [.str "in", .str "out"]) :: (p, o2) :: l) := S2.set 1 rfl
    generalize upd H2 p o2 = H3 at S3
    obtain ⟨b, hb⟩ : ∃ b, atI [V.str "in", V.str "out"] (r2 : Int) = some (.str (sw b)) := by
      have : r2 = 0 ∨ r2 = 1 := by omega
      rcases this with rfl | rfl
      · exact ⟨true, rfl⟩
      · exact ⟨false, rfl⟩
    refine ⟨t, _, r2, _, rfl, rfl, Evl.sq_of (S3.get 0 rfl), hb, sz (by show 2 ≤ 100000; decide), fun u nu => ?_⟩
    have S4 := (S3.tail.new (o := .tup [.int r, .str (sw b)]) nu)
    exact q _ _ o2 _ (r, b) S4.exS S4.sink wo2 hr1 (at_sgn upd_same)
/-! _law_one_bar -/
theorem sc_law_one_bar : FnScope ["well", "wide", "one", "two"] ["well", "wide"] (defScope s__law_one_bar) := ⟨rfl, rfl, rfl, by decide +kernel, rfl, by decide +kernel, by decide +kernel⟩
def barOk (n : Nat) (b : Bar) : Prop := b ≠ [] ∧ b.length ≤ 2 ∧ (∀ s ∈ b, s.1 < n) ∧ b.Pairwise fun s t => s.1 < t.1
def spOneBar : Sp := fun vs H Q _ => ∃ (G : Hp) (l : List (Addr × HO)) (p : Addr) (o : HO) (k n : Nat), vs = [.ref p, .int n] ∧ Has G H ((p, o) :: l) ∧ WellO k o ∧ k < 10 ^ 7 ∧ 0 < n ∧ (n : Int) < 2 ^ 200 ∧
  ∀ (G' H' : Hp) (o' : HO) (x : V) (b : Bar), Ex G G' → Has G' H' ((p, o') :: l) → WellO (k + 5) o' → barOk n b → At G' x (dBar b) → Q x H'
theorem alike_sgn (s t : Sgn) : PySem.W.alike (dSgn s) (dSgn t) = true := by
  unfold dSgn
  simp [PySem.W.alike, PySem.W.alikeAll]
theorem sgn_sort {ds : List Sgn} : PySem.W.AllAlike (ds.map dSgn) ∧ PySem.W.Sortable (ds.map dSgn) := by
  refine ⟨fun d hd d' hd' => ?_, .inl fun d hd => ?_⟩
  · obtain ⟨s, _, rfl⟩ := List.mem_map.mp hd
    obtain ⟨t, _, rfl⟩ := List.mem_map.mp hd'
    exact alike_sgn s t
  · obtain ⟨s, _, rfl⟩ := List.mem_map.mp hd
    exact ⟨_, _, rfl⟩
theorem perm_back {α β : Type} {f : α → β} : ∀ {m : List α} {l : List β}, l.Perm (m.map f) → ∃ m' : List α, m'.Perm m ∧ l = m'.map f
  | [], l, h => ⟨[], List.Perm.refl _, h.eq_nil⟩
  | a :: m, l, h => by
    obtain ⟨l1, l2, rfl⟩ := List.append_of_mem (h.mem_iff.mpr (show f a ∈ (a :: m).map f from List.mem_cons_self))
    have h2 : (f a :: (l1 ++ l2)).Perm (f a :: m.map f) := (List.perm_middle (a := f a) (l₁ := l1) (l₂ := l2)).symm.trans h
    obtain ⟨m', pm, e⟩ := perm_back h2.cons_inv
    obtain ⟨m1, m2, rfl, rfl, rfl⟩ := List.map_eq_append_iff.mp e.symm
    exact ⟨m1 ++ a :: m2, List.perm_middle.trans (pm.cons a), by rw [List.map_append, List.map_cons]⟩
theorem dep_sgn (s : Sgn) : (dSgn s).depth ≤ 1 := by
  unfold dSgn
  simp [PyData.depth, PyData.depthAll]
theorem sgn_lt {s t : Sgn} (h : PySem.W.dataLt (dSgn t) (dSgn s) = false) (n : s.1 ≠ t.1) : s.1 < t.1 := by
  refine Nat.lt_of_le_of_ne (Nat.le_of_not_lt fun c => ?_) n
  have e : PySem.W.dataLt (dSgn t) (dSgn s) = true := by
    show PyProof.Rows.lexLt PyProof.Rows.itemOrd (Sum.inl 1 :: (Sum.inl (t.1 : Int) :: _)) (Sum.inl 1 :: (Sum.inl (s.1 : Int) :: _)) = true
    rw [PyProof.Rows.lex_self, PyProof.Rows.lex_diff (O := PyProof.Rows.itemOrd) (fun e => by
      have := Sum.inl.inj e
      omega)]
    show decide ((t.1 : Int) < (s.1 : Int)) = true
    exact decide_eq_true (by omega)
  rw [e] at h
  cases h
theorem ok_one_bar (D : Dfn K mg "_law_one_bar" s__law_one_bar ["well", "wide"]) (z : Z mg) (O_dip : Ok P w K mg base 1 "_law_dip" ["well", "upto"] spDipW) (O_one_sign : Ok P w K mg base 2 "_law_one_sign" ["well", "wide"] spOneSign) : Ok P w K mg base 3 "_law_one_bar" ["well", "wide"] spOneBar := D.ok fun f fd F => by
  refine F.ok sc_law_one_bar (fun vs H Q E h => ?_) (fun cdv A outer s H vs Q E hr h => ?_)
  · obtain ⟨G, l, p, o, k, n, rfl, _⟩ := h
    rfl
  · obtain ⟨G, l, p, o, k, n, rfl, S, wo, hk, hn, hn', q⟩ := h
    refine ⟨_, (pss_cons (ps_set (i := 2) sc_law_one_bar.nd rfl (Or.inl rfl) (pe_o O_one_sign hr (pa_cons (pv 0) (pa_cons (pv 1) pa_nil))))
      (pss_cons (ps_set (i := 3) sc_law_one_bar.nd rfl (Or.inl rfl) (pe_o O_one_sign hr (pa_cons (pv 0) (pa_cons (pv 1) pa_nil))))
      (pss_cons (ps_if (PW.pt (pw_or (pt_cmpR op_eq (pe_ix ix_tup (pv 2) pe_int (fun _ _ => rfl)) (pe_ix ix_tup (pv 3) pe_int (fun _ _ => rfl)) (nomark _)) (pw_or1 (pt_cmpR op_eq (pe_o O_dip (hr.mono (by decide)) (pa_cons (pv 0) (pa_cons pe_int pa_nil))) pe_int (nomark _))))) (pss_one (ps_ret (pe_tup (pa_cons (pv 2) pa_nil)))) pss_nil)
      (pss_one (ps_ret (pe_callTy call_tuple_of (by rfl) z.tuple (by decide +kernel) (pa_cons (pe_callB (cr_sortE (K := K) hr.units) (by rfl) z.sorted (by decide +kernel) (pa_cons (pe_lst (pa_cons (pv 2) (pa_cons (pv 3) pa_nil))) pa_nil)) pa_nil))))))), ?_⟩
    refine ⟨_, rfl, _, rfl, G, l, p, o, k, n, rfl, S, wo, by omega, hn, hn', fun G1 H1 o1 x1 s1 e1 S1 wo1 hs1 a1 => ?_⟩
    refine ⟨_, rfl, _, rfl, G1, l, p, o1, k + 2, n, rfl, S1, wo1, by omega, hn, hn', fun G2 H2 o2 x2 s2 e2 S2 wo2 hs2 a2 => ?_⟩
    have a12 := a1.ex e2
    obtain ⟨t1, rfl, h1⟩ := a12.sgn
    obtain ⟨t2, rfl, h2⟩ := a2.sgn
    refine ⟨_, rfl, t1, _, 0, .int s1.1, rfl, rfl, Evl.st_of (S2.ex _ _ h1), rfl, _, rfl, t2, _, 0, .int s2.1, rfl, rfl, Evl.st_of (S2.ex _ _ h2), rfl, rfl, _, rfl, ?_⟩
    have one : ∀ H3 o3, Has G2 H3 ((p, o3) :: l) → WellO (k + 5) o3 → sizeLine ≥ 1 ∧ ∀ u, H3 u = none → Q (.ref u) (upd H3 u (.tup [.ref t1])) := fun H3 o3 S3 wo3 => by
      refine ⟨sz (by decide), fun u nu => ?_⟩
      have S4 := S3.new (o := .tup [.ref t1]) nu
      refine q _ _ o3 _ [s1] ((e1.trans e2).trans S4.exS) S4.sink wo3 ⟨List.cons_ne_nil _ _, by show 1 ≤ 2; decide, fun s hs => ?_, List.pairwise_singleton _ _⟩ (At.mkT upd_same (.cons (a12.ex S4.exS) .nil))
      rw [List.mem_singleton.mp hs]
      exact hs1
    refine ite2 (fun hc => ?_) (fun hc => ?_)
    · have := one H2 o2 S2 (wo2.up (by omega))
      exact ⟨_, rfl, this.1, this.2⟩
    · refine ⟨_, rfl, p, 6, o2, k + 2 + 2, rfl, S2.get 0 rfl, wo2, by omega, by decide, by decide, fun r o3 hr3 wo3 => ?_⟩
      have S3 : Has G2 _ ((p, o3) :: l) := S2.set 0 rfl
      generalize upd H2 p o3 = H3 at S3
      refine ⟨rfl, _, rfl, ?_⟩
      refine ite2 (fun hc2 => ?_) (fun hc2 => ?_)
      · have := one H3 o3 S3 wo3
        exact ⟨_, rfl, this.1, this.2⟩
      · refine ⟨_, rfl, _, rfl, sz (by show 2 ≤ 100000; decide), fun u nu => ?_⟩
        have S4 := S3.new (o := .lst [.ref t1, .ref t2]) nu
        generalize upd H3 u (.lst [.ref t1, .ref t2]) = H4 at S4
        have as12 : ∀ b ∈ [(V.ref t1, dSgn s1), (V.ref t2, dSgn s2)], At G2 b.1 b.2 := fun b hb => by
          simp only [List.mem_cons, List.not_mem_nil, or_false] at hb
          rcases hb with rfl | rfl
          · exact a12
          · exact a2
        refine ⟨u, [(V.ref t1, dSgn s1), (V.ref t2, dSgn s2)], rfl, Evl.sq_of (S4.get 0 rfl), fun b hb => ((as12 b hb).ex S4.ex).dp, .inl (sgn_sort (ds := [s1, s2])), fun b hb => ?_, fun v nv => ?_⟩
        · simp only [List.mem_cons, List.not_mem_nil, or_false] at hb
          rcases hb with rfl | rfl <;> exact Nat.le_trans (dep_sgn _) (by decide)
        · generalize hL : List.mergeSort [(V.ref t1, dSgn s1), (V.ref t2, dSgn s2)] (PySem.W.dataLe false (·.2)) = L
          have S5 := S4.tail.new (o := .lst (L.map (·.1))) nv
          generalize upd H4 v (.lst (L.map (·.1))) = H5 at S5
          refine ⟨v, _, rfl, .inl ⟨Evl.sq_of (S5.get 0 rfl), fun y ny => ?_⟩⟩
          have S6 := S5.tail.new (o := .tup (L.map (·.1))) ny
          have pm : L.Perm [(V.ref t1, dSgn s1), (V.ref t2, dSgn s2)] := by
            rw [← hL]
            exact List.mergeSort_perm _ _
          obtain ⟨b, hb, hb2⟩ : ∃ b : Bar, L.map (·.2) = b.map dSgn ∧ b.Perm [s1, s2] := by
            obtain ⟨b, hb, e⟩ := perm_back (f := dSgn) (m := [s1, s2]) (pm.map (·.2))
            exact ⟨b, e, hb⟩
          refine q _ _ o3 _ b ((e1.trans e2).trans S6.exS) S6.sink wo3 ⟨?_, ?_, fun s hs => ?_, ?_⟩ (At.mkT upd_same ?_)
          · intro e
            rw [e] at hb2
            cases hb2.length_eq
          · rw [hb2.length_eq]
            show 2 ≤ 2
            decide
          · have := hb2.mem_iff.mp hs
            simp only [List.mem_cons, List.not_mem_nil, or_false] at this
            rcases this with rfl | rfl
            · exact hs1
            · exact hs2
          · have n12 : s1.1 ≠ s2.1 := fun e => hc (decide_eq_true (by rw [e]))
            have pw : L.Pairwise (fun x y => PySem.W.dataLt y.2 x.2 = false) := by
              rw [← hL]
              exact dataLe_pw _
            have pw2 : (b.map dSgn).Pairwise (fun x y => PySem.W.dataLt y x = false) := by
              rw [← hb, List.pairwise_map]
              exact pw
            rw [List.pairwise_map] at pw2
            have ne2 : b.Pairwise (fun s t => s.1 ≠ t.1) := hb2.pairwise_iff (fun h => Ne.symm h) |>.mpr (List.pairwise_cons.mpr ⟨fun t ht => by rw [List.mem_singleton.mp ht]; exact n12, List.pairwise_singleton _ _⟩)
            exact List.Pairwise.imp₂ (fun s t h1 h2 => sgn_lt h1 h2) pw2 ne2
          · rw [← hb]
            exact Ats.map_ fun b hb => (as12 b (pm.mem_iff.mp hb)).ex S6.exS
end
end TW
set_option Elab.async false
set_option linter.all false
set_option maxRecDepth 100000
set_option maxHeartbeats 4000000
namespace TW
open PySem PySem.Spec PyProof.Rows L2
section
variable {P : Program} {w : World} {K : PySem.W.Frag} {mg : Str → Option Value} {base : Heap}
/-! _law_some_bars -/
theorem sc_law_some_bars : FnScope ["well", "wide", "most", "k"] ["well", "wide", "most"] (defScope s__law_some_bars) := ⟨rfl, rfl, rfl, by decide +kernel, rfl, by decide +kernel, by decide +kernel⟩
def spSomeBars : Sp := fun vs H Q _ => ∃ (G : Hp) (l : List (Addr × HO)) (p : Addr) (o : HO) (k n most : Nat), vs = [.ref p, .int n, .int most] ∧ Has G H ((p, o) :: l) ∧ WellO k o ∧ k < 10 ^ 6 ∧ 0 < n ∧ (n : Int) < 2 ^ 200 ∧ most ≤ 100 ∧
  ∀ (G' H' : Hp) (o' : HO) (x : V) (bs : List Bar), Ex G G' → Has G' H' ((p, o') :: l) → WellO (k + 501) o' → (∀ b ∈ bs, barOk n b) → bs.length ≤ most → At G' x (dBars bs) → Q x H'
theorem ok_some_bars (D : Dfn K mg "_law_some_bars" s__law_some_bars ["well", "wide", "most"]) (z : Z mg) (O_dip : Ok P w K mg base 1 "_law_dip" ["well", "upto"] spDipW) (O_one_bar : Ok P w K mg base 3 "_law_one_bar" ["well", "wide"] spOneBar) : Ok P w K mg base 4 "_law_some_bars" ["well", "wide", "most"] spSomeBars := D.ok fun f fd F => by
  refine F.ok sc_law_some_bars (fun vs H Q E h => ?_) (fun cdv A outer s H vs Q E hr h => ?_)
  · obtain ⟨G, l, p, o, k, n, most, rfl, _⟩ := h
    rfl
  · obtain ⟨G, l, p, o, k, n, most, rfl, S, wo, hk, hn, hn', hm, q⟩ := h
    refine ⟨_, (pss_one (ps_ret (pe_lc (own := [("k", 3)]) (g := gName 3) rfl sc_law_some_bars.nd (pi_range1 (by rfl) z.range (pa_cons (pe_o O_dip (hr.mono (by decide)) (pa_cons (pv 0) (pa_cons (pe_op op_add (pv 2) pe_int) pa_nil))) pa_nil)) (blkOk_by (N := ["well", "wide", "most", "k"]) (own := [("k", 3)]) (sc := defScope s__law_some_bars) (by decide +kernel)) (fun _ _ _ _ _ => pg_name (i := 3) sc_law_some_bars.nd rfl (Or.inl rfl)) (fun _ _ _ _ _ => pts_nil) (fun _ _ _ _ _ => (pe_o O_one_bar hr (pa_cons (pv 0) (pa_cons (pv 1) pa_nil))))))), ?_⟩
    refine ⟨_, rfl, _, rfl, _, _, rfl, rfl, p, most + 1, o, k, rfl, S.get 0 rfl, wo, by omega, by omega, by omega, fun r o1 hr1 wo1 => ?_⟩
    have S1 : Has G _ ((p, o1) :: l) := S.set 0 rfl
    generalize upd H p o1 = H1 at S1
    refine ⟨r, rfl, by omega, by omega, fun Dl hD => ?_⟩
    rw [show ((r : Nat) : Int).toNat = r by omega]
    refine lc_range (lo := 0) (n := r) (fun i H' => ∃ (G' : Hp) (o' : HO) (xs : List V) (bs : List Bar), Ex G G' ∧ Has G' H' ((p, o') :: (Dl, .lst xs) :: l) ∧ WellO (k + 1 + 5 * i) o' ∧ bs.length = i ∧ (∀ b ∈ bs, barOk n b) ∧ Ats G' xs (bs.map dBar)) ⟨G, o1, [], [], Evl.Ex.refl G, (S1.new hD).swap, wo1, rfl, fun b hb => absurd hb List.not_mem_nil, .nil⟩ ?_ ?_
    · rintro i H2 hi ⟨G2, o2, xs, bs, e2, S2, wo2, hl, hb, ha⟩
      refine ⟨rfl, _, rfl, _, rfl, G2, (Dl, .lst xs) :: l, p, o2, k + 1 + 5 * i, n, rfl, S2, wo2, by omega, hn, hn', fun G3 H3 o3 x b e3 S3 wo3 hb3 ax => ?_⟩
      have lx : xs.length = i := by rw [ha.1, List.length_map, hl]
      refine ⟨xs, S3.get 1 rfl, szl (by omega), G3, o3, xs ++ [x], bs ++ [b], e2.trans e3, S3.set 1 rfl, wo3, by rw [List.length_append, hl]; rfl, fun c hc => ?_, ?_⟩
      · rcases List.mem_append.mp hc with h | h
        · exact hb c h
        · rw [List.mem_singleton.mp h]
          exact hb3
      · rw [List.map_append]
        exact (ha.ex e3).snoc ax
    · rintro H2 ⟨G2, o2, xs, bs, e2, S2, wo2, hl, hb, ha⟩
      have S3 := S2.swap
      exact q _ _ o2 _ bs (e2.trans S3.exS) S3.sink (wo2.up (by omega)) hb (by omega) (At.mkL upd_same (ha.ex S3.exS))
/-! _law_width -/
theorem sc_law_width : FnScope ["well"] ["well"] (defScope s__law_width) := ⟨rfl, rfl, rfl, by decide +kernel, rfl, by decide +kernel, by decide +kernel⟩
def spWidth : Sp := fun vs H Q _ => ∃ (G : Hp) (l : List (Addr × HO)) (p : Addr) (o : HO) (k : Nat), vs = [.ref p] ∧ Has G H ((p, o) :: l) ∧ WellO k o ∧ k < 10 ^ 8 ∧
  ∀ (H' : Hp) (o' : HO) (n : Nat), Has G H' ((p, o') :: l) → WellO (k + 1) o' → 0 < n → n ≤ 6 → Q (.int n) H'
theorem ok_width (D : Dfn K mg "_law_width" s__law_width ["well"]) (O_dip : Ok P w K mg base 1 "_law_dip" ["well", "upto"] spDipW) : Ok P w K mg base 2 "_law_width" ["well"] spWidth := D.ok fun f fd F => by
  refine F.ok sc_law_width (fun vs H Q E h => ?_) (fun cdv A outer s H vs Q E hr h => ?_)
  · obtain ⟨G, l, p, o, k, rfl, _⟩ := h
    rfl
  · obtain ⟨G, l, p, o, k, rfl, S, wo, hk, q⟩ := h
    refine ⟨_, (pss_one (ps_ret (pe_ix ix_list (pe_lst (pa_cons pe_int (pa_cons pe_int (pa_cons pe_int (pa_cons pe_int (pa_cons pe_int (pa_cons pe_int (pa_cons pe_int (pa_cons pe_int (pa_cons pe_int (pa_cons pe_int (pa_cons pe_int (pa_cons pe_int pa_nil))))))))))))) (pe_o O_dip hr (pa_cons (pv 0) (pa_cons pe_int pa_nil))) (fun _ _ => rfl)))), ?_⟩
    refine ⟨sz (by show 12 ≤ 100000; decide), fun t nt => ?_⟩
    generalize hL : ([V.int 1, V.int 2, V.int 2, V.int 3, V.int 3, V.int 3, V.int 4, V.int 4, V.int 4, V.int 5, V.int 5, V.int 6] : List V) = L
    have S1 := S.new (o := .lst L) nt
    generalize upd H t (.lst L) = H1 at S1
    refine ⟨_, rfl, p, 12, o, k, rfl, S1.get 1 rfl, wo, by omega, by decide, by decide, fun r o1 hr1 wo1 => ?_⟩
    have S2 : Has G _ ((t, .lst L) :: (p, o1) :: l) := S1.set 1 rfl
    obtain ⟨n, hat, h1, h2⟩ : ∃ n : Nat, atI L (r : Int) = some (.int n) ∧ 0 < n ∧ n ≤ 6 := by
      rw [← hL]
      have : r = 0 ∨ r = 1 ∨ r = 2 ∨ r = 3 ∨ r = 4 ∨ r = 5 ∨ r = 6 ∨ r = 7 ∨ r = 8 ∨ r = 9 ∨ r = 10 ∨ r = 11 := by omega
      rcases this with rfl | rfl | rfl | rfl | rfl | rfl | rfl | rfl | rfl | rfl | rfl | rfl
      · exact ⟨1, rfl, by decide, by decide⟩
      · exact ⟨2, rfl, by decide, by decide⟩
      · exact ⟨2, rfl, by decide, by decide⟩
      · exact ⟨3, rfl, by decide, by decide⟩
      · exact ⟨3, rfl, by decide, by decide⟩
      · exact ⟨3, rfl, by decide, by decide⟩
      · exact ⟨4, rfl, by decide, by decide⟩
      · exact ⟨4, rfl, by decide, by decide⟩
      · exact ⟨4, rfl, by decide, by decide⟩
      · exact ⟨5, rfl, by decide, by decide⟩
      · exact ⟨5, rfl, by decide, by decide⟩
      · exact ⟨6, rfl, by decide, by decide⟩
    exact ⟨t, _, r, _, rfl, rfl, Evl.sq_of (S2.get 0 rfl), hat, q _ o1 n S2.tail wo1 h1 h2⟩
/-! _law_lot_of -/
theorem sc_law_lot_of : FnScope ["mask", "wide", "k"] ["mask", "wide"] (defScope s__law_lot_of) := ⟨rfl, rfl, rfl, by decide +kernel, rfl, by decide +kernel, by decide +kernel⟩
def spLotOf : Sp := fun vs H Q _ => ∃ (m : Int) (n : Nat), vs = [.int m, .int n] ∧ n ≤ 1000 ∧ ∀ (t : Addr) (H' : Hp), H t = none → Ex H H' → H' t = some (.tup ((lotOf m n).map V.int)) → Q (.ref t) H'
theorem lot_up (m : Int) (n : Nat) : lotOf m (n + 1) = lotOf m n ++ (if bitB m n = true then [(n : Int)] else []) := by
  unfold lotOf
  rw [List.range_succ, List.filter_append, List.map_append]
  cases h : bitB m n with
  | true => rw [List.filter_cons, if_pos h]; rfl
  | false => rw [List.filter_cons, if_neg (by rw [h]; decide)]; rfl
theorem lot_len (m : Int) (n : Nat) : (lotOf m n).length ≤ n := by
  unfold lotOf
  rw [List.length_map]
  exact Nat.le_trans (List.length_filter_le _ _) (by rw [List.length_range]; exact Nat.le_refl _)
theorem bit_eq (m : Int) (k : Nat) : decide (V.int (m / 2 ^ k % 2 ^ 1) = V.int 1) = bitB m k := by
  unfold bitB
  rw [Int.pow_one]
  by_cases h : m / 2 ^ k % 2 = 1
  · rw [h]
    rfl
  · rw [decide_eq_false h, decide_eq_false]
    intro e
    exact h (V.int.inj e)
theorem ok_lot_of (D : Dfn K mg "_law_lot_of" s__law_lot_of ["mask", "wide"]) (z : Z mg) : Ok P w K mg base 1 "_law_lot_of" ["mask", "wide"] spLotOf := D.ok fun f fd F => by
  refine F.ok sc_law_lot_of (fun vs H Q E h => ?_) (fun cdv A outer s H vs Q E hr h => ?_)
  · obtain ⟨m, n, rfl, _⟩ := h
    rfl
  · obtain ⟨m, n, rfl, hn, q⟩ := h
    refine ⟨_, (pss_one (ps_ret (pe_callTy call_tuple_of (by rfl) z.tuple (by decide +kernel) (pa_cons (pe_lc (own := [("k", 2)]) (g := gName 2) rfl sc_law_lot_of.nd (pi_range1 (by rfl) z.range (pa_cons (pv 1) pa_nil)) (blkOk_by (N := ["mask", "wide", "k"]) (own := [("k", 2)]) (sc := defScope s__law_lot_of) (by decide +kernel)) (fun _ _ _ _ _ => pg_name (i := 2) sc_law_lot_of.nd rfl (Or.inl rfl)) (fun _ _ _ _ _ => pts_one (pt_cmpR op_eq (pe_op op_andM (pe_op op_shrN (pv 0) (pv 2)) pe_int) pe_int (nomark _))) (fun _ _ _ _ _ => (pv 2))) pa_nil)))), ?_⟩
    refine ⟨_, rfl, n, rfl, by omega, by omega, fun Dl hD => ?_⟩
    rw [show ((n : Nat) : Int).toNat = n by omega]
    refine lc_range (lo := 0) (n := n) (fun i H' => Ex H H' ∧ H' Dl = some (.lst ((lotOf m i).map V.int))) ⟨Evl.Ex.new hD, by rw [upd_same]; rfl⟩ ?_ ?_
    · rintro i H1 hi ⟨e1, h1⟩
      have ez : (0 : Int) + (i : Int) = ((i : Nat) : Int) := Int.zero_add _
      rw [ez]
      refine ⟨rfl, _, rfl, _, rfl, m, i, rfl, rfl, _, 1, rfl, rfl, rfl, _, rfl, ?_⟩
      have goal : ∀ b, bitB m i = b → (if b = true then tVar 2 (List.set (wipe (L2.start ["mask", "wide", "k"] [V.int m, V.int n]) [2]) 2 (some (V.int (i : Int)))) H1 fun y H4 => ∃ acc, H4 Dl = some (.lst acc) ∧ acc.length < sizeLine ∧ (Ex H (upd H4 Dl (.lst (acc ++ [y]))) ∧ (upd H4 Dl (.lst (acc ++ [y]))) Dl = some (.lst ((lotOf m (i + 1)).map V.int))) else (Ex H H1 ∧ H1 Dl = some (.lst ((lotOf m (i + 1)).map V.int)))) := fun b hb => by
        cases b with
        | true =>
          refine ⟨_, rfl, _, h1, szl (by rw [List.length_map]; have := lot_len m i; omega), Evl.Ex.mut e1 hD, ?_⟩
          rw [upd_same, lot_up, if_pos hb, List.map_append]
          rfl
        | false =>
          refine ⟨e1, ?_⟩
          rw [lot_up, if_neg (by rw [hb]; decide), List.append_nil]
          exact h1
      exact goal _ (bit_eq m i).symm
    · rintro H1 ⟨e1, h1⟩
      exact ⟨Dl, _, rfl, .inl ⟨Evl.sq_of h1, fun t nt => q t _ (Evl.fresh_back e1 nt) (e1.trans (Evl.Ex.new nt)) upd_same⟩⟩
/-! _law_mixed -/
theorem sc_law_mixed : FnScope ["well", "row", "rest", "out", "k"] ["well", "row"] (defScope s__law_mixed) := ⟨rfl, rfl, rfl, by decide +kernel, rfl, by decide +kernel, by decide +kernel⟩
def spMixed (K : PySem.W.Frag) : Sp := fun vs H Q _ => ∃ (G : Hp) (l : List (Addr × HO)) (p a : Addr) (o : HO) (k : Nat) (xs : List V), vs = [.ref p, .ref a] ∧ Has G H ((p, o) :: l) ∧ WellO k o ∧ k < 10 ^ 7 ∧ SqL K H a xs ∧ a ≠ p ∧ xs.length ≤ 1000 ∧
  ∀ (H' : Hp) (o' : HO) (t : Addr) (ys : List V), Has G H' ((t, .lst ys) :: (p, o') :: l) → WellO (k + 1000) o' → ys.Perm xs → Q (.ref t) H'
theorem perm_erase {α : Type} : ∀ {l : List α} {i : Nat} {x : α}, l[i]? = some x → (x :: l.eraseIdx i).Perm l
  | [], _, _, h => by cases h
  | y :: l, 0, x, h => by
    cases h
    exact List.Perm.refl _
  | y :: l, i + 1, x, h => (List.Perm.swap _ _ _).trans ((perm_erase (l := l) (i := i) h).cons y)
theorem ok_mixed (D : Dfn K mg "_law_mixed" s__law_mixed ["well", "row"]) (z : Z mg) (O_dip : Ok P w K mg base 1 "_law_dip" ["well", "upto"] spDipW) : Ok P w K mg base 2 "_law_mixed" ["well", "row"] (spMixed K) := D.ok fun f fd F => by
  refine F.ok sc_law_mixed (fun vs H Q E h => ?_) (fun cdv A outer s H vs Q E hr h => ?_)
  · obtain ⟨G, l, p, a, o, k, xs, rfl, _⟩ := h
    rfl
  · obtain ⟨G, l, p, a, o, k, xs, rfl, S, wo, hk, hs, nap, hl, q⟩ := h
    refine ⟨_, (pss_cons (ps_set (i := 2) sc_law_mixed.nd rfl (Or.inl rfl) (pe_callTy call_list_of (by rfl) z.list (by decide +kernel) (pa_cons (pv 1) pa_nil)))
      (pss_cons (ps_set (i := 3) sc_law_mixed.nd rfl (Or.inl rfl) (pe_lst pa_nil))
      (pss_cons (ps_for PassesOwn.never rfl (pi_range1 (by rfl) z.range (pa_cons (pe_callB call_len_seq (by rfl) z.len PySem.boot_len (pa_cons (pv 1) pa_nil)) pa_nil)) (pg_name (i := 4) sc_law_mixed.nd rfl (Or.inl rfl))
      (pss_one (ps_expr (pe_bm PySem.F.plainAttrs_list PySem.F.slot_list_append PySem.F.type_list_append mt_append (pv 3) (pa_cons (pe_bm PySem.F.plainAttrs_list PySem.F.slot_list_pop PySem.F.type_list_pop mt_popAt (pv 2) (pa_cons (pe_o O_dip hr (pa_cons (pv 0) (pa_cons (pe_callB call_len_seq (by rfl) z.len PySem.boot_len (pa_cons (pv 2) pa_nil)) pa_nil))) pa_nil)) pa_nil)))))
      (pss_one (ps_ret (pv 3)))))), ?_⟩
    refine ⟨_, rfl, a, xs, rfl, .inl hs, fun t nt => ?_⟩
    have e1 : Ex H (upd H t (.lst xs)) := Evl.Ex.new nt
    have S1 := S.new (o := .lst xs) nt
    generalize upd H t (.lst xs) = H1 at S1 e1
    refine ⟨sz (by show 0 ≤ 100000; decide), fun u nu => ?_⟩
    have e2 := e1.trans (Evl.Ex.new (o := .lst []) nu)
    have S2 := S1.new (o := .lst []) nu
    generalize upd H1 u (.lst []) = H2 at S2 e2
    refine ⟨_, rfl, a, xs, rfl, .inl (Evl.ex_l e2 hs), _, rfl, by omega, by omega, ?_⟩
    rw [show ((xs.length : Nat) : Int).toNat = xs.length by omega]
    refine for_range (lo := 0) (n := xs.length) (fun i σ H' => ∃ (v4 : Option V) (o' : HO) (rs os : List V), σ = [some (.ref p), some (.ref a), some (.ref t), some (.ref u), v4] ∧ Has G H' ((u, .lst os) :: (t, .lst rs) :: (p, o') :: l) ∧ WellO (k + i) o' ∧ (os ++ rs).Perm xs ∧ os.length = i) ⟨none, o, xs, [], rfl, S2, wo, List.Perm.refl _, rfl⟩ ?_ ?_
    · rintro i σ H3 hi ⟨v4, o3, rs, os, rfl, S3, wo3, pm, lo⟩
      have lr : rs.length = xs.length - i := by
        have := pm.length_eq
        rw [List.length_append] at this
        omega
      refine ⟨_, rfl, .inl ⟨rfl, _, Evl.sq_of (S3.get 0 rfl)⟩, _, rfl, .inl ⟨rfl, _, Evl.sq_of (S3.get 1 rfl)⟩, _, rfl, _, rfl, t, rs, rfl, .inl (Evl.sq_of (S3.get 1 rfl)), p, rs.length, o3, k + i, rfl, S3.get 2 rfl, wo3, by omega, by omega, by omega, fun r o4 hr4 wo4 => ?_⟩
      have S4 : Has G _ ((u, .lst os) :: (t, .lst rs) :: (p, o4) :: l) := S3.set 2 rfl
      generalize upd H3 p o4 = H4 at S4
      have hg : rs[r]? = some rs[r] := List.getElem?_eq_getElem hr4
      refine ⟨t, rs, ((r : Nat) : Int), r, rs[r], rfl, rfl, S4.get 1 rfl, by omega, by omega, ?_, hg, ?_⟩
      · rw [show ((rs.length : Nat) : Nat) = rs.length from rfl]
        exact (PyProof.Rows.seqIndex_at (by omega) (by omega)).trans (by rw [Int.toNat_natCast])
      have S5 : Has G _ ((u, .lst os) :: (t, .lst (rs.eraseIdx r)) :: (p, o4) :: l) := S4.set 1 rfl
      generalize upd H4 t (.lst (rs.eraseIdx r)) = H5 at S5
      refine ⟨u, os, _, rfl, rfl, S5.get 0 rfl, szl (by omega), some (.int (0 + (i : Int))), o4, rs.eraseIdx r, os ++ [rs[r]], rfl, S5.set 0 rfl, wo4, ?_, by rw [List.length_append, lo]; rfl⟩
      rw [List.append_assoc]
      exact ((perm_erase hg).append_left os).trans pm
    · rintro σ H3 ⟨v4, o3, rs, os, rfl, S3, wo3, pm, lo⟩
      have lr : rs = [] := by
        have := pm.length_eq
        rw [List.length_append] at this
        exact List.length_eq_zero_iff.mp (by omega)
      subst lr
      rw [List.append_nil] at pm
      refine ⟨_, rfl, ?_⟩
      exact q _ o3 u os S3.drop2 (wo3.up (by omega)) pm
end
end TW
set_option Elab.async false
set_option linter.all false
set_option maxRecDepth 100000
set_option maxHeartbeats 4000000
namespace TW
open PySem PySem.Spec PyProof.Rows L2
theorem lay_ints : ∀ ns : List Int, PyData.canLayAll0 (ns.map .int) = true
  | [] => rfl
  | n :: ns => by
    show (PyData.canLay0 (.int n) && PyData.canLayAll0 (ns.map .int)) = true
    rw [lay_ints ns]
    rfl
theorem shaped_ints (ns : List Int) : SeqAt.shaped (.list (ns.map .int)) = true := by
  unfold SeqAt.shaped
  rw [Bool.and_eq_true, decide_eq_true_eq]
  refine ⟨lay_ints ns, ?_⟩
  have := depth_tupD ns
  unfold tupD at this
  have e : (PyData.list (ns.map .int)).depth = (PyData.tuple (ns.map .int)).depth := by simp [PyData.depth]
  rw [e]
  omega
theorem eqv_nil (ns : List Int) : PyData.eqv (.list (ns.map .int)) (.list []) = decide (ns = []) := by
  cases ns with
  | nil => rfl
  | cons n ns => simp [PyData.eqv, PyData.eqvAll]
def masksOk (n : Nat) (ms : List Int) : Prop := Up ms ∧ ms ≠ [] ∧ ∀ m ∈ ms, 0 ≤ m ∧ m < 2 ^ n
section
variable {P : Program} {w : World} {K : PySem.W.Frag} {mg : Str → Option Value} {base : Heap}
theorem sc_law_some_masks : FnScope ["well", "wide", "manner", "row", "k", "bars", "spare", "mask"] ["well", "wide"] (defScope s__law_some_masks) := ⟨rfl, rfl, rfl, by decide +kernel, rfl, by decide +kernel, by decide +kernel⟩
def spSomeMasks : Sp := fun vs H Q _ => ∃ (G : Hp) (l : List (Addr × HO)) (p : Addr) (o : HO) (k n : Nat), vs = [.ref p, .int n] ∧ Has G H ((p, o) :: l) ∧ WellO k o ∧ k < 10 ^ 5 ∧ 0 < n ∧ n ≤ 6 ∧
  ∀ (G' H' : Hp) (o' : HO) (t : Addr) (ms : List Int), Ex G G' → Has G' H' ((t, .lst (ms.map V.int)) :: (p, o') :: l) → WellO (k + 1000) o' → masksOk n ms → Q (.ref t) H'
theorem sort_up {ns ns' : List Int} (pm : ns'.Perm ns) (h : ns'.Pairwise (· ≤ ·)) (nd : ns.Nodup) : Up ns' := up_of_le h (pm.nodup_iff.mpr nd)
def rangeI (n : Nat) : List Int := (List.range n).map fun k : Nat => (k : Int)
theorem rangeI_up (n : Nat) : Up (rangeI n) := by
  unfold rangeI Up
  rw [List.pairwise_map]
  exact List.pairwise_lt_range.imp fun h => by omega
theorem rangeI_mem {n : Nat} {x : Int} : x ∈ rangeI n ↔ 0 ≤ x ∧ x < n := by
  unfold rangeI
  rw [List.mem_map]
  constructor
  · rintro ⟨k, hk, rfl⟩
    have := List.mem_range.mp hk
    omega
  · rintro ⟨h1, h2⟩
    exact ⟨x.toNat, List.mem_range.mpr (by omega), by omega⟩
theorem rangeI_get {n i : Nat} (h : i < n) : (rangeI n)[i]? = some (i : Int) := by
  unfold rangeI
  rw [List.getElem?_map, List.getElem?_range h]
  rfl
theorem pow_small {n : Nat} (h0 : 0 < n) (h : n ≤ 6) : ∃ b : Nat, (1 : Int) * 2 ^ n = (b : Int) ∧ b = 2 ^ n ∧ 0 < b ∧ b ≤ 64 := by
  have : n = 1 ∨ n = 2 ∨ n = 3 ∨ n = 4 ∨ n = 5 ∨ n = 6 := by omega
  rcases this with rfl | rfl | rfl | rfl | rfl | rfl
  · exact ⟨2, rfl, rfl, by decide, by decide⟩
  · exact ⟨4, rfl, rfl, by decide, by decide⟩
  · exact ⟨8, rfl, rfl, by decide, by decide⟩
  · exact ⟨16, rfl, rfl, by decide, by decide⟩
  · exact ⟨32, rfl, rfl, by decide, by decide⟩
  · exact ⟨64, rfl, rfl, by decide, by decide⟩
theorem shl_ok {n : Nat} (h : n ≤ 6) : CShl 1 (n : Int) := ⟨by omega, by
  have : Builtin.Int.intBits 1 = 1 := by decide +kernel
  rw [this]
  omega⟩
theorem masks_tail {n : Nat} {ns ns' : List Int} (pm : ns'.Perm ns) (h : ns'.Pairwise (· ≤ ·)) (nd : ns.Nodup) (ne : ns ≠ []) (hb : ∀ m ∈ ns, 0 ≤ m ∧ m < 2 ^ n) : masksOk n ns' :=
  ⟨sort_up pm h nd, fun e => ne (by rw [e] at pm; exact pm.symm.eq_nil), fun m hm => hb m (pm.mem_iff.mp hm)⟩
theorem PE.imp {X : Cx} {e : Expr} {t t' : TE} (h : PE X e t) (i : ∀ σ H Q, t' σ H Q → t σ H Q) : PE X e t' := ⟨fun pins s σ H Q I q => h.run pins s σ H Q I (i σ H Q q)⟩
theorem PT.imp {X : Cx} {e : Expr} {t t' : TT} (h : PT X e t) (i : ∀ σ H Q, t' σ H Q → t σ H Q) : PT X e t' := ⟨fun pins s σ H Q I q => h.run pins s σ H Q I (i σ H Q q)⟩
/-- 20 or 7 -/
def tMost : TE := fun σ H Q => ∃ i j : Int, σ[2]? = some (some (.int i)) ∧ σ[1]? = some (some (.int j)) ∧ ∀ d : Nat, 0 < d → d ≤ 20 → Q (.int d) H
/-- row == [] or manner == 4 and spare not in row -/
def tTest7 : TT := fun σ H Q => ∃ (i j : Int) (a : Addr) (ns : List Int), σ[2]? = some (some (.int i)) ∧ σ[6]? = some (some (.int j)) ∧ σ[3]? = some (some (.ref a)) ∧ H a = some (.lst (ns.map V.int)) ∧
  ∀ c H', Ex H H' → (c = true → j ∉ ns) → (c = false → ns ≠ []) → Q c H'
/-- manner > 3 and len(row) > 1 and a dip -/
def tTest8 : TT := fun σ H Q => ∃ (i : Int) (a p : Addr) (ns : List Int) (G : Hp) (l : List (Addr × HO)) (o : HO) (k : Nat), σ[2]? = some (some (.int i)) ∧ σ[3]? = some (some (.ref a)) ∧ σ[0]? = some (some (.ref p)) ∧ Has G H ((a, .lst (ns.map V.int)) :: (p, o) :: l) ∧ WellO k o ∧ k < 10 ^ 6 ∧
  ∀ c H' o', Has G H' ((a, .lst (ns.map V.int)) :: (p, o') :: l) → WellO (k + 1) o' → (c = true → 1 < ns.length) → Q c H'
theorem erase_map {α β : Type} (f : α → β) : ∀ (l : List α) (r : Nat), (l.map f).eraseIdx r = (l.eraseIdx r).map f
  | [], _ => rfl
  | _ :: _, 0 => rfl
  | x :: l, r + 1 => congrArg (f x :: ·) (erase_map f l r)
theorem PS.imp {X : Cx} {e : Stmt} {t t' : TS} (h : PS X e t) (i : ∀ D σ H, t' D σ H → t D σ H) : PS X e t' := ⟨fun pins s σ H D I q => h.run pins s σ H D I (i D σ H q)⟩
def tStmt7 : TS := fun D σ H => ∃ (i j : Int) (a : Addr) (ns : List Int) (G : Hp) (l : List (Addr × HO)), σ[2]? = some (some (.int i)) ∧ σ[6]? = some (some (.int j)) ∧ σ[3]? = some (some (.ref a)) ∧ Has G H ((a, .lst (ns.map V.int)) :: l) ∧ ns.length ≤ 1000 ∧
  ∀ H' ns', Has G H' ((a, .lst (ns'.map V.int)) :: l) → ns' ≠ [] → (ns' = ns ∨ (ns' = ns ++ [j] ∧ j ∉ ns)) → D.nx σ H'
def tStmt8 : TS := fun D σ H => ∃ (i : Int) (a p : Addr) (ns : List Int) (G : Hp) (l : List (Addr × HO)) (o : HO) (k : Nat), σ[2]? = some (some (.int i)) ∧ σ[3]? = some (some (.ref a)) ∧ σ[0]? = some (some (.ref p)) ∧ Has G H ((a, .lst (ns.map V.int)) :: (p, o) :: l) ∧ WellO k o ∧ k < 10 ^ 6 ∧ ns.length ≤ 1000 ∧
  ∀ H' o' ns', Has G H' ((a, .lst (ns'.map V.int)) :: (p, o') :: l) → WellO (k + 2) o' → (ns' = ns ∨ (1 < ns.length ∧ ∃ r, ns' = ns.eraseIdx r)) → D.nx σ H'
theorem ok_some_masks (D : Dfn K mg "_law_some_masks" s__law_some_masks ["well", "wide"]) (z : Z mg) (O_dip : Ok P w K mg base 1 "_law_dip" ["well", "upto"] spDipW) (O_kept : Ok P w K mg base 2 "_law_all_kept" ["mask", "bars"] spKept) (O_some_bars : Ok P w K mg base 4 "_law_some_bars" ["well", "wide", "most"] spSomeBars) :
    Ok P w K mg base 5 "_law_some_masks" ["well", "wide"] spSomeMasks := D.ok fun f fd F => by
  refine F.ok sc_law_some_masks (fun vs H Q E h => ?_) (fun cdv A outer s H vs Q E hr h => ?_)
  · obtain ⟨G, l, p, o, k, n, rfl, _⟩ := h
    rfl
  · obtain ⟨G, l, p, o, k, n, rfl, S, wo, hk, hn, hn', q⟩ := h
    have imp1 : ∀ (σ : L2.St) (H : Hp) (Q : VK), tMost σ H Q → tIf (tAnd (tTest (tOp rEq (tVar 2) (tC (.int 0)))) (tTest (tOp (rI0 fun i j => .bl (decide (i > j))) (tVar 1) (tC (.int 4))))) (tC (.int 20)) (tC (.int 7)) σ H Q := by
      rintro σ H Q ⟨i, j, h2, h1, q⟩
      refine ⟨_, h2, rfl, _, rfl, ?_⟩
      refine ite2 (fun _ => ⟨_, h1, _, _, rfl, rfl, _, rfl, ite2 (fun _ => q 20 (by decide) (by decide)) (fun _ => q 7 (by decide) (by decide))⟩) (fun _ => iteF (q 7 (by decide) (by decide)))
    have imp2 : ∀ (σ : L2.St) (H : Hp) (Q : Bool → Hp → Prop), tTest7 σ H Q → tOr (tTest (tOp (rEqD K) (tVar 3) (tLst tNil))) (tAnd (tTest (tOp rEq (tVar 2) (tC (.int 4)))) (tTest (tOp (rIn K true) (tVar 6) (tVar 3)))) σ H Q := by
      rintro σ H Q ⟨i, j, a, ns, h2, h6, h3, ha, q⟩
      refine ⟨_, h3, sz (by show 0 ≤ 100000; decide), fun e ne => ?_⟩
      have e1 : Ex H (upd H e (.lst [])) := Evl.Ex.new ne
      refine ⟨.list (ns.map .int), .list [], .lst (Evl.sq_of (e1 _ _ ha)) (dpAll_ints ns), .lst (Evl.sq_of upd_same) .nil, shaped_ints ns, rfl, _, rfl, ?_⟩
      rw [eqv_nil]
      refine ite2 (fun hc => ?_) (fun hc => ?_)
      · have hn : ns = [] := of_decide_eq_true hc
        exact q true _ e1 (fun _ => by rw [hn]; exact List.not_mem_nil) (fun h => by cases h)
      · have hn : ns ≠ [] := fun h => hc (decide_eq_true h)
        refine ⟨_, h2, rfl, _, rfl, ?_⟩
        refine ite2 (fun _ => ?_) (fun _ => q false _ e1 (fun h => by cases h) fun _ => hn)
        refine ⟨_, h6, _, h3, a, ns.map V.int, rfl, .inl (Evl.sq_of (e1 _ _ ha)), rfl, flat_ints _, _, rfl, ?_⟩
        rw [inV_int]
        refine q _ _ e1 (fun h => ?_) fun _ => hn
        intro hj
        rw [decide_eq_true hj] at h
        cases h
    have imp3 : ∀ (σ : L2.St) (H : Hp) (Q : Bool → Hp → Prop), tTest8 σ H Q → tAnd (tTest (tOp (rI0 fun i j => .bl (decide (i > j))) (tVar 2) (tC (.int 3)))) (tAnd (tTest (tOp (rI0 fun i j => .bl (decide (i > j))) (tCB (rLenOf K) (tCons (tVar 3) tNil)) (tC (.int 1)))) (tTest (tOp rEq (tCall spDipW [] E0 (tCons (tVar 0) (tCons (tC (.int 2)) tNil))) (tC (.int 0))))) σ H Q := by
      rintro σ H Q ⟨i, a, p, ns, G, l, o, k, h2, h3, h0, S, wo, hk, q⟩
      refine ⟨_, h2, _, _, rfl, rfl, _, rfl, ?_⟩
      refine ite2 (fun _ => ?_) (fun _ => q false H o S (wo.up (by omega)) fun h => by cases h)
      refine ⟨_, h3, a, _, rfl, .inl (Evl.sq_of (S.get 0 rfl)), _, _, rfl, rfl, _, rfl, ?_⟩
      refine ite2 (fun hc => ?_) (fun _ => q false H o S (wo.up (by omega)) fun h => by cases h)
      have hl : 1 < ns.length := by
        have := of_decide_eq_true hc
        rw [List.length_map] at this
        omega
      refine ⟨_, h0, p, 2, o, k, rfl, S.get 1 rfl, wo, by omega, by decide, by decide, fun r o1 _ wo1 => ?_⟩
      exact ⟨rfl, _, rfl, q _ _ o1 (S.set 1 rfl) wo1 fun _ => hl⟩
    refine ⟨_, (pss_cons (ps_set (i := 2) sc_law_some_masks.nd rfl (Or.inl rfl) (pe_o O_dip (hr.mono (by decide)) (pa_cons (pv 0) (pa_cons pe_int pa_nil))))
      (pss_cons (ps_set (i := 3) sc_law_some_masks.nd rfl (Or.inl rfl) (pe_lst pa_nil))
      (pss_cons (ps_if (pt_cmpR op_lt (pv 2) pe_int (nomark _)) (pss_cons (ps_for PassesOwn.never rfl (pi_range1 (by rfl) z.range (pa_cons (pe_op op_add pe_int (pe_o O_dip (hr.mono (by decide)) (pa_cons (pv 0) (pa_cons (PE.imp (t' := tMost) (pe_ifExp (PW.pt (pw_and (pt_cmpR op_eq (pv 2) pe_int (nomark _)) (pw_and1 (pt_cmpR op_gt (pv 1) pe_int (nomark _))))) pe_int pe_int) imp1) pa_nil)))) pa_nil)) (pg_name (i := 4) sc_law_some_masks.nd rfl (Or.inl rfl))
      (pss_one (ps_expr (pe_bm PySem.F.plainAttrs_list PySem.F.slot_list_append PySem.F.type_list_append mt_append (pv 3) (pa_cons (pe_o O_dip (hr.mono (by decide)) (pa_cons (pv 0) (pa_cons (pe_op op_shlN pe_int (pv 1)) pa_nil))) pa_nil)))))
      (pss_one (ps_ret (pe_callB (cr_sortedSetK (w := w) rfl) (by rfl) z.sorted (by decide +kernel) (pa_cons (pe_callTy (cr_setK (K := K) (w := w) rfl) (by rfl) z.set (by decide +kernel) (pa_cons (pv 3) pa_nil)) pa_nil))))) pss_nil)
      (pss_cons (ps_set (i := 5) sc_law_some_masks.nd rfl (Or.inr rfl) (pe_o O_some_bars hr (pa_cons (pv 0) (pa_cons (pv 1) (pa_cons (pe_ix ix_list (pe_lst (pa_cons pe_int (pa_cons pe_int (pa_cons pe_int (pa_cons pe_int (pa_cons pe_int (pa_cons pe_int pa_nil))))))) (pv 2) (fun _ _ => rfl)) pa_nil)))))
      (pss_cons (ps_setLc (i := 3) (own := [("mask", 7)]) (g := gName 7) rfl sc_law_some_masks.nd rfl rfl (sw_true rfl rfl rfl (by decide +kernel)) (pi_range1 (by rfl) z.range (pa_cons (pe_op op_shlN pe_int (pv 1)) pa_nil)) (blkOk_by (N := ["well", "wide", "manner", "row", "k", "bars", "spare", "mask"]) (own := [("mask", 7)]) (sc := defScope s__law_some_masks) (by decide +kernel)) (fun _ _ _ _ _ => pg_name (i := 7) sc_law_some_masks.nd rfl (Or.inl rfl)) (fun _ _ _ _ _ => pts_one (pt_val (pe_o O_kept (hr.mono (by decide)) (pa_cons (pv 7) (pa_cons (pv 5) pa_nil))))) (fun _ _ _ _ _ => (pv 7)))
      (pss_cons (ps_set (i := 6) sc_law_some_masks.nd rfl (Or.inl rfl) (pe_o O_dip (hr.mono (by decide)) (pa_cons (pv 0) (pa_cons (pe_op op_shlN pe_int (pv 1)) pa_nil))))
      (pss_cons (PS.imp (t' := tStmt7) (ps_if (PT.imp (t' := tTest7) (PW.pt (pw_or (pt_cmpR (op_eqD hr.units) (pv 3) (pe_lst pa_nil) (nomark _)) (pw_or1 (PW.pt (pw_and (pt_cmpR op_eq (pv 2) pe_int (nomark _)) (pw_and1 (pt_cmpR (op_notInK (K := K)) (pv 6) (pv 3) (by rfl)))))))) imp2) (pss_one (ps_expr (pe_bm PySem.F.plainAttrs_list PySem.F.slot_list_append PySem.F.type_list_append mt_append (pv 3) (pa_cons (pv 6) pa_nil)))) pss_nil) (fun D σ H h => by
        obtain ⟨i, j, a, ns, G, l, h2, h6, h3, S, hz, q⟩ := h
        refine ⟨i, j, a, ns, h2, h6, h3, S.get 0 rfl, fun c H' e hc1 hc0 => ?_⟩
        have S' := S.go e
        cases c with
        | false => exact q H' ns S' (hc0 rfl) (.inl rfl)
        | true =>
          refine ⟨_, h3, .inl ⟨rfl, _, Evl.sq_of (S'.get 0 rfl)⟩, _, h6, a, _, _, rfl, rfl, S'.get 0 rfl, szl (by rw [List.length_map]; omega), ?_⟩
          refine q _ (ns ++ [j]) ?_ (by simp) (.inr ⟨rfl, hc1 rfl⟩)
          rw [List.map_append]
          exact S'.set 0 rfl))
      (pss_cons (PS.imp (t' := tStmt8) (ps_if (PT.imp (t' := tTest8) (PW.pt (pw_and (pt_cmpR op_gt (pv 2) pe_int (nomark _)) (pw_and (pt_cmpR op_gt (pe_callB call_len_seq (by rfl) z.len PySem.boot_len (pa_cons (pv 3) pa_nil)) pe_int (nomark _)) (pw_and1 (pt_cmpR op_eq (pe_o O_dip (hr.mono (by decide)) (pa_cons (pv 0) (pa_cons pe_int pa_nil))) pe_int (nomark _)))))) imp3) (pss_one (ps_expr (pe_bm PySem.F.plainAttrs_list PySem.F.slot_list_pop PySem.F.type_list_pop mt_popAt (pv 3) (pa_cons (pe_o O_dip (hr.mono (by decide)) (pa_cons (pv 0) (pa_cons (pe_callB call_len_seq (by rfl) z.len PySem.boot_len (pa_cons (pv 3) pa_nil)) pa_nil))) pa_nil)))) pss_nil) (fun D σ H h => by
        obtain ⟨i, a, p, ns, G, l, o, k, h2, h3, h0, S, wo, hk, hz, q⟩ := h
        refine ⟨i, a, p, ns, G, l, o, k, h2, h3, h0, S, wo, hk, fun c H' o' S' wo' hc => ?_⟩
        cases c with
        | false => exact q H' o' ns S' (wo'.up (by omega)) (.inl rfl)
        | true =>
          have hl := hc rfl
          refine ⟨_, h3, .inl ⟨rfl, _, Evl.sq_of (S'.get 0 rfl)⟩, _, h0, _, h3, a, _, rfl, .inl (Evl.sq_of (S'.get 0 rfl)), p, (ns.map V.int).length, o', k + 1, rfl, S'.get 1 rfl, wo', by omega, by rw [List.length_map]; omega, by rw [List.length_map]; omega, fun r o2 hr2 wo2 => ?_⟩
          have S2 : Has G _ ((a, .lst (ns.map V.int)) :: (p, o2) :: l) := S'.set 1 rfl
          generalize upd H' p o2 = H2 at S2
          refine ⟨a, _, ((r : Nat) : Int), r, (ns.map V.int)[r], rfl, rfl, S2.get 0 rfl, by omega, by rw [List.length_map] at hr2; omega, (PyProof.Rows.seqIndex_at (by omega) (by omega)).trans (by rw [Int.toNat_natCast]), List.getElem?_eq_getElem hr2, ?_⟩
          refine q _ o2 (ns.eraseIdx r) ?_ wo2 (.inr ⟨hl, r, rfl⟩)
          rw [← erase_map]
          exact S2.set 0 rfl))
      (pss_one (ps_ret (pe_callB cr_sortedI (by rfl) z.sorted (by decide +kernel) (pa_cons (pv 3) pa_nil)))))))))))), ?_⟩
    obtain ⟨b, hb1, hb2, hb0, hb64⟩ := pow_small hn hn'
    have shl := shl_ok hn'
    refine ⟨_, rfl, p, 6, o, k, rfl, S.get 0 rfl, wo, by omega, by decide, by decide, fun man o1 hr1 wo1 => ?_⟩
    have S1 : Has G _ ((p, o1) :: l) := S.set 0 rfl
    generalize upd H p o1 = H1 at S1
    refine ⟨sz (by show 0 ≤ 100000; decide), fun rr nrr => ?_⟩
    have S2 := S1.new (o := .lst []) nrr
    generalize upd H1 rr (.lst []) = H2 at S2
    refine ⟨_, rfl, _, _, rfl, rfl, _, rfl, ?_⟩
    have bm : (b : Int) = 2 ^ n := by rw [← hb1, Int.one_mul]
    refine ite2 (fun hm => ?_) (fun hm => ?_)
    · -- a few drawn ones
      refine ⟨_, rfl, man, n, rfl, rfl, fun d hd0 hd => ?_⟩
      refine ⟨p, d, o1, k + 1, rfl, S2.get 1 rfl, wo1, by omega, hd0, by omega, fun r o2 hr2 wo2 => ?_⟩
      have S3 : Has G _ ((rr, .lst []) :: (p, o2) :: l) := S2.set 1 rfl
      generalize upd H2 p o2 = H3 at S3
      refine ⟨_, _, rfl, rfl, 1 + (r : Int), rfl, by omega, by omega, ?_⟩
      rw [show (1 + (r : Int)).toNat = 1 + r by omega]
      refine for_range (lo := 0) (n := 1 + r) (fun i σ H' => ∃ (v4 v5 v6 v7 : Option V) (o' : HO) (xs : List Int), σ = [some (.ref p), some (.int n), some (.int man), some (.ref rr), v4, v5, v6, v7] ∧ Has G H' ((rr, .lst (xs.map V.int)) :: (p, o') :: l) ∧ WellO (k + 2 + i) o' ∧ xs.length = i ∧ ∀ m ∈ xs, 0 ≤ m ∧ m < 2 ^ n)
        ⟨none, none, none, none, o2, [], rfl, S3, wo2, rfl, fun m hm => absurd hm List.not_mem_nil⟩ ?_ ?_
      · rintro i σ H4 hi ⟨v4, v5, v6, v7, o4, xs, rfl, S4, wo4, lx, bx⟩
        refine ⟨_, rfl, .inl ⟨rfl, _, Evl.sq_of (S4.get 0 rfl)⟩, _, rfl, _, rfl, 1, n, rfl, rfl, shl, ?_⟩
        rw [hb1]
        refine ⟨p, b, o4, k + 2 + i, rfl, S4.get 1 rfl, wo4, by omega, hb0, by omega, fun v o5 hv wo5 => ?_⟩
        have S5 : Has G _ ((rr, .lst (xs.map V.int)) :: (p, o5) :: l) := S4.set 1 rfl
        generalize upd H4 p o5 = H5 at S5
        refine ⟨rr, _, _, rfl, rfl, S5.get 0 rfl, szl (by rw [List.length_map]; omega), some (.int (0 + (i : Int))), v5, v6, v7, o5, xs ++ [(v : Int)], rfl, ?_, wo5, by rw [List.length_append, lx]; rfl, fun m hm => ?_⟩
        · rw [List.map_append]
          exact S5.set 0 rfl
        · rcases List.mem_append.mp hm with h | h
          · exact bx m h
          · rw [List.mem_singleton.mp h, ← bm]
            omega
      · rintro σ H4 ⟨v4, v5, v6, v7, o4, xs, rfl, S4, wo4, lx, bx⟩
        refine ⟨_, rfl, rr, xs, rfl, Evl.sq_of (S4.get 0 rfl), by omega, fun a c na hc => ?_⟩
        have S5 := S4.new (o := SetO w a (fun j => decide (j ∈ xs)) c) na
        generalize upd H4 a (SetO w a (fun j => decide (j ∈ xs)) c) = H5 at S5
        refine ⟨a, _, c, rfl, S5.get 0 rfl, by omega, fun ns t hup hmem hlen nt => ?_⟩
        have S6 := S5.new (o := .lst (ns.map V.int)) nt
        refine q G _ o4 t ns (Evl.Ex.refl G) (S6.drop2.drop2) (wo4.up (by omega)) ⟨hup, ?_, fun m hm => bx m (of_decide_eq_true ((hmem m).mp hm))⟩
        intro e
        have h1 : xs ≠ [] := fun e2 => by rw [e2] at lx; simp at lx; omega
        obtain ⟨x, hx⟩ := List.exists_mem_of_ne_nil xs h1
        have := (hmem x).mpr (decide_eq_true hx)
        rw [e] at this
        exact List.not_mem_nil this
    · -- those that keep drawn rules
      refine ⟨_, rfl, _, rfl, sz (by show 6 ≤ 100000; decide), fun t nt => ?_⟩
      generalize hL : ([V.int 0, V.int 0, V.int 2, V.int 5, V.int 5, V.int 9] : List V) = L
      have S3 := S2.new (o := .lst L) nt
      generalize upd H2 t (.lst L) = H3 at S3
      obtain ⟨most, hat, hmo⟩ : ∃ most : Nat, atI L (man : Int) = some (.int most) ∧ most ≤ 100 := by
        rw [← hL]
        have : man = 0 ∨ man = 1 ∨ man = 2 ∨ man = 3 ∨ man = 4 ∨ man = 5 := by omega
        rcases this with rfl | rfl | rfl | rfl | rfl | rfl
        · exact ⟨0, rfl, by decide⟩
        · exact ⟨0, rfl, by decide⟩
        · exact ⟨2, rfl, by decide⟩
        · exact ⟨5, rfl, by decide⟩
        · exact ⟨5, rfl, by decide⟩
        · exact ⟨9, rfl, by decide⟩
      refine ⟨_, rfl, t, L, man, _, rfl, rfl, Evl.sq_of (S3.get 0 rfl), hat, G, l, p, o1, k + 1, n, most, rfl, S3.tail.tail, wo1, by omega, hn, by omega, hmo, fun G4 H4 o4 x bs e4 S4 wo4 hbs lbs ax => ?_⟩
      have hbars : ∀ b ∈ bs, b.length ≤ 100 := fun b hb => by have := (hbs b hb).2.1; omega
      refine ⟨_, rfl, _, n, rfl, rfl, shl, _, rfl, by rw [hb1]; omega, by rw [hb1]; omega, fun Dl nD => ?_⟩
      rw [hb1, show ((b : Nat) : Int).toNat = b by omega]
      have lF : ∀ i, (((rangeI b).take i).filter fun m => keptB m bs).length ≤ b := fun i => by
        have := filt_len (fun m => keptB m bs) (rangeI b) i
        unfold rangeI at this
        rw [List.length_map, List.length_range] at this
        exact this
      refine lc_range (lo := 0) (n := b) (fun i H' => Has G4 H' ((Dl, .lst ((((rangeI b).take i).filter fun m => keptB m bs).map V.int)) :: (p, o4) :: l)) (S4.new nD) ?_ ?_
      · rintro i H5 hi S5
        have hg := rangeI_get hi
        rw [Int.zero_add]
        refine ⟨rfl, _, rfl, _, rfl, (i : Int), x, bs, rfl, ax.ex S5.ex, hbars, fun H6 e6 => ⟨_, rfl, ?_⟩⟩
        have S6 := S5.go e6
        cases hk : keptB (i : Int) bs with
        | true =>
          refine ⟨_, rfl, _, S6.get 0 rfl, szl (by rw [List.length_map]; have := lF i; omega), ?_⟩
          rw [filt_yes (f := fun m => keptB m bs) hg hk, List.map_append]
          exact S6.set 0 rfl
        | false =>
          rw [filt_no (f := fun m => keptB m bs) hg hk]
          exact S6
      · rintro H5 S5
        have eT : (rangeI b).take b = rangeI b := List.take_of_length_le (by unfold rangeI; rw [List.length_map, List.length_range]; exact Nat.le_refl _)
        have lF5 := lF b
        rw [eT] at S5 lF5
        have bF : ∀ m ∈ (rangeI b).filter fun m => keptB m bs, 0 ≤ m ∧ m < 2 ^ n := fun m hm => by
          have := rangeI_mem.mp ((List.mem_filter.mp hm).1)
          rw [← bm]
          exact this
        have nF : ((rangeI b).filter fun m => keptB m bs).Nodup := (up_nodup (rangeI_up b)).filter _
        generalize ((rangeI b).filter fun m => keptB m bs) = F at S5 bF nF lF5
        refine ⟨_, rfl, _, rfl, _, n, rfl, rfl, shl, ?_⟩
        rw [hb1]
        refine ⟨p, b, o4, k + 1 + 501, rfl, S5.get 1 rfl, wo4, by omega, hb0, by omega, fun sp o6 hsp wo6 => ?_⟩
        have S6 : Has G4 _ ((Dl, .lst (F.map V.int)) :: (p, o6) :: l) := S5.set 1 rfl
        generalize upd H5 p o6 = H6 at S6
        refine ⟨man, sp, Dl, F, G4, _, rfl, rfl, rfl, S6, by omega, fun H7 F7 S7 ne7 hF7 => ?_⟩
        obtain ⟨nF7, bF7, lF7⟩ : F7.Nodup ∧ (∀ m ∈ F7, 0 ≤ m ∧ m < 2 ^ n) ∧ F7.length ≤ 100 := by
          rcases hF7 with rfl | ⟨rfl, hn7⟩
          · exact ⟨nF, bF, by omega⟩
          · refine ⟨List.nodup_append.mpr ⟨nF, List.nodup_cons.mpr ⟨List.not_mem_nil, List.nodup_nil⟩, fun a ha c hc e => ?_⟩, fun m hm => ?_, by rw [List.length_append, List.length_singleton]; omega⟩
            · rw [e, List.mem_singleton.mp hc] at ha
              exact hn7 ha
            · rcases List.mem_append.mp hm with h | h
              · exact bF m h
              · rw [List.mem_singleton.mp h, ← bm]
                omega
        refine ⟨man, Dl, p, F7, G4, l, o6, k + 1 + 501 + 1, rfl, rfl, rfl, S7, wo6, by omega, by omega, fun H8 o8 F8 S8 wo8 hF8 => ?_⟩
        obtain ⟨nF8, bF8, ne8⟩ : F8.Nodup ∧ (∀ m ∈ F8, 0 ≤ m ∧ m < 2 ^ n) ∧ F8 ≠ [] := by
          rcases hF8 with rfl | ⟨hl, r, rfl⟩
          · exact ⟨nF7, bF7, ne7⟩
          · refine ⟨nF7.sublist (List.eraseIdx_sublist _ _), fun m hm => bF7 m ((List.eraseIdx_sublist _ _).subset hm), fun e => ?_⟩
            have h1 := List.length_eraseIdx_le F7 r
            have h2 : F7.length ≤ (F7.eraseIdx r).length + 1 := by
              rw [List.length_eraseIdx]
              split <;> omega
            rw [e] at h2
            simp at h2
            omega
        refine ⟨_, rfl, Dl, F8, rfl, Evl.sq_of (S8.get 0 rfl), fun ns t pm hs nt => ?_⟩
        have S9 := S8.new (o := .lst (ns.map V.int)) nt
        exact q G4 _ o8 t ns e4 S9.drop2 (wo8.up (by omega)) (masks_tail pm hs nF8 ne8 bF8)
end
end TW
set_option Elab.async false
set_option linter.all false
set_option maxRecDepth 100000
set_option maxHeartbeats 4000000
/-! sets of tuples of ints, up to 76 of them: the table of 128 places takes no more -/
namespace TW
open PySem PySem.Spec PyProof.Rows L2
/-- the set at a with the rows L, at most 76 -/
structure SW (P : Program) (w : World) (h : Heap) (a : Addr) (L : List (Addr × List Int)) (es : Array (Int × Value)) (ep : Nat) (t : SetTable) : Prop where
  ob : ∃ o, h.get? a = some o ∧ o.ExactSet ∧ o.data = .set es ep t
  rows : es.toList = rowsOf P w L
  tab : TabOk t (L.map fun p => thash P w p.2)
  nd : (L.map (·.2)).Nodup
  tup : ∀ p ∈ L, IsT P w h p.2 p.1
  plain : t.plain = true
  led : w.params.followText "set-order" = true ∨ t.led = true
  room : L.length * 5 < t.mask * 3
  most : L.length ≤ 76
section
variable {P : Program} {w : World} {A : Around} {E : Value → Shared → Prop} {s : Shared} {a : Addr} {L : List (Addr × List Int)} {es : Array (Int × Value)} {ep : Nat} {t : SetTable}
theorem SW.few (R : SW P w s.heap a L es ep t) (h : L.length < 64) : SetTR P w s.heap a L es ep t := ⟨R.ob, R.rows, R.tab, R.nd, R.tup, R.plain, R.led, R.room, h⟩
theorem SW.of (R : SetTR P w s.heap a L es ep t) : SW P w s.heap a L es ep t := ⟨R.ob, R.rows, R.tab, R.nd, R.tup, R.plain, R.led, R.room, Nat.le_trans (Nat.le_of_lt R.few) (by decide)⟩
theorem SW.size (R : SW P w s.heap a L es ep t) : es.size = L.length := by
  have h := congrArg List.length R.rows
  simpa [rowsOf] using h
theorem SW.fitsW (B : SW P w s.heap a L es ep t) : t.fits es.size = true := by
  have p := B.tab.sz
  rw [List.length_map] at p
  have q := B.size
  have r := B.room
  unfold SetTable.fits SetTable.fill
  rw [B.tab.dm, Bool.and_eq_true, beq_iff_eq, decide_eq_true_eq]
  exact ⟨by omega, by show t.place.size + 0 ≤ t.mask; omega⟩
theorem SW.entryW (B : SW P w s.heap a L es ep t) {n : Nat} {q : Addr × List Int} (hq : L[n]? = some q) : es[n]? = some (thash P w q.2, Value.ref q.1) := by
  have e : es.toList[n]? = (rowsOf P w L)[n]? := by rw [B.rows]
  rw [Array.getElem?_toList] at e
  rw [e]
  show (L.map _)[n]? = _
  rw [List.getElem?_map, hq]
  rfl
/-- the places that a search passes -/
abbrev spot (P : Program) (w : World) (t : SetTable) (k : List Int) (c : Nat) : Nat := way t.mask (thash P w k) c
abbrev pbe (P : Program) (w : World) (t : SetTable) (k : List Int) (c : Nat) : SetTable.Probe := nth t.mask (runAt t.mask (SetTable.bits (thash P w k) % (t.mask + 1)) (SetTable.bits (thash P w k))) c
theorem pbe_go (k : List Int) (c q : Nat) : nth t.mask (pbe P w t k c) q = pbe P w t k (c + q) := (nth_add t.mask c _ q).symm
theorem pbe_spot (k : List Int) (c q : Nat) : (nth t.mask (pbe P w t k c) q).j = spot P w t k (c + q) := congrArg SetTable.Probe.j (pbe_go k c q)
theorem pbe_bare (k : List Int) (c : Nat) : (pbe P w t k c).dummy = none := by
  have all : ∀ (n : Nat) (p : SetTable.Probe), p.dummy = none → (nth t.mask p n).dummy = none := by
    intro n
    induction n with
    | zero => exact fun p h => h
    | succ n ih =>
      intro p h
      refine ih (adv t.mask p) ?_
      unfold adv
      split <;> exact h
  exact all c _ rfl
/-- a search among up to 76 tuples, from its c-th place on; N is the first free one -/
theorem seek (B : SW P w s.heap a L es ep t) {x : Addr} {k : List Int} (ix : IsT P w s.heap k x) (ru : A.units < cLine) {N : Nat} (tN : N < 10 * SetTable.turns t.mask) (nN : spot P w t k N ∉ t.place.toList) (bN : ∀ c, c < N → spot P w t k c ∈ t.place.toList)
    {Q : SetFound → Shared → Prop} (yes : k ∈ L.map (·.2) → Q (.there none) s) (no : k ∉ L.map (·.2) → Q (.free (spot P w t k N) false) s) (m : Nat) :
    ∀ (c : Nat) (pr : Option SetTable.Probe), pr.getD (t.probeStart (thash P w k)) = pbe P w t k c → c ≤ N → N - c < m → (∀ (n : Nat) q, L[n]? = some q → q.2 = k → ∃ d, c ≤ d ∧ d < N ∧ t.place.toList[n]? = some (spot P w t k d)) →
      wpAny (model P w) A (setSearchFrom a (.ref x) (thash P w k) true m pr) Q E s := by
  induction m with
  | zero => exact fun c pr _ _ lt _ => absurd lt (Nat.not_lt_zero _)
  | succ m ih =>
    intro c pr hp hc lt later
    obtain ⟨o, ho, _, dat⟩ := B.ob
    have notW : ¬ t.gaveWay = true := by
      unfold SetTable.gaveWay
      rw [mask_odd B.tab.mok]
      decide
    rw [setSearchFrom_succ]
    refine wpAny_bind (wpAny_setState_of ho dat B.fitsW ?_)
    dsimp only
    refine wp_if_neg notW ?_
    try refine wpAny_bind (wpAny_pure ?_)
    have told := go_spec t B.tab.ris B.tab.dm (fun i => (es[i]?.map (·.1)).getD 0) (thash P w k) (10 * SetTable.turns t.mask) (N - c) (pbe P w t k c) (pbe_bare k c) (by omega) (fun q hq => by rw [pbe_spot]; exact bN _ (by omega)) (by rw [pbe_spot, Nat.add_sub_cancel' hc]; exact nN)
    have at_ : ∀ (n : Nat) q, L[n]? = some q → (es[n]?.map (·.1)).getD 0 = thash P w q.2 := fun n q hq => by
      rw [B.entryW hq]
      rfl
    rcases told with ⟨q, i, hq, hi, hh, free, found⟩ | ⟨free, found⟩
    · rw [pbe_spot, pbe_go] at found
      rw [hp, show t.probe (fun i => (es[i]?.map (·.1)).getD 0) (thash P w k) (pbe P w t k c) = _ from found]
      dsimp only
      rw [pbe_spot] at hi
      obtain ⟨r, hr⟩ : ∃ r, L[i]? = some r := by
        have l1 := (List.getElem?_eq_some_iff.mp hi).1
        have l2 := B.tab.sz
        rw [List.length_map] at l2
        rw [Array.length_toList] at l1
        exact ⟨_, List.getElem?_eq_getElem (by omega)⟩
      have mem := List.mem_of_getElem? hr
      have tr := B.tup r mem
      have onward : wpAny (model P w) A (searchRest a (.ref x) (thash P w k) true m es t (spot P w t k (c + q)) i (pbe P w t k (c + (q + 1)))) Q E s := by
        unfold searchRest
        rw [B.entryW hr]
        dsimp only
        refine wpAny_bind (wpAny_holding (wpAny_eqBool_tuple ru tr ix ?_))
        refine wpAny_bind (wpAny_setState_of ho dat B.fitsW ?_)
        dsimp only
        by_cases same : r.2 = k
        · exact wp_if_pos (by simp [same]) (wpAny_pure (yes (List.mem_map.mpr ⟨r, mem, same⟩)))
        · refine wp_if_neg (by simp [same]) ?_
          try refine wpAny_bind (wpAny_pure ?_)
          have sl : t.slot (spot P w t k (c + q)) = .live i := slot_live B.tab.ris hi
          rw [sameMem]
          dsimp only
          simp only [if_true, sl, B.entryW hr]
          refine wpAny_bind (wpAny_isSame_ref_self (wpAny_bind (wpAny_pure ?_)))
          simp only [if_true]
          refine wp_if_neg (by simp [same]) ?_
          refine ih (c + (q + 1)) _ rfl (by omega) (by omega) fun n0 r0 h0 k0 => ?_
          obtain ⟨d, d1, d2, d3⟩ := later n0 r0 h0 k0
          refine ⟨d, ?_, d2, d3⟩
          have h1 : ¬ d < c + q := fun z => free (d - c) n0 (by omega) (by rw [pbe_spot, Nat.add_sub_cancel' d1]; exact d3) ((at_ n0 r0 h0).trans (by rw [k0]))
          have h2 : d ≠ c + q := fun z => by
            rw [z] at d3
            have sl0 := slot_live B.tab.ris d3
            rw [sl] at sl0
            injection sl0 with sl0
            rw [← sl0, hr] at h0
            cases h0
            exact same k0
          omega
      by_cases ld : t.led = true
      · refine wp_if_neg (by simp [ld]) ?_
        try refine wpAny_bind (wpAny_pure ?_)
        exact onward
      · refine wp_if_pos (by simp [ld]) (wpAny_bind (seen_tup ix (fun y hy => ?_) ?_))
        · obtain ⟨e, he, rfl⟩ := List.mem_map.mp hy
          have he1 : e ∈ es ∧ e.1 = thash P w k := by simpa using he
          have he2 : e ∈ es.toList := by simpa using he1.1
          rw [B.rows] at he2
          obtain ⟨p2, hp2, rfl⟩ := List.mem_map.mp he2
          exact ⟨p2.2, p2.1, rfl, B.tup p2 hp2⟩
        · refine wp_if_neg (by decide) ?_
          try refine wpAny_bind (wpAny_pure ?_)
          exact onward
    · rw [pbe_spot, Nat.add_sub_cancel' hc] at found
      rw [hp, show t.probe (fun i => (es[i]?.map (·.1)).getD 0) (thash P w k) (pbe P w t k c) = _ from found]
      dsimp only
      refine wpAny_pure (no fun hm => ?_)
      obtain ⟨r0, h0, k0⟩ := List.mem_map.mp hm
      obtain ⟨n0, hn0⟩ := List.mem_iff_getElem?.mp h0
      obtain ⟨d, d1, d2, d3⟩ := later n0 r0 hn0 k0
      exact free (d - c) n0 (by omega) (by rw [pbe_spot, Nat.add_sub_cancel' d1]; exact d3) ((at_ n0 r0 hn0).trans (by rw [k0]))
theorem seekW (B : SW P w s.heap a L es ep t) {x : Addr} {k : List Int} (ix : IsT P w s.heap k x) (ru : A.units < cLine) {Q : SetFound → Shared → Prop} (yes : k ∈ L.map (·.2) → Q (.there none) s)
    (no : ∀ N, k ∉ L.map (·.2) → spot P w t k N ∉ t.place.toList → (∀ c, c < N → spot P w t k c ∈ t.place.toList) → Q (.free (spot P w t k N) false) s) : wpAny (model P w) A (setSearch a (.ref x) (thash P w k) true) Q E s := by
  have r := B.room
  obtain ⟨N, tN, nN, bN⟩ := B.tab.first (by rw [List.length_map]; omega) (thash P w k)
  have few : N < 100000 := by
    have : 10 * SetTable.turns t.mask ≤ 1420 := by
      unfold SetTable.turns
      rcases B.tab.mok with e | e | e <;> omega
    omega
  unfold setSearch
  refine seek B ix ru tN nN bN yes (fun h => no N h nN bN) 100000 0 none rfl (Nat.zero_le _) (by omega) fun n q hq hk => ?_
  have h1 : (L.map fun p => thash P w p.2)[n]? = some (thash P w k) := by rw [List.getElem?_map, hq, ← hk]; rfl
  have h2 : n < t.place.toList.length := by
    have l1 := (List.getElem?_eq_some_iff.mp hq).1
    have l2 := B.tab.sz
    rw [List.length_map] at l2
    rw [Array.length_toList]
    omega
  have h3 := List.getElem?_eq_getElem h2
  obtain ⟨d, d1, d2⟩ := B.tab.before nN h1 h3
  exact ⟨d, Nat.zero_le _, d1, h3.trans (congrArg some d2.symm)⟩
/-- the 64th, and more -/
theorem add_last (R : SW P w s.heap a L es ep t) {x : Addr} {k : List Int} (hx : IsT P w s.heap k x) (hu : A.units < cLine) (full : 63 ≤ L.length) (lt : L.length < 76) {Q : Bool → Shared → Prop}
    (go : ∀ b g L' es' ep' t', Heap.SameBut a s.heap g → SW P w g a L' es' ep' t' → (k ∈ L.map (·.2) → L' = L) → (k ∉ L.map (·.2) → L'.Perm ((x, k) :: L)) → Q b { s with heap := g }) :
    wpAny (model P w) A (setAddHashed a (.ref x) (thash P w k)) Q E s := by
  obtain ⟨o, ho, exact_, dat⟩ := R.ob
  have z1 := R.size
  have mask_eq : t.mask = 127 := by
    have := R.room
    rcases R.tab.mok with e | e | e <;> omega
  unfold setAddHashed
  rw [show (100000 : Nat) = Nat.succ 99999 from rfl, setAddHashedIn_succ]
  refine wpAny_holding (wpAny_bind (wpAny_setState_of ho dat R.fitsW ?_))
  dsimp only
  refine wp_if_neg (by simp [byScan, Value.scannable]) ?_
  try refine wpAny_bind (wpAny_pure ?_)
  refine wpAny_bind (seekW R hx hu (fun there => wpAny_pure (go false s.heap L es ep t (.refl a s.heap) R (fun _ => rfl) fun z => absurd there z)) fun c absent free busy => ?_)
  dsimp only
  refine wpAny_bind (wpAny_setState_of ho dat R.fitsW ?_)
  dsimp only
  obtain ⟨u1, u2, u3, u4, u5, u6, u7, u8, u9⟩ := R.tab.put free busy
  have plain1 : (t.put (way t.mask (thash P w k) c)).1.plain = true := u6.trans R.plain
  generalize eqp : t.put (way t.mask (thash P w k) c) = tp at u1 u3 u4 u5 u6 u7 u8 u9 plain1 ⊢
  obtain ⟨t1, at_⟩ := tp
  dsimp only at u1 u3 u4 u5 u6 u7 u8 u9 plain1 ⊢
  subst u1
  first
    | refine wp_if_pos plain1 (wpAny_bind (hashBy_tup hx ?_))
    | refine wpAny_bind (wp_if_pos plain1 (hashBy_tup hx ?_))
  simp only [if_true]
  have rows1 : (SetTable.insertAt es (SetTable.below t.place (way t.mask (thash P w k) c)) (thash P w k, Value.ref x)).toList = rowsOf P w (L.take (SetTable.below t.place (way t.mask (thash P w k) c)) ++ (x, k) :: L.drop (SetTable.below t.place (way t.mask (thash P w k) c))) :=
    (SetTable.toList_insertAt _ _ _).trans (by rw [rows_put, R.rows])
  generalize SetTable.below t.place (way t.mask (thash P w k) c) = at_ at u2 u3 rows1 ⊢
  have pm : (L.take at_ ++ (x, k) :: L.drop at_).Perm ((x, k) :: L) := L2.put_perm L at_ (x, k)
  rw [← List.map_take, ← List.map_drop, ← List.map_cons (f := fun p : Addr × List Int => thash P w p.2) (a := (x, k)), ← List.map_append] at u3
  generalize L.take at_ ++ (x, k) :: L.drop at_ = L1 at pm u3 rows1
  have len1 : L1.length = L.length + 1 := by rw [pm.length_eq, List.length_cons]
  have size1 : (SetTable.insertAt es at_ (thash P w k, Value.ref x)).size = L.length + 1 := by
    have h := congrArg List.length rows1
    rw [Array.length_toList] at h
    rw [h]
    simpa [rowsOf] using len1
  generalize SetTable.insertAt es at_ (thash P w k, Value.ref x) = es1 at rows1 size1 ⊢
  refine wpAny_bind (wpAny_storeSet_of ho dat ?_ (by rw [size1, sizeLine_eq]; omega))
  have sb : Heap.SameBut a s.heap (s.heap.update a (Obj.putSet es1 t1)) := Heap.SameBut.update ..
  have ho1 := store_at (es' := es1) (t' := t1) ho dat
  generalize s.heap.update a (Obj.putSet es1 t1) = g at sb ho1 ⊢
  have notFull : ¬ t1.tooFull = true := by
    unfold SetTable.tooFull
    rw [decide_eq_true_eq, u9, List.length_map, u4]
    omega
  first
    | refine wp_if_neg (by simp [notFull]) ?_
    | (refine wpAny_bind (wp_if_neg (by simp [notFull]) (wpAny_pure ?_)))
  refine wpAny_pure (go true g L1 es1 (ep + 1) t1 sb ?_ (fun z => absurd z absent) fun _ => pm)
  refine ⟨⟨_, ho1, ⟨exact_.1, exact_.2.1, exact_.2.2⟩, rfl⟩, rows1, u3, ?_, fun p hp => ?_, plain1, by rw [u5]; exact R.led, by rw [len1, u4]; omega, by omega⟩
  · rw [(pm.map (·.2)).nodup_iff, List.map_cons, List.nodup_cons]
    exact ⟨absent, R.nd⟩
  · rcases List.mem_cons.mp (pm.mem_iff.mp hp) with e | e
    · rw [e]
      exact isT_same hx ho dat sb
    · exact isT_same (R.tup p e) ho dat sb
/-- one more, where there are fewer than 76 -/
theorem add_w (R : SW P w s.heap a L es ep t) {x : Addr} {k : List Int} (hx : IsT P w s.heap k x) (hu : A.units < cLine) (lt : L.length < 76) {Q : Bool → Shared → Prop}
    (go : ∀ b g L' es' ep' t', Heap.SameBut a s.heap g → SW P w g a L' es' ep' t' → (k ∈ L.map (·.2) → L' = L) → (k ∉ L.map (·.2) → L'.Perm ((x, k) :: L)) → Q b { s with heap := g }) :
    wpAny (model P w) A (setAddHashed a (.ref x) (thash P w k)) Q E s := by
  by_cases c : L.length + 1 < 64
  · exact add_at (R.few (by omega)) hx hu c fun b g L' es' ep' t' sb R' c1 c2 => go b g L' es' ep' t' sb (SW.of (s := { s with heap := g }) R') c1 c2
  · exact add_last R hx hu (by omega) lt go
end
end TW
set_option Elab.async false
set_option linter.all false
set_option maxRecDepth 100000
set_option maxHeartbeats 4000000
/-! set(xs) and sorted(set) of lots -/
namespace TW
open PySem PySem.Spec PyProof.Rows L2
section
variable {P : Program} {w : World} {A : Around} {E : Value → Shared → Prop} {s : Shared}
theorem SW.keep {h h' : Heap} {a : Addr} {L : List (Addr × List Int)} {es : Array (Int × Value)} {ep : Nat} {t : SetTable} (R : SW P w h a L es ep t) (ka : ∀ o, h.get? a = some o → h'.get? a = some o) (kt : ∀ p ∈ L, IsT P w h' p.2 p.1) : SW P w h' a L es ep t := by
  obtain ⟨o, ho, r⟩ := R.ob
  exact ⟨⟨o, ka o ho, r⟩, R.rows, R.tab, R.nd, kt, R.plain, R.led, R.room, R.most⟩
/-- the loop that adds the items one by one -/
theorem set_loop {I : Addr} {fp wr : List Addr} {G : Array GenState → Array GenState → Prop} {n : Nat} {Pv : Nat → Value → Prop} {St : Nat → Shared → Prop} {R : Result → Shared → Prop}
    (W : WalksS P w A.in1 I fp wr G n Pv St) (S : Addr) (sf : S ∉ fp) (ks : List (Addr × List Int)) (hn : n = ks.length) (most : ks.length ≤ 76) (vals_ : ∀ i v, Pv i v → ∃ p, ks[i]? = some p ∧ v = .ref p.1)
    (h0 : Heap) (tk0 : ∀ p ∈ ks, IsT P w h0 p.2 p.1) (S0 : h0.get? S = none) (w0 : ∀ b ∈ wr, h0.get? b = none) (hu : A.in1.units < cLine) :
    ∀ (m i : Nat) (s : Shared), n - i = m → i ≤ n → St i s → (∀ b o, h0.get? b = some o → s.heap.get? b = some o) → (∃ L es ep t, SW P w s.heap S L es ep t ∧ Got ks i L) →
      (∀ s' L es ep t, Moved (S :: wr) G s s' → SW P w s'.heap S L es ep t → Got ks n L → (∀ b o, h0.get? b = some o → s'.heap.get? b = some o) → R (.ok (.ret .none)) s') →
      codeAny (model P w) A (.builtin "set.update.loop" ⟨[.ref S, .ref I], []⟩) R s := by
  have sw : S ∉ wr := fun h => sf (W.sub _ h)
  have wider : ∀ b ∈ wr, b ∈ S :: wr := fun b hb => List.mem_cons_of_mem _ hb
  have over : ∀ {s s' : Shared}, Moved wr G s s' → (∀ b o, h0.get? b = some o → s.heap.get? b = some o) → ∀ b o, h0.get? b = some o → s'.heap.get? b = some o := fun mv kp b o e =>
    mv.heap b o (fun hb => by rw [w0 b hb] at e; cases e) (kp b o e)
  intro m
  induction m with
  | zero =>
    intro i s hm hi st kp ⟨L, es, ep, t, hS, g⟩ fin
    obtain rfl : i = n := by omega
    refine codeAny_builtin F.entry_set_update_loop ?_
    rw [Around.under_plainId F.plain_set_update_loop _]
    change wpAny _ A.in1 (pyNext (.ref I) >>= _) _ _ s
    refine wpAny_bind (W.done s _ _ st fun s' mv => ?_)
    change wpAny _ A.in1 (ret Value.none) _ _ s'
    have kp' := over mv kp
    exact wpAny_pure (fin s' L es ep t (mv.mono wider) (hS.keep (fun o e => mv.heap S o sw e) fun p hp => isT_keep (tk0 p (List.mem_of_mem_take (g.sub p hp))) kp') g kp')
  | succ m ih =>
    intro i s hm hi st kp ⟨L, es, ep, t, hS, g⟩ fin
    have lt : i < n := by omega
    refine codeAny_builtin F.entry_set_update_loop ?_
    rw [Around.under_plainId F.plain_set_update_loop _]
    change wpAny _ A.in1 (pyNext (.ref I) >>= _) _ _ s
    refine wpAny_bind (W.item i s _ _ lt st fun v s' pv st' mv => ?_)
    obtain ⟨p, hp, rfl⟩ := vals_ i v pv
    have kp' := over mv kp
    have hS' : SW P w s'.heap S L es ep t := hS.keep (fun o e => mv.heap S o sw e) fun q hq => isT_keep (tk0 q (List.mem_of_mem_take (g.sub q hq))) kp'
    have hx : IsT P w s'.heap p.2 p.1 := isT_keep (tk0 p (List.mem_of_getElem? hp)) kp'
    change wpAny _ A.in1 (holding [Value.ref p.1] (setAdd S (.ref p.1)) >>= _) _ _ s'
    refine wpAny_bind (wpAny_holding ?_)
    unfold setAdd
    refine wpAny_holding (wpAny_bind (wpAny_pyHash_tuple hu hx ?_))
    have gl := g.len
    refine add_w (s := { s' with toks := s'.toks + (p.2.length + 1) }) hS' hx hu (by omega) fun b h' L' es' ep' t' sb hS2 c1 c2 => ?_
    have g' : Got ks (i + 1) L' := by
      by_cases c : p.2 ∈ L.map (·.2)
      · rw [c1 c]
        exact g.same hp c
      · exact g.more hp (c2 c)
    have kp2 : ∀ b o, h0.get? b = some o → h'.get? b = some o := fun b o e => (sb.2 b (fun z => by rw [z, S0] at e; cases e)).trans (kp' b o e)
    refine wpAny_pure ⟨plainId_quiet F.plain_set_update_loop _, ih (i + 1) _ (by omega) lt (W.frame _ s' _ _ st' (Nat.le_add_right _ _) fun b hb o e => ?_) kp2 ⟨L', es', ep', t', hS2, g'⟩ fun s'' L2 es2 ep2 t2 mv2 hS3 g3 kp3 => ?_⟩
    · exact (sb.2 b (fun z : b = S => sf (z ▸ hb))).trans e
    · refine fin s'' L2 es2 ep2 t2 (Moved.trans W.gtrans ((mv.mono wider).then_heap (Nat.le_add_right _ _) fun b o hb e => ?_) mv2) hS3 g3 kp3
      exact (sb.2 b (fun z : b = S => hb (z ▸ List.mem_cons_self))).trans e
theorem set_of_lots {l : Addr} {its : Array Value} (ks : List (Addr × List Int)) {Q : Value → Shared → Prop} (noh : A.handled = none) (il : s.heap.IsList l its) (ii : its.toList = ks.map fun p => Value.ref p.1)
    (tk0 : ∀ p ∈ ks, IsT P w s.heap p.2 p.1) (most : ks.length ≤ 76) (hu : A.units + 3 < cLine)
    (go : ∀ (g : Heap) (tk : Nat) L es ep t, SW P w g s.heap.objs.size L es ep t → Got ks ks.length L → (∀ b o, s.heap.get? b = some o → g.get? b = some o) → Q (.ref s.heap.objs.size) { s with heap := g, toks := tk }) :
    wpAny (model P w) A (call (.type "set") [.ref l]) Q E s := by
  have size_eq : its.size = ks.length := by
    have q := congrArg List.length ii
    simpa using q
  have C := F.called_set
  obtain ⟨c, tl, mro⟩ := C.mro
  have made_ := C.made
  have sub_ := C.sub
  have nt := C.notType
  have cc := C.canCreate
  have tc1 := F.typeCall_set_1 (.ref l)
  refine wpAny_call (codeAny_of_tree ?_)
  change wpAny _ _ (callAny (Value.type "set") ⟨[.ref l], []⟩) _ _ _
  refine wpAny_pure ⟨Code.quiet_builtin _ (by decide +kernel), codeAny_builtin F.entry_type_call ?_⟩
  rw [Around.under_plain (weight_type_call_type "set" _ _) rfl]
  repeat (any_goals (first | assumption | wp_step))
  refine codeAny_mono (code_set_led1 (.ref l) (E := E) (Q₁ := fun ob t => ob = .ref s.heap.objs.size ∧ t = { s with heap := s.heap.push (fresh0 w) }) ⟨rfl, rfl⟩) fun r t hr => ?_
  match r, hr with
  | .error e, hr => exact hr
  | .ok (.ret ob), hr =>
    obtain ⟨rfl, rfl⟩ := hr
    have at0 : (s.heap.push (fresh0 w)).get? s.heap.objs.size = some (fresh0 w) := Heap.get?_push_size _ rfl
    have ty0 : Shared.TypeIs { s with heap := s.heap.push (fresh0 w) } (.ref s.heap.objs.size) "set" := ⟨_, at0, rfl⟩
    have look_ := C.init.lookup
    have bind_ := C.init.bind (.ref s.heap.objs.size)
    repeat (any_goals (first | assumption | wp_step))
    refine codeAny_mono (codeAny_call_builtin (R := wants (fun r t => r = .none ∧ ∃ g tk L es ep tt, t = { s with heap := g, toks := tk } ∧ SW P w g s.heap.objs.size L es ep tt ∧ Got ks ks.length L ∧ (∀ b o, s.heap.get? b = some o → g.get? b = some o)) E) C.init.plain F.entry_set_init (check_set_init_1 ty0 ?_)) fun r2 t2 hr2 => ?_
    · obtain ⟨⟨lc, ld, ldat, lsl⟩, lat, e1, nl, e2⟩ := il
      simp only at e1 e2
      subst e1
      subst e2
      have lat1 : (s.heap.push (fresh0 w)).get? l = some { cls := .type "list", dict := ld, data := .seq its nl, slots := lsl } := Heap.get?_push_of_some _ lat
      have k1 := F.sub_list_set
      have k2 := F.sub_list_frozenset
      have k3 : (Value.type "list" == Value.type "dict") = false := by decide
      have il1 : (s.heap.push (fresh0 w)).IsList l its := ⟨_, lat1, rfl, nl, rfl⟩
      unfold Builtin.«set.__init__» noKeywords Builtin.Frozenset.updateFrom
      generalize ePI : pyIter = PI
      wp_walk
      subst ePI
      refine wpAny_pyIter_list il1 (wpAny_bind (wpAny_runValue ?_))
      have ll := Heap.lt_size lat
      have sz1 : (s.heap.push (fresh0 w)).objs.size = s.heap.objs.size + 1 := Heap.size_push ..
      have noh3 : A.in1.in1.in1.handled = none := by simp [noh]
      have nI : l ≠ (s.heap.push (fresh0 w)).objs.size := sz1 ▸ Nat.ne_of_lt (Nat.lt_succ_of_lt ll)
      have nS : s.heap.objs.size ∉ [(s.heap.push (fresh0 w)).objs.size, l] := by
        simp only [List.mem_cons, List.not_mem_nil, or_false, not_or]
        exact ⟨sz1 ▸ Nat.ne_of_lt (Nat.lt_succ_self _), Nat.ne_of_gt ll⟩
      have vals_ : ∀ (i : Nat) (v : Value), its[i]? = some v → ∃ p, ks[i]? = some p ∧ v = .ref p.1 := fun i v hv => by
        have q : its.toList[i]? = some v := by simpa using hv
        rw [ii, List.getElem?_map] at q
        cases hq : ks[i]? with
        | none => rw [hq] at q; cases q
        | some p => rw [hq] at q; exact ⟨p, rfl, (Option.some.inj q).symm⟩
      have beyond : ∀ b, s.heap.objs.size ≤ b → s.heap.get? b = none := fun b hb => by
        cases q : s.heap.get? b with
        | none => rfl
        | some o => exact absurd (Nat.lt_of_lt_of_le (Heap.lt_size q) hb) (Nat.lt_irrefl _)
      refine set_loop ((Walks.list noh3 _ l nI its).toS) s.heap.objs.size nS ks size_eq most vals_ s.heap tk0 (beyond _ (Nat.le_refl _)) (fun b hb => beyond b ?_) hu (its.size - 0) 0 _ (by omega) (Nat.zero_le _)
        ⟨⟨_, Heap.get?_push_size _ rfl, rfl, rfl⟩, il1.push _⟩ (fun b o e => Heap.get?_push_of_some _ (Heap.get?_push_of_some _ e)) ⟨[], #[], 0, _, SW.of (s := { s with heap := _ }) (setTR_fresh (Heap.get?_push_of_some _ at0)), Got.zero ks⟩ ?_
      · rw [List.mem_singleton.mp hb, sz1]
        exact Nat.le_succ _
      · rintro ⟨g, g2, d2, tk, os2⟩ L es ep tt mv R2 got kp
        have z1 : g2 = s.gens := mv.gens
        have z2 : d2 = s.drawn := mv.drawn
        have z3 : os2 = s.os := mv.os
        subst z1 z2 z3
        show wpAny _ _ _ _ _ _
        refine wpAny_pure ?_
        show wpAny _ _ (ret Value.none) _ _ _
        rw [size_eq] at got
        exact wpAny_pure ⟨rfl, g, tk, L, es, ep, tt, rfl, R2, got, kp⟩
    · match r2, hr2 with
      | .error e, hr2 => exact hr2
      | .ok (.ret r3), hr2 =>
        obtain ⟨rfl, g, tk, L, es, ep, tt, rfl, R2, got, kp⟩ := hr2
        repeat (any_goals (first | assumption | wp_step))
        exact go _ _ _ _ _ _ R2 got kp
      | .ok .next, hr2 => exact hr2.elim
      | .ok .brk, hr2 => exact hr2.elim
      | .ok .cont, hr2 => exact hr2.elim
  | .ok .next, hr => exact hr.elim
  | .ok .brk, hr => exact hr.elim
  | .ok .cont, hr => exact hr.elim
end
end TW
set_option Elab.async false
set_option linter.all false
set_option maxRecDepth 100000
set_option maxHeartbeats 4000000
namespace TW
open PySem PySem.Spec PyProof.Rows L2
open PySem.W (EachIs AllAlike Sortable dataLt dataLe dataKind)
/-- as SW, the tuples themselves left out -/
def SW0 (P : Program) (w : World) (h : Heap) (a : Addr) (L : List (Addr × List Int)) : Prop :=
  ∃ (es : Array (Int × Value)) (ep : Nat) (t : SetTable), (∃ o, h.get? a = some o ∧ o.ExactSet ∧ o.data = .set es ep t) ∧ es.toList = rowsOf P w L ∧ TabOk t (L.map fun p => thash P w p.2) ∧ (L.map (·.2)).Nodup ∧ t.plain = true ∧
    (w.params.followText "set-order" = true ∨ t.led = true) ∧ L.length * 5 < t.mask * 3 ∧ L.length ≤ 76
def LotSet (P : Program) (w : World) (a : Addr) (L : List (Addr × List Int)) : HO := .ext fun h => SW0 P w h a L
theorem SW.bare {P : Program} {w : World} {h : Heap} {a : Addr} {L : List (Addr × List Int)} {es : Array (Int × Value)} {ep : Nat} {t : SetTable} (R : SW P w h a L es ep t) : SW0 P w h a L :=
  ⟨es, ep, t, R.ob, R.rows, R.tab, R.nd, R.plain, R.led, R.room, R.most⟩
theorem lotSet_new {P : Program} {w : World} {H : Hp} {h : Heap} {a : Addr} {L : List (Addr × List Int)} (R : SW0 P w h a L) : ObjOk P w H h a (LotSet P w a L) := by
  have ⟨es, ep, t, ⟨o, ho, r⟩, q⟩ := R
  refine ⟨R, ⟨o, ho⟩, fun h1 h2 p k => ?_⟩
  obtain ⟨es', ep', t', ⟨o', ho', r'⟩, q'⟩ := p
  exact ⟨es', ep', t', ⟨o', k o' ho', r'⟩, q'⟩
theorem dups_of {ks L : List (Addr × List Int)} (g : Got ks ks.length L) : (∀ p ∈ L, p ∈ ks) ∧ ∀ p ∈ ks, p.2 ∈ L.map (·.2) :=
  ⟨fun p hp => List.mem_of_mem_take (g.sub p hp), fun p hp => g.all p (by rw [List.take_length]; exact hp)⟩
section
variable {X : Cx} {K : PySem.W.Frag} {P : Program} {w : World}
/-- set(xs), xs a list of up to 76 tuples of ints -/
def rSetL2 (K : PySem.W.Frag) (P : Program) (w : World) : List V → Hp → VK → Prop := fun xs H Q => ∃ (l : Addr) (ks : List (Addr × List Int)), xs = [V.ref l] ∧ SqL K H l (ks.map fun p => V.ref p.1) ∧ (∀ p ∈ ks, SqT K H p.1 (p.2.map V.int)) ∧ ks.length ≤ 76 ∧
  ∀ a L, H a = none → (∀ p ∈ L, p ∈ ks) → (∀ p ∈ ks, p.2 ∈ L.map (·.2)) → (L.map (·.2)).Nodup → Q (.ref a) (upd H a (LotSet P w a L))
theorem cr_setL (hc : X.calm = true) (hu : X.A.units + 64 < cLine) (hK : X.K = K := by rfl) (hP : X.prog = P := by rfl) (hw : X.w = w := by rfl) : CallR X (.type "set") (rSetL2 K P w) := by
  subst hK hP hw
  intro pins s σ H xs us Q I r h
  obtain ⟨l, ks, rfl, hl, hk, hf, q⟩ := h
  rw [Vals.ref1 r]
  obtain ⟨its, rv, pl, hz⟩ := I.list hl
  have hn : H s.heap.objs.size = none := I.hok.fresh (Nat.le_refl _)
  refine set_of_lots (P := X.prog) (w := X.w) ks (I.ok.hd hc) pl.isList (by simpa using refs_of_vals rv) (fun p hp => I.isT (hk p hp)) hf (by omega) fun g tk L es ep t R got kp => ?_
  obtain ⟨d1, d2⟩ := dups_of got
  exact ⟨.ref s.heap.objs.size, upd H s.heap.objs.size (LotSet X.prog X.w s.heap.objs.size L), I.laid (t' := tk) kp (Nat.le_refl _) (lotSet_new R.bare), rfl, q _ L hn d1 d2 R.nd⟩
/-- sorted(a set of tuples of ints) -/
def rSortS (K : PySem.W.Frag) (P : Program) (w : World) : List V → Hp → VK → Prop := fun vs H Q => ∃ (a : Addr) (L : List (Addr × List Int)), vs = [V.ref a] ∧ H a = some (LotSet P w a L) ∧ (∀ p ∈ L, SqT K H p.1 (p.2.map V.int)) ∧
  ∀ (L' : List (Addr × List Int)) (p : Addr), L'.Perm L → L'.Pairwise (fun x y => HT.lexLt y.2 x.2 = false) → H p = none → Q (.ref p) (upd H p (.lst (L'.map fun q => V.ref q.1)))
end
section
variable {P : Program} {w : World} {A : Around} {E : Value → Shared → Prop} {s : Shared}
theorem each_reads : ∀ {vs : List Value} {L : List (Addr × List Int)} {h : Heap}, vs = L.map (fun q => Value.ref q.1) → (∀ q ∈ L, IsT P w h q.2 q.1) → EachIs (fun v (q : Addr × List Int) => ∃ as, Reads h v (tupD q.2) as) vs L
  | [], [], _, _, _ => .nil
  | [], _ :: _, _, e, _ => by cases e
  | _ :: _, [], _, e, _ => by cases e
  | v :: vs, q :: L, h, e, ht => by
    rw [List.map_cons, List.cons.injEq] at e
    obtain ⟨rfl, e2⟩ := e
    refine .cons ?_ (each_reads e2 fun r hr => ht r (List.mem_cons_of_mem _ hr))
    obtain ⟨o, items, n, ho, hc, hd, hi⟩ := ht q List.mem_cons_self
    have rd : ∀ {k : List Int} {us : List Value}, ItemsAre (intKind P w) k us → ∃ as, ReadsAll h us (k.map .int) as := by
      intro k us hi
      induction hi with
      | nil => exact ⟨_, .nil⟩
      | @cons k0 v ks vs h1 _ ih =>
        obtain ⟨t, rfl⟩ := Value.isInt_shape h1
        obtain ⟨as, r⟩ := ih
        exact ⟨_, .cons (.int _ _) r⟩
    obtain ⟨as, r⟩ := rd hi
    exact ⟨_, .tuple ho hc hd r⟩
theorem perm_map_ex {α β : Type} [DecidableEq α] {f : α → β} : ∀ {vs : List β} {L : List α}, vs.Perm (L.map f) → ∃ L1 : List α, L1.Perm L ∧ vs = L1.map f
  | [], L, h => by
    have e : L.map f = [] := h.symm.eq_nil
    have e2 : L = [] := by simpa using e
    exact ⟨[], by rw [e2], rfl⟩
  | v :: vs, L, h => by
    obtain ⟨q, hq, e⟩ := List.mem_map.mp (h.mem_iff.mp List.mem_cons_self)
    have p1 := List.perm_cons_erase hq
    have p2 : (v :: vs).Perm (f q :: (L.erase q).map f) := h.trans (p1.map f)
    rw [e] at p2
    obtain ⟨L1, h1, h2⟩ := perm_map_ex p2.cons_inv
    exact ⟨q :: L1, (h1.cons q).trans p1.symm, by rw [List.map_cons, e, h2]⟩
theorem lexLe_pw (bs : List (Addr × List Int)) : (bs.mergeSort (dataLe false (fun q => tupD q.2))).Pairwise (fun x y => HT.lexLt y.2 x.2 = false) := by
  have T := PySem.W.sortLe_total (PyProof.Rows.listOrd PyProof.Rows.itemOrd) false (fun b : Addr × List Int => PySem.W.keyToks (tupD b.2))
  have e : dataLe false (fun b : Addr × List Int => tupD b.2) = PySem.W.sortLe (PyProof.Rows.listOrd PyProof.Rows.itemOrd) false (fun b : Addr × List Int => PySem.W.keyToks (tupD b.2)) := rfl
  have h := List.pairwise_mergeSort (le := dataLe false (fun b : Addr × List Int => tupD b.2)) (fun a b c h1 h2 => by rw [e] at h1 h2 ⊢; exact T.trans a b c h1 h2) (fun a b => by rw [e]; rcases T.total a b with h | h <;> simp [h]) bs
  refine h.imp fun {x y} h => ?_
  have h' : (!dataLt (tupD y.2) (tupD x.2)) = true := h
  rw [Bool.not_eq_true', lt_tupD] at h'
  exact h'
theorem sorted_lotset {a : Addr} {L : List (Addr × List Int)} {es : Array (Int × Value)} {ep : Nat} {t : SetTable} {Q : Value → Shared → Prop} (R : SW P w s.heap a L es ep t) (noh : A.handled = none) (hu : A.units + 64 < cLine)
    (go : ∀ s' p (out : List Value) (c : Nat) (L' : List (Addr × List Int)), (∀ b o, s.heap.get? b = some o → s'.heap.get? b = some o) → s'.gens = s.gens → s'.os = s.os → s.heap.objs.size ≤ p →
      s'.heap.get? p = some (seqObj "list" out.toArray c) → EachIs (fun v q => v = Value.ref q.1) out L' → L'.Perm L → L'.Pairwise (fun x y => HT.lexLt y.2 x.2 = false) → Q (.ref p) s') :
    wpAny (model P w) A (call (.builtin "sorted") [.ref a]) Q E s := by
  obtain ⟨o, ho, ex_, dat⟩ := R.ob
  have sz := R.size
  have most := R.most
  have fits : t.fits es.size = true := by
    have h1 := R.tab.sz
    rw [List.length_map] at h1
    have h3 := R.room
    unfold SetTable.fits SetTable.fill
    rw [R.tab.dm, Bool.and_eq_true, beq_iff_eq, decide_eq_true_eq]
    constructor
    · omega
    · change t.place.size + 0 ≤ t.mask
      omega
  refine Calls.call_function_entry kind_sorted plain_sorted entry_sorted (args_sorted1 _) ?_
  unfold Builtin.«sorted»
  refine wpAny_bind (m := checkCount "sorted" 1 1 _) (wpAny_pure ?_)
  refine wpAny_bind (collect_set (A := A.in1) noh ⟨o, ho, ex_.1, dat⟩ fits (by unfold scanBound; omega) R.tab.ris R.led fun s1 vs k1 hz g1 o1 pm => ?_)
  have es2 : es.toList.map (·.2) = L.map fun q => Value.ref q.1 := by
    rw [R.rows]
    simp [rowsOf]
  rw [es2] at pm
  obtain ⟨L1, pL, rfl⟩ := perm_map_ex pm
  have lenL : (L1.map fun q => Value.ref q.1).length ≤ sizeLine := by
    rw [List.length_map, pL.length_eq, sizeLine_eq]
    omega
  refine wpAny_bind (wpAny_newList ?_ lenL)
  have at1 : (s1.heap.push (seqObj "list" (L1.map fun q => Value.ref q.1).toArray 0)).get? s1.heap.objs.size = some (seqObj "list" (L1.map fun q => Value.ref q.1).toArray 0) := Heap.get?_push_size _ rfl
  have keep1 : ∀ b u, s.heap.get? b = some u → (s1.heap.push (seqObj "list" (L1.map fun q => Value.ref q.1).toArray 0)).get? b = some u := fun b u e => Heap.get?_push_of_some _ (k1 b u e)
  generalize hg : s1.heap.push (seqObj "list" (L1.map fun q => Value.ref q.1).toArray 0) = g at at1 keep1 ⊢
  have keep2 : ∀ b u, s.heap.get? b = some u → (PySem.W.sortingHeap g s1.heap.objs.size (L1.map fun q => Value.ref q.1)).get? b = some u := fun b u e =>
    PySem.W.sortingHeap_old (Nat.ne_of_lt (Nat.lt_of_lt_of_le (Heap.lt_size e) hz)) (keep1 b u e)
  have er := each_reads (P := P) (w := w) (h := PySem.W.sortingHeap g s1.heap.objs.size (L1.map fun q => Value.ref q.1)) rfl fun q hq => isT_keep (R.tup q (pL.mem_iff.mp hq)) keep2
  have S : PySem.W.SortsAt P w A.in1.in1 { s1 with heap := PySem.W.sortingHeap g s1.heap.objs.size (L1.map fun q => Value.ref q.1) } (dataKind (PySem.W.sortingHeap g s1.heap.objs.size (L1.map fun q => Value.ref q.1)) (L1.map fun q => tupD q.2)) (L1.map fun q => Value.ref q.1) := by
    refine sorts_lots (PySem.W.each_map (R := fun v d => ∃ as, Reads (PySem.W.sortingHeap g s1.heap.objs.size (L1.map fun q => Value.ref q.1)) v d as) (fun q : Addr × List Int => tupD q.2) er) (fun d hd => ?_) (by change A.units + 1 + 1 + 5 < cLine; omega)
    obtain ⟨q, _, rfl⟩ := List.mem_map.mp hd
    exact ⟨_, rfl⟩
  have hal : AllAlike (L1.map fun q => tupD q.2) := fun d hd d' hd' => by
    obtain ⟨q, _, rfl⟩ := List.mem_map.mp hd
    obtain ⟨q', _, rfl⟩ := List.mem_map.mp hd'
    exact alike_tupD _ _
  have e0 : EachIs (fun v (q : Addr × List Int) => v = Value.ref q.1) (L1.map fun q => Value.ref q.1) L1 := by
    clear S er keep2 keep1 at1 hg pm lenL pL hal
    induction L1 with
    | nil => exact .nil
    | cons q r ih => exact .cons rfl ih
  have eo := PySem.W.sortVals_data (h' := PySem.W.sortingHeap g s1.heap.objs.size (L1.map fun q => Value.ref q.1)) (enc := fun q : Addr × List Int => tupD q.2) false e0 er hal
  refine wpAny_bind (wpAny_holding (wpAny_call_entry slot_list_sort ⟨_, at1, rfl⟩ entry_list_sort (PySem.W.list_sort_vals at1 S lenL ⟨_, rfl, ?_⟩) (args_list_sort _)))
  generalize PySem.W.sortVals (dataKind (PySem.W.sortingHeap g s1.heap.objs.size (L1.map fun q => Value.ref q.1)) (L1.map fun q => tupD q.2)) false (L1.map fun q => Value.ref q.1) (L1.map fun q => Value.ref q.1) = out at eo
  obtain ⟨c, hc⟩ := sortedHeap_at (vs := L1.map fun q => Value.ref q.1) (out := out.toArray) at1
  refine wpAny_pure ⟨_, rfl, go _ s1.heap.objs.size out c _ (fun b u e => ?_) g1 o1 hz hc eo ((List.mergeSort_perm _ _).trans pL) (lexLe_pw L1)⟩
  have q := keep1 b u e
  change (sortedHeap g s1.heap.objs.size _ _).get? b = some u
  rw [sortedHeap_old (Nat.ne_of_lt (Nat.lt_of_lt_of_le (Heap.lt_size e) hz)) (Heap.lt_size q)]
  exact q
end
section
variable {X : Cx} {K : PySem.W.Frag} {P : Program} {w : World}
theorem vals_of_refEach : ∀ {us : List Value} {L : List (Addr × List Int)}, EachIs (fun v q => v = Value.ref q.1) us L → Vals (L.map fun q => V.ref q.1) us
  | _, _, .nil => .nil
  | _, _, .cons r t => .cons r (vals_of_refEach t)
theorem cr_sortS (hc : X.calm = true) (hu : X.A.units + 64 < cLine) (hK : X.K = K := by rfl) (hP : X.prog = P := by rfl) (hw : X.w = w := by rfl) : CallR X (.builtin "sorted") (rSortS K P w) := by
  subst hK hP hw
  intro pins s σ H vs us Q I r h
  obtain ⟨a, L, rfl, ha, hk, q⟩ := h
  obtain ⟨es, ep, t, h1, h2, h3, h4, h5, h6, h7, h8⟩ := (I.hok a _ ha).1
  rw [Vals.ref1 r]
  refine sorted_lotset (P := X.prog) (w := X.w) ⟨h1, h2, h3, h4, fun p hp => I.isT (hk p hp), h5, h6, h7, h8⟩ (I.ok.hd hc) hu fun s' p out c L' kp gp op hp hg heach pm pw => ?_
  have hlen : (L'.map fun q => V.ref q.1).length ≤ sizeLine := by rw [List.length_map, pm.length_eq, sizeLine_eq]; omega
  have hn : H p = none := I.hok.fresh hp
  have J : Inv X pins σ (upd H p (.lst (L'.map fun q => V.ref q.1))) { s with heap := s'.heap, gens := s'.gens, drawn := s'.drawn, toks := s'.toks } :=
    I.call (ch := []) (Un.laid kp hp hn) (I.hok.laid kp hp ⟨hlen, out, c, vals_of_refEach heach, hg⟩) (by rw [gp]; exact I.bare) (fun _ z => absurd z List.not_mem_nil)
  have e : s' = { s with heap := s'.heap, gens := s'.gens, drawn := s'.drawn, toks := s'.toks } := by
    obtain ⟨x1, x2, x3, x4, x5⟩ := s'
    cases op
    rfl
  rw [e]
  exact ⟨.ref p, _, J, rfl, q L' p pm pw hn⟩
end
end TW
set_option Elab.async false
set_option linter.all false
set_option maxRecDepth 100000
set_option maxHeartbeats 2000000
/-! for x in o, o of an own class whose __iter__ hands out iter(its tuple) -/
namespace TW
open PySem PySem.Spec PyProof.Rows L2
def tupIt (t : Addr) : Obj := { cls := .type "tuple_iterator", data := .fields #[.ref t, .int 0 0] }
/-- at it a new iterator over the tuple at t -/
def TiO (t it : Addr) : HO := .ext fun h => h.get? it = some (tupIt t)
def rIterT (K : PySem.W.Frag) (n : Nat) : List V → Hp → VK → Prop := fun vs H Q => ∃ (t : Addr) (zs : List V), vs = [.ref t] ∧ SqT K H t zs ∧ ∀ it, H it = none → n ≤ it → Q (.ref it) (upd H it (TiO t it))
theorem run_iterT {prog : Program} {w : World} {A : Around} {E : Value → Shared → Prop} {s : Shared} {t : Addr} {items : Array Value} {Q : Value → Shared → Prop} (ht : s.heap.IsTuple t items)
    (h : Q (.ref s.heap.objs.size) { s with heap := s.heap.push (tupIt t) }) : wpAny (model prog w) A (call (.builtin "iter") [.ref t]) Q E s := by
  refine Calls.call_function_entry (by decide +kernel) (by decide +kernel) PySem.W.kdk_entry_iter (PySem.W.kdk_args_iter _) ?_
  unfold Builtin.«iter»
  refine wpAny_bind (m := someArgs "iter" 1 2 _) (wpAny_of_eq (a := [Value.ref t]) (by first | rfl | kernel_rfl!) (wpAny_bind (wpAny_pyIter_tuple ht ?_)))
  exact wpAny_pure ⟨_, rfl, h⟩
section
variable {X : Cx}
theorem call_iterT {K : PySem.W.Frag} {n : Nat} (hK : X.K = K := by rfl) (hn : X.s_0.heap.objs.size = n := by rfl) : CallR X (.builtin "iter") (rIterT K n) := by
  subst hK hn
  intro pins s σ H vs us Q I r h
  obtain ⟨t, zs, rfl, hz, q⟩ := h
  cases Vals.ref1 r
  obtain ⟨its, rv, p, _⟩ := I.tuple hz
  exact run_iterT (show s.heap.IsTuple t its.toArray from p) ⟨.ref s.heap.objs.size, _, I.laid (t' := s.toks) (fun b u e => Heap.get?_push_of_some _ e) (Nat.le_refl _)
    (show ObjOk X.prog X.w _ _ s.heap.objs.size (TiO t s.heap.objs.size) from ⟨Heap.get?_push_size _ rfl, ⟨_, Heap.get?_push_size _ rfl⟩, fun _ _ z k => k _ z⟩), rfl, q _ (I.hok.fresh (Nat.le_refl _)) I.sz⟩
end
/-- a def that promises more of a call where the heap is this big -/
def FnY (P : Program) (w : World) (K : PySem.W.Frag) (mg : Str → Option Value) (base : Heap) (k : Nat) (f : Addr) (fd : FuncData) (ps : List Str) (sp : Nat → Sp) : Prop :=
  ∀ (A : Around) (outer : List Env) (s : Shared) (H : Hp) (us : List Value) (vs : List V) (Q : VK) , Room k A → Env0 P w K mg base A outer s H → BindsTo s fd ⟨us, []⟩ (ps.zip us) → Vals vs us → vs.length = ps.length → sp s.heap.objs.size vs H Q E0 →
    codeAny (model P w) A (.call (.ref f) ⟨us, []⟩) (CR CX0 outer P w H s Q E0) s
theorem Fun.okY {P : Program} {w : World} {K : PySem.W.Frag} {mg : Str → Option Value} {base : Heap} {k : Nat} {x qual : Str} {st : Stmt} {f : Addr} {fd : FuncData} {N ps : List Str} {sp : Nat → Sp} (F : Fun K x qual st f fd) (S : FnScope N ps (defScope st))
    (hb : ∀ (cdv : Value) (A : Around) (outer : List Env) (s : Shared) (H : Hp) (vs : List V) (Q : VK), Room k (A.deeper (envOfC qual (defScope st) s.heap.objs.size f cdv)) → sp s.heap.objs.size vs H Q E0 →
      ∃ t, PSs (cxOf CX0 P w K mg base N qual (defScope st) f cdv A outer s H E0) (defBody st) t ∧ t { nx := fun _ H' => Q .non H', rt := Q } (start N vs) H) : FnY P w K mg base (k + 1) f fd ps sp := by
  obtain ⟨oc, od, kV, doc, pm, an, cdv, ct, osl, rfl, lk, hcd⟩ := F.ex
  intro A outer s H us vs Q hr e0 hbd r hl hsp
  have KX : K.In s.heap := e0.mod.kin.keeps fun b o e => (e0.bs b o e).1
  have hkind : ∀ y ∈ ps.zip us, (defScope st).names.lookup y.1 = some .local ∨ ((defScope st).names.lookup y.1 = some .cell ∧ ((cellsFrom (s.heap.objs.size + 1) (defScope st).names []).lookup y.1).isSome = true) := by
    rintro ⟨n, v⟩ hy
    exact (S.par n (List.of_mem_zip hy).1).imp id fun q => ⟨q, PySem.W.cellsFrom_some _ _ _ (.inl q)⟩
  refine codeAny_call_function hr.depth (KX _ _ lk) rfl S.co S.gen rfl (PySem.W.codeRec_of KX hcd) (hbd _ _ _ _ (wpAny_newFunctionEnv_cells S.kind hkind ?_))
  rintro env rfl s1 x
  refine ⟨(e0.mod.nolimit.keeps fun b o e => (e0.bs b o e).1).keeps x.toInCall.keep, codeAny_func ?_⟩
  obtain ⟨t, ht, hq⟩ := hb cdv A outer s H vs Q (hr.deeper _) hsp
  refine wpAny_mono (ht.run [] s1 (start N vs) H _ (inv_start S hr.hd e0 hl r x) hq) (fun fl s' hs => ?_) fun e s' hs => hs
  cases fl with
  | ret u => exact hs.elim fun v z => z.elim fun σ' z => z.elim fun H' z => ⟨v, H', z.1.os, z.1.bare, z.1.base, z.1.hok, z.2.1, z.2.2⟩
  | next => exact hs.elim fun σ' z => z.elim fun H' z => ⟨V.non, H', z.1.os, z.1.bare, z.1.base, z.1.hok, rfl, z.2⟩
  | brk => exact hs.elim fun _ z => z.elim fun _ z => z.elim fun _ z => z.elim
  | cont => exact hs.elim fun _ z => z.elim fun _ z => z.elim fun _ z => z.elim
/-- what such an __iter__ promises: an iterator that was not there -/
def spIt (K : PySem.W.Frag) (C : Addr) (f : Str) : Nat → Sp := fun n vs H Q _ => ∃ a dx fs l zs, vs = [.ref a] ∧ H a = some (.ins C dx fs) ∧ fs.lookup f = some (.ref l) ∧ SqT K H l zs ∧ ∀ it, H it = none → n ≤ it → Q (.ref it) (upd H it (TiO l it))
def iOwn (K : PySem.W.Frag) (C : Addr) (f : Str) (te : TE) : TI := fun σ H R => te σ H fun x H1 => ∃ a dx fs l zs, x = .ref a ∧ H1 a = some (.ins C dx fs) ∧ fs.lookup f = some (.ref l) ∧ SqT K H1 l zs ∧ R (Itt K l) H1
theorem pi_own {X : Cx} {tg e : Expr} {te : TE} {k : Nat} {C fi : Addr} {fd : FuncData} {f : Str} (he : PE X e te) (h1 : PySem.W.findIn X.K (.ref C) "__iter__" = some (some (.ref fi))) (h2 : PySem.W.isFn X.K (.ref fi) = true)
    (F : FnY X.prog X.w X.K X.mg X.base k fi fd ["self"] (spIt X.K C f)) (b : Binds X.K fd ["self"] []) (hr : Room k X.A) : PI X tg e (iOwn X.K C f te) := by
  refine ⟨fun pins s σ H R I h => thn (he.run pins s σ H _ I h) fun v s1 y => ?_⟩
  obtain ⟨x, H1, I1, r1, a, dx, fs, l, zs, rfl, ha, hf, hz, q⟩ := y
  cases r1
  obtain ⟨mA, O, _⟩ := ins_get I1.hok ha
  obtain ⟨od, J, _⟩ := O.look
  obtain ⟨m, hF⟩ := I1.fr
  refine PySem.W.owit_iter hF I1.ok.mod.kin J h1 h2 (wpAny_call (codeAny_mono (F X.A X.stack s1 H1 [.ref a] [.ref a] (fun v H' => ∃ it, v = .ref it ∧ H1 it = none ∧ s1.heap.objs.size ≤ it ∧ H' = upd H1 it (TiO l it)) hr I1.env0 ?_ (.cons rfl .nil) rfl ?_) fun r s' hq => ?_))
  · have z := b s1 [.ref a] I1.kIn rfl
    rw [List.append_nil] at z
    exact z
  · exact ⟨a, dx, fs, l, zs, rfl, ha, hf, hz, fun it n1 n2 => ⟨it, rfl, n1, n2, rfl⟩⟩
  · cases r with
    | error er => exact hq.elim
    | ok fl =>
      cases fl with
      | next => exact hq.elim
      | brk => exact hq.elim
      | cont => exact hq.elim
      | ret u =>
        obtain ⟨v, H', I2, rv, it, rfl, n1, n2, rfl⟩ := I1.after hq
        cases rv
        have ho : s'.heap.get? it = some (tupIt l) := (I2.hok it _ upd_same).1
        unfold PySem.W.OwitIt
        refine wpAny_specialOf ⟨_, ho, rfl⟩ PySem.F.slot_tuple_iterator_next.lookup ?_
        have I3 := ItX.inv_drop I2 upd_same
        have fp := ItX.inv_fp I2 upd_same (Nat.le_trans I1.sz n2)
        rw [ItX.dropH_upd n1] at I3 fp
        refine ⟨it, [it], fun i h => h.IsTupleIter it l i, Itt X.K l, H1, rfl, I3, turn_tuple l it, ⟨_, ho, rfl, rfl⟩, fun b hb => ?_, q⟩
        rw [List.mem_singleton.mp hb]
        exact fp
end TW
set_option Elab.async false
set_option linter.all false
set_option maxRecDepth 100000
set_option maxHeartbeats 4000000
namespace TW
open PySem PySem.Spec PyProof.Rows L2
/-! tables -/
theorem tl_ne : ¬ (("_lots" : Str) = "_things") := by decide +kernel
def tf (n : Nat) (l : Addr) : List (Str × V) := putF "_lots" (.ref l) (putF "_things" (.int n) [])
theorem tf_things (n : Nat) (l : Addr) : (tf n l).lookup ("_things" : Str) = some (.int n) := by
  unfold tf
  rw [lookup_putF, if_neg (fun h => tl_ne h.symm), lookup_putF, if_pos rfl]
theorem tf_lots (n : Nat) (l : Addr) : (tf n l).lookup ("_lots" : Str) = some (.ref l) := by
  unfold tf
  rw [lookup_putF, if_pos rfl]
abbrev Lots := List (Addr × List Int)
def refs (L : Lots) : List V := L.map fun p => V.ref p.1
def InLots (H : Hp) (L : Lots) : Prop := ∀ p ∈ L, H p.1 = some (.tup (p.2.map V.int))
theorem InLots.ex {H H' : Hp} {L : Lots} (e : Ex H H') (h : InLots H L) : InLots H' L := fun p hp => e _ _ (h p hp)
def TabAt (C : Addr) (H : Hp) (a : Addr) (n : Nat) (L : Lots) : Prop := ∃ dx l, H a = some (.ins C dx (tf n l)) ∧ H l = some (.tup (refs L)) ∧ InLots H L
theorem TabAt.ex {C : Addr} {H H' : Hp} {a : Addr} {n : Nat} {L : Lots} (e : Ex H H') (h : TabAt C H a n L) : TabAt C H' a n L := by
  obtain ⟨dx, l, h1, h2, h3⟩ := h
  exact ⟨dx, l, e _ _ h1, e _ _ h2, h3.ex e⟩
/-- what of the lots a table keeps -/
def LotsOf (ks L : Lots) : Prop := (∀ p ∈ L, p ∈ ks) ∧ (∀ p ∈ ks, p.2 ∈ L.map (·.2)) ∧ (L.map (·.2)).Nodup ∧ L.Pairwise (fun x y => HT.lexLt y.2 x.2 = false)
structure TC (K : PySem.W.Frag) (mg : Str → Option Value) (C : Addr) : Prop where
  cl : Cls K C
  ins : C8.InsC K C
  nT : NoAttr K C "_things"
  nL : NoAttr K C "_lots"
  mg : mg "Table" = some (.ref C)
section
variable {P : Program} {w : World} {K : PySem.W.Frag} {mg : Str → Option Value} {base : Heap} {C : Addr}
/-! check_things -/
theorem sc_check_things : FnScope ["things"] ["things"] (defScope s_check_things) := ⟨rfl, rfl, rfl, by decide +kernel, rfl, by decide +kernel, by decide +kernel⟩
def spCheckThings : Sp := fun vs H Q _ => ∃ n : Nat, vs = [.int n] ∧ 0 < n ∧ Q .non H
theorem ok_check_things (D : Dfn K mg "check_things" s_check_things ["things"]) (O_is_integer : Ok P w K mg base 1 "is_integer" ["value", "least"] spIsInt) : Ok P w K mg base 2 "check_things" ["things"] spCheckThings := D.ok fun f fd F => by
  refine F.ok sc_check_things (fun vs H Q E h => ?_) (fun cdv A outer s H vs Q E hr h => ?_)
  · obtain ⟨n, rfl, _⟩ := h
    rfl
  · obtain ⟨n, rfl, hn, q⟩ := h
    refine ⟨_, (pss_one (ps_if (pt_not (pt_val (pe_o O_is_integer hr (pa_cons (pv 0) (pa_cons pe_int pa_nil))))) (pss_one ps_never) pss_nil)), ?_⟩
    refine ⟨_, rfl, n, 1, rfl, ?_⟩
    rw [decide_eq_true (show (1 : Int) ≤ n by omega)]
    exact ⟨_, rfl, q⟩
/-! Table.__init__ -/
theorem sc_Table_init : FnScope ["self", "things", "lots", "lot"] ["self", "things", "lots"] (defScope s_Table_init) := ⟨rfl, rfl, rfl, by decide +kernel, rfl, by decide +kernel, by decide +kernel⟩
def lotsIn (n : Nat) (ks : Lots) : Prop := ks ≠ [] ∧ ks.length ≤ 64 ∧ ∀ p ∈ ks, isLot p.2 (some (n : Int)) = true ∧ p.2.length ≤ 1000
def spInit (C : Addr) : Sp := fun vs H Q _ => ∃ (G : Hp) (l : List (Addr × HO)) (a dx ll : Addr) (n : Nat) (ks : Lots), vs = [.ref a, .int n, .ref ll] ∧ Has G H ((a, .ins C dx []) :: l) ∧ H ll = some (.lst (refs ks)) ∧ ll ≠ a ∧ InLots G ks ∧ 0 < n ∧ lotsIn n ks ∧
  ∀ (G' H' : Hp) (dl : Addr) (L : Lots), Ex G G' → Has G' H' ((a, .ins C dx (tf n dl)) :: l) → G' dl = some (.tup (refs L)) → LotsOf ks L → Q .non H'
theorem ok_init {f : Addr} {fd : FuncData} (F : Fun K "__init__" "Table.__init__" s_Table_init f fd) (z : Z mg) (T : TC K mg C) (O_check_things : Ok P w K mg base 2 "check_things" ["things"] spCheckThings) (O_is_lot : Ok P w K mg base 3 "is_lot" ["value", "things"] (spIsLot K)) :
    FnOk P w K mg base CX0 4 f fd ["self", "things", "lots"] (spInit C) := by
  refine F.ok sc_Table_init (fun vs H Q E h => ?_) (fun cdv A outer s H vs Q E hr h => ?_)
  · obtain ⟨G, l, a, dx, ll, n, ks, rfl, _⟩ := h
    rfl
  · obtain ⟨G, l, a, dx, ll, n, ks, rfl, S, hll, nla, hks, hn, ⟨ne, l64, hlot⟩, q⟩ := h
    refine ⟨_, (pss_cons (ps_expr (pe_o O_check_things (hr.mono (by decide)) (pa_cons (pv 1) pa_nil)))
      (pss_cons (ps_if (PW.pt (pw_or (pt_cmpR op_isNotTy (pe_callTy call_type1 (by rfl) z.type (by decide +kernel) (pa_cons (pv 2) pa_nil)) (pe_tyn (n := "list") (by rfl) z.list (by decide +kernel)) (nomark _)) (pw_or1 (pt_cmpR op_eq (pe_callB call_len_seq (by rfl) z.len PySem.boot_len (pa_cons (pv 2) pa_nil)) pe_int (nomark _))))) (pss_one ps_never) pss_nil)
      (pss_cons (ps_if (pt_not (pt_val (pe_callB (cr_all rfl) (by rfl) z.all (by decide +kernel) (pa_cons (pe_lc (own := [("lot", 3)]) (g := gName 3) rfl sc_Table_init.nd (pi_list (pv 2)) (blkOk_by (N := ["self", "things", "lots", "lot"]) (own := [("lot", 3)]) (sc := defScope s_Table_init) (by decide +kernel)) (fun _ _ _ _ _ => pg_name (i := 3) sc_Table_init.nd rfl (Or.inl rfl)) (fun _ _ _ _ _ => pts_nil) (fun _ _ _ _ _ => (pe_o O_is_lot hr (pa_cons (pv 3) (pa_cons (pv 1) pa_nil))))) pa_nil)))) (pss_one ps_never) pss_nil)
      (pss_cons (ps_fld (pv 0) (pv 1) rfl)
      (pss_one (ps_fld (pv 0) (pe_callTy call_tuple_of (by rfl) z.tuple (by decide +kernel) (pa_cons (pe_callB (cr_sortS (K := K) (P := P) (w := w) rfl hr.units) (by rfl) z.sorted (by decide +kernel) (pa_cons (pe_callTy (cr_setL (K := K) (P := P) (w := w) rfl hr.units) (by rfl) z.set (by decide +kernel) (pa_cons (pv 2) pa_nil)) pa_nil)) pa_nil)) rfl)))))), ?_⟩
    refine ⟨_, rfl, n, rfl, hn, ?_⟩
    refine ⟨_, rfl, _, _, rfl, .lst (Evl.sq_of hll), _, _, rfl, rfl, _, rfl, ?_⟩
    have lks : (refs ks).length = ks.length := by unfold refs; rw [List.length_map]
    refine ⟨_, rfl, ll, _, rfl, .inl (Evl.sq_of hll), rfl, _, rfl, ?_⟩
    have hne : ¬ (V.int (((refs ks).length : Nat) : Int) = V.int 0) := by
      intro e
      have e2 := V.int.inj e
      rw [lks] at e2
      exact ne (List.length_eq_zero_iff.mp (by omega))
    rw [decide_eq_false hne]
    refine iteF ?_
    refine ⟨_, rfl, ll, rfl, ⟨_, Evl.sq_of hll⟩, fun Dl hD => ?_⟩
    have nDl : ll ≠ Dl := ne_of_none hll hD
    refine lc_list (K := K) (a := ll) (xs := refs ks) (fun i H' => Ex H H' ∧ H' Dl = some (.lst ((List.replicate i true).map V.bl))) ⟨Evl.Ex.new hD, by rw [upd_same]; rfl⟩ (fun i H' _ p => Evl.sq_of (p.1 _ _ hll)) ?_ ?_
    · rintro i x H1 hi ⟨e1, h1⟩
      obtain ⟨p, hp, rfl⟩ : ∃ p, ks[i]? = some p ∧ x = V.ref p.1 := by
        unfold refs at hi
        rw [List.getElem?_map] at hi
        cases e : ks[i]? with
        | none => rw [e] at hi; cases hi
        | some p => rw [e] at hi; exact ⟨p, rfl, (Option.some.inj hi).symm⟩
      have hpm := List.mem_of_getElem? hp
      have hi2 := (List.getElem?_eq_some_iff.mp hp).1
      refine ⟨rfl, _, rfl, _, rfl, p.1, p.2, some (n : Int), rfl, Evl.st_of (e1 _ _ (S.ex _ _ (hks p hpm))), (hlot p hpm).2, fun H2 e2 => ?_⟩
      rw [(hlot p hpm).1]
      refine ⟨_, e2 _ _ h1, szl (by rw [List.length_map, List.length_replicate]; omega), Evl.Ex.mut (e1.trans e2) hD, ?_⟩
      rw [upd_same, List.replicate_succ', List.map_append]
      rfl
    · rintro H1 ⟨e1, h1⟩
      refine ⟨Dl, _, rfl, Evl.sq_of h1, _, rfl, ?_⟩
      have ea : (List.replicate (refs ks).length true).all id = true := by simp
      rw [ea]
      have S1 := S.go e1
      refine ⟨_, rfl, _, rfl, a, C, dx, [], rfl, S1.get 0 rfl, T.cl, T.nT, (by show 0 < 1000; decide), ?_⟩
      have S2 : Has G _ ((a, .ins C dx (putF "_things" (.int n) [])) :: l) := S1.set 0 rfl
      have hll2 : (upd H1 a (.ins C dx (putF "_things" (.int n) []))) ll = some (.lst (refs ks)) := Eq.trans (upd_ne nla) (e1 _ _ hll)
      generalize upd H1 a (.ins C dx (putF "_things" (.int n) [])) = H2 at S2 hll2
      refine ⟨_, rfl, ll, ks, rfl, Evl.sq_of hll2, fun p hp => Evl.st_of (S2.ex _ _ (hks p hp)), Nat.le_trans l64 (by decide), fun st L nst h1' h2' h3' => ?_⟩
      have S3 := S2.new (o := LotSet P w st L) nst
      generalize upd H2 st (LotSet P w st L) = H3 at S3
      refine ⟨st, L, rfl, S3.get 0 rfl, fun p hp => Evl.st_of (S3.ex _ _ (hks p (h1' p hp))), fun L' u pm hs nu => ?_⟩
      have S4 := S3.new (o := .lst (L'.map fun q => V.ref q.1)) nu
      generalize upd H3 u (.lst (L'.map fun q => V.ref q.1)) = H4 at S4
      refine ⟨u, _, rfl, .inl ⟨Evl.sq_of (S4.get 0 rfl), fun t nt => ?_⟩⟩
      have S5 := S4.new (o := .tup (L'.map fun q => V.ref q.1)) nt
      generalize upd H4 t (.tup (L'.map fun q => V.ref q.1)) = H5 at S5
      refine ⟨_, rfl, a, C, dx, _, rfl, S5.get 3 rfl, T.cl, T.nL, (by show 1 < 1000; decide), ?_⟩
      have S6 : Has G _ ((t, .tup (L'.map fun q => V.ref q.1)) :: (u, _) :: (st, _) :: (a, .ins C dx (tf n t)) :: l) := S5.set 3 rfl
      have S7 := S6.drop2.drop2
      exact q _ _ t L' S7.exS S7.sink upd_same ⟨fun p hp => h1' p (pm.mem_iff.mp hp), fun p hp => ((pm.map (·.2)).mem_iff).mpr (h2' p hp), ((pm.map (·.2)).nodup_iff).mpr h3', hs⟩
end
end TW
set_option Elab.async false
set_option linter.all false
set_option maxRecDepth 100000
set_option maxHeartbeats 4000000
namespace TW
open PySem PySem.Spec PyProof.Rows L2
section
variable {P : Program} {w : World} {K : PySem.W.Frag} {mg : Str → Option Value} {base : Heap} {C : Addr}
/-! Table.things, Table.lots, Table.__iter__ -/
theorem sc_Table_things : FnScope ["self"] ["self"] (defScope s_Table_things) := ⟨rfl, rfl, rfl, by decide +kernel, rfl, by decide +kernel, by decide +kernel⟩
def spThings (C : Addr) : Sp := fun vs H Q _ => ∃ (a : Addr) (n : Nat) (L : Lots), vs = [.ref a] ∧ TabAt C H a n L ∧ Q (.int n) H
theorem ok_things {f : Addr} {fd : FuncData} (F : Fun K "things" "Table.things" s_Table_things f fd) (T : TC K mg C) : FnOk P w K mg base CX0 1 f fd ["self"] (spThings C) := by
  refine F.ok sc_Table_things (fun vs H Q E h => ?_) (fun cdv A outer s H vs Q E hr h => ?_)
  · obtain ⟨a, n, L, rfl, _⟩ := h
    rfl
  · obtain ⟨a, n, L, rfl, ⟨dx, l, h1, h2, h3⟩, q⟩ := h
    exact ⟨_, pss_one (ps_ret (pe_fld (pv 0) rfl)), _, rfl, a, C, dx, _, _, rfl, h1, T.cl, T.nT, tf_things n l, q⟩
theorem sc_Table_lots : FnScope ["self"] ["self"] (defScope s_Table_lots) := ⟨rfl, rfl, rfl, by decide +kernel, rfl, by decide +kernel, by decide +kernel⟩
def spLots (C : Addr) : Sp := fun vs H Q _ => ∃ (a : Addr) (n : Nat) (L : Lots), vs = [.ref a] ∧ TabAt C H a n L ∧ ∀ t, H t = none → Q (.ref t) (upd H t (.lst (refs L)))
theorem ok_lots {f : Addr} {fd : FuncData} (F : Fun K "lots" "Table.lots" s_Table_lots f fd) (z : Z mg) (T : TC K mg C) : FnOk P w K mg base CX0 1 f fd ["self"] (spLots C) := by
  refine F.ok sc_Table_lots (fun vs H Q E h => ?_) (fun cdv A outer s H vs Q E hr h => ?_)
  · obtain ⟨a, n, L, rfl, _⟩ := h
    rfl
  · obtain ⟨a, n, L, rfl, ⟨dx, l, h1, h2, h3⟩, q⟩ := h
    exact ⟨_, pss_one (ps_ret (pe_callTy call_list_of (by rfl) z.list (by decide +kernel) (pa_cons (pe_fld (pv 0) rfl) pa_nil))), _, rfl, a, C, dx, _, _, rfl, h1, T.cl, T.nL, tf_lots n l, l, _, rfl, .inr (Evl.st_of h2), q⟩
theorem sc_Table_iter : FnScope ["self"] ["self"] (defScope s_Table_iter) := ⟨rfl, rfl, rfl, by decide +kernel, rfl, by decide +kernel, by decide +kernel⟩
theorem ok_iter {f : Addr} {fd : FuncData} (F : Fun K "__iter__" "Table.__iter__" s_Table_iter f fd) (z : Z mg) (T : TC K mg C) : FnY P w K mg base 1 f fd ["self"] (spIt K C "_lots") :=
  Fun.okY F sc_Table_iter fun cdv A outer s H vs Q hr h => by
    obtain ⟨a, dx, fs, l, zs, rfl, ha, hf, hz, q⟩ := h
    exact ⟨_, pss_one (ps_ret (pe_callB (call_iterT (K := K) (n := s.heap.objs.size)) (by rfl) z.iter (by decide +kernel) (pa_cons (pe_fld (pv 0) rfl) pa_nil))), _, rfl, a, C, dx, _, _, rfl, ha, T.cl, T.nL, hf, l, zs, rfl, hz, q⟩
def spCheckTable (C : Addr) : Sp := fun vs H Q _ => ∃ (a : Addr) (n : Nat) (L : Lots), vs = [.ref a] ∧ TabAt C H a n L ∧ Q .non H
/-! _law_make_table -/
theorem lot_mem {m : Int} {n : Nat} {x : Int} : x ∈ lotOf m n ↔ ∃ k : Nat, k < n ∧ bitB m k = true ∧ x = k := by
  unfold lotOf
  rw [List.mem_map]
  constructor
  · rintro ⟨k, hk, rfl⟩
    obtain ⟨h1, h2⟩ := List.mem_filter.mp hk
    exact ⟨k, List.mem_range.mp h1, h2, rfl⟩
  · rintro ⟨k, h1, h2, rfl⟩
    exact ⟨k, List.mem_filter.mpr ⟨List.mem_range.mpr h1, h2⟩, rfl⟩
theorem lot_asc (m : Int) (n : Nat) : Up (lotOf m n) := by
  unfold lotOf Up
  rw [List.pairwise_map]
  exact (List.pairwise_lt_range.filter _).imp fun h => by omega
theorem lot_ok (m : Int) (n : Nat) : isLot (lotOf m n) (some (n : Int)) = true := by
  unfold isLot
  rw [up_asc (lot_asc m n), Bool.and_true, List.all_eq_true]
  intro x hx
  obtain ⟨k, hk, _, rfl⟩ := lot_mem.mp hx
  rw [Bool.and_eq_true]
  exact ⟨decide_eq_true (by omega), decide_eq_true (by omega)⟩
def TabOf (n : Nat) (ms : List Int) (L : Lots) : Prop := (∀ p ∈ L, ∃ m ∈ ms, p.2 = lotOf m n) ∧ (∀ m ∈ ms, lotOf m n ∈ L.map (·.2)) ∧ (L.map (·.2)).Nodup ∧ L.Pairwise (fun x y => HT.lexLt y.2 x.2 = false)
theorem sc_law_make_table : FnScope ["wide", "masks", "mask"] ["wide", "masks"] (defScope s__law_make_table) := ⟨rfl, rfl, rfl, by decide +kernel, rfl, by decide +kernel, by decide +kernel⟩
def spMakeTable (K : PySem.W.Frag) (C : Addr) : Sp := fun vs H Q _ => ∃ (G : Hp) (l : List (Addr × HO)) (a : Addr) (n : Nat) (ms : List Int), vs = [.int n, .ref a] ∧ Has G H l ∧ SqL K H a (ms.map V.int) ∧ 0 < n ∧ n ≤ 1000 ∧ ms ≠ [] ∧ ms.length ≤ 64 ∧
  ∀ (G' : Hp) (t : Addr) (H' : Hp) (L : Lots), Ex G G' → Has G' H' l → TabAt C G' t n L → TabOf n ms L → Q (.ref t) H'
structure TM (P : Program) (w : World) (K : PySem.W.Frag) (mg : Str → Option Value) (base : Heap) (C f : Addr) (fd : FuncData) : Prop where
  make : Mk K C f
  ok : FnOk P w K mg base CX0 4 f fd ["self", "things", "lots"] (spInit C)
  b : Binds K fd ["self", "things", "lots"] []
theorem ok_make_table {fi : Addr} {fdi : FuncData} (D : Dfn K mg "_law_make_table" s__law_make_table ["wide", "masks"]) (T : TC K mg C) (M : TM P w K mg base C fi fdi) (O_lot_of : Ok P w K mg base 1 "_law_lot_of" ["mask", "wide"] spLotOf) :
    Ok P w K mg base 6 "_law_make_table" ["wide", "masks"] (spMakeTable K C) := D.ok fun f fd F => by
  refine F.ok sc_law_make_table (fun vs H Q E h => ?_) (fun cdv A outer s H vs Q E hr h => ?_)
  · obtain ⟨G0, l0, a, n, ms, rfl, _⟩ := h
    rfl
  · obtain ⟨G0, l0, a, n, ms, rfl, S0, hs, hn, hn', ne, hl, q⟩ := h
    refine ⟨_, (pss_one (ps_ret (pe_make M.make M.ok hr (by rfl) T.mg M.b .nil pass0 (pa_cons (pv 0) (pa_cons (pe_lc (own := [("mask", 2)]) (g := gName 2) rfl sc_law_make_table.nd (pi_list (pv 1)) (blkOk_by (N := ["wide", "masks", "mask"]) (own := [("mask", 2)]) (sc := defScope s__law_make_table) (by decide +kernel)) (fun _ _ _ _ _ => pg_name (i := 2) sc_law_make_table.nd rfl (Or.inl rfl)) (fun _ _ _ _ _ => pts_nil) (fun _ _ _ _ _ => (pe_o O_lot_of (hr.mono (by decide)) (pa_cons (pv 2) (pa_cons (pv 0) pa_nil))))) pa_nil))))), ?_⟩
    refine ⟨_, rfl, _, rfl, a, rfl, ⟨_, hs⟩, fun Dl hD => ?_⟩
    refine lc_list (K := K) (a := a) (xs := ms.map V.int) (fun i H' => Ex H H' ∧ ∃ (G : Hp) (ks : Lots), Ex G0 G ∧ Has G H' ((Dl, .lst (refs ks)) :: l0) ∧ InLots G ks ∧ ks.map (·.2) = (ms.take i).map fun m => lotOf m n) ⟨Evl.Ex.new hD, G0, [], Evl.Ex.refl G0, S0.new hD, fun p hp => absurd hp List.not_mem_nil, rfl⟩ (fun i H' _ p => Evl.ex_l p.1 hs) ?_ ?_
    · rintro i x H1 hi ⟨eH, G, ks, e, S, hk, em⟩
      obtain ⟨m, hm, rfl⟩ := map_get hi
      have lk : ks.length ≤ i := by
        have := congrArg List.length em
        rw [List.length_map, List.length_map, List.length_take] at this
        omega
      have hi2 := (List.getElem?_eq_some_iff.mp hm).1
      refine ⟨rfl, _, rfl, _, rfl, m, n, rfl, by omega, fun t H2 nt e2 ht => ?_⟩
      have S2 := S.newE e2 nt ht
      refine ⟨_, S2.get 1 rfl, szl (by unfold refs; rw [List.length_map]; omega), ?_⟩
      have S3 := S2.sink
      refine ⟨Evl.Ex.mut (eH.trans e2) hD, _, ks ++ [(t, lotOf m n)], e.trans S2.exS, ?_, fun p hp => ?_, ?_⟩
      · unfold refs
        rw [List.map_append]
        exact S3.set 0 rfl
      · rcases List.mem_append.mp hp with h | h
        · exact S2.exS _ _ (hk p h)
        · rw [List.mem_singleton.mp h, upd_same]
      · rw [List.map_append, em, take_snoc hm, List.map_append]
        rfl
    · rintro H1 ⟨eH, G, ks, e, S, hk, em⟩
      rw [List.take_of_length_le (by rw [List.length_map]; exact Nat.le_refl _)] at em
      have lk : ks.length = ms.length := by
        have := congrArg List.length em
        rw [List.length_map, List.length_map] at this
        exact this
      intro x dx nx ndx hne
      have S1 := S.new (o := .own x) ndx
      have nx1 : (upd H1 dx (.own x)) x = none := by rw [upd_ne (Ne.symm hne)]; exact nx
      have S2 := S1.sink.new (o := .ins C dx []) nx1
      have hDl : Dl ≠ x := ne_of_none (S1.get 1 rfl) nx1
      refine ⟨_, _, x, dx, Dl, n, ks, rfl, S2, S2.get 1 rfl, hDl, hk.ex S1.exS, hn, ⟨fun e0 => ne (List.length_eq_zero_iff.mp (by rw [← lk, e0]; rfl)), by omega, fun p hp => ?_⟩, fun G' H' dl L eG S' hdl hL => ⟨rfl, ?_⟩⟩
      · have : p.2 ∈ ks.map (·.2) := List.mem_map_of_mem hp
        rw [em] at this
        obtain ⟨m, _, e3⟩ := List.mem_map.mp this
        rw [← e3]
        exact ⟨lot_ok m n, Nat.le_trans (lot_len m n) hn'⟩
      · have eHG : Ex G0 G' := (e.trans S1.exS).trans eG
        have S8 : Has G' H' ((x, .ins C dx (tf n dl)) :: l0) := S'.drop2
        refine q _ x H' L (eHG.trans S8.exS) S8.sink ⟨dx, dl, upd_same, S8.exS _ _ hdl, fun p hp => S8.exS _ _ (eG _ _ (S1.exS _ _ (hk p (hL.1 p hp))))⟩ ⟨fun p hp => ?_, fun m hm => ?_, hL.2.2⟩
        · have : p.2 ∈ ks.map (·.2) := List.mem_map_of_mem (hL.1 p hp)
          rw [em] at this
          obtain ⟨m, hm, e3⟩ := List.mem_map.mp this
          exact ⟨m, hm, e3.symm⟩
        · have : lotOf m n ∈ ks.map (·.2) := by
            rw [em]
            exact List.mem_map.mpr ⟨m, hm, rfl⟩
          obtain ⟨p, hp, e3⟩ := List.mem_map.mp this
          rw [← e3]
          exact hL.2.1 p hp
end
end TW
set_option Elab.async false
set_option linter.all false
set_option maxRecDepth 100000
set_option maxHeartbeats 4000000
namespace TW
open PySem PySem.Spec PyProof.Rows L2
/-- a walk whose body is any predicate transformer: for the inner loop of a comprehension -/
theorem inner {J : It} {n : Nat} {G : Hp → Prop} {Y : Nat → Hp → V → Hp → Prop} (k : Walk J n G Y) {B : (Hp → Prop) → V → Hp → Prop} {H0 : Hp} {Qd : Hp → Prop} (I : Nat → Hp → Prop) (h0 : I 0 H0) (hG : ∀ i H, i ≤ n → I i H → G H)
    (hs : ∀ i x H H', i < n → I i H → Y i H x H' → B (I (i + 1)) x H') (hd : ∀ H, I n H → Qd H) :
    ∃ W : Nat → Nat → Hp → Prop, (∃ m, W 0 m H0) ∧ ∀ i m H, W i m H → (J.stop i H ∧ Qd H) ∨ (J.go i H ∧ ∃ Nx : Hp → Prop, (∀ H', Nx H' → ∃ m', m' < m ∧ W (i + 1) m' H') ∧ ∀ x H', J.yld i H x H' → B Nx x H') := by
  refine ⟨fun i m H => i ≤ n ∧ I i H ∧ m + i = n, ⟨n, Nat.zero_le _, h0, rfl⟩, fun i m H ⟨hi, p, hm⟩ => ?_⟩
  rcases Nat.lt_or_eq_of_le hi with c | c
  · exact .inr ⟨k.goes i H c (hG i H hi p), I (i + 1), fun H' p' => ⟨m - 1, by omega, c, p', by omega⟩, fun x H' y => hs i x H H' c p (k.yields i H x H' c (hG i H hi p) y)⟩
  · rw [c] at p ⊢
    exact .inl ⟨k.stops H (hG n H (Nat.le_refl _) p), hd H p⟩
theorem pi_tupK {X : Cx} {K : PySem.W.Frag} {tg l : Expr} {tl : TE} (hl : PE X l tl) (h : X.K = K := by rfl) : PI X tg l (iTup K tl) := by
  subst h
  exact pi_tup hl
theorem pi_listK {X : Cx} {K : PySem.W.Frag} {tg l : Expr} {tl : TE} (hl : PE X l tl) (h : X.K = K := by rfl) : PI X tg l (iList K tl) := by
  subst h
  exact pi_list hl
def mt (ns : List Int) (s : Sgn) : Bool := decide ((s.1 : Int) ∈ ns) == s.2
theorem mt_lot {m : Int} {n : Nat} {s : Sgn} (h : s.1 < n) : mt (lotOf m n) s = met m s := by
  unfold mt met
  have : decide ((s.1 : Int) ∈ lotOf m n) = bitB m s.1 := by
    rw [Bool.eq_iff_iff, decide_eq_true_eq, lot_mem]
    constructor
    · rintro ⟨k, _, hb, e⟩
      have : s.1 = k := by omega
      rw [this]
      exact hb
    · intro hb
      exact ⟨s.1, h, hb, rfl⟩
  rw [this]
theorem dec_bl (a b : Bool) : decide (V.bl a = V.bl b) = (a == b) := by cases a <;> cases b <;> rfl
section
variable {P : Program} {w : World} {K : PySem.W.Frag} {mg : Str → Option Value} {base : Heap} {C : Addr}
def spMeets (K : PySem.W.Frag) : Sp := fun vs H Q _ => ∃ (a : Addr) (ns : List Int) (v : V) (s : Sgn), vs = [.ref a, v] ∧ SqT K H a (ns.map V.int) ∧ At H v (dSgn s) ∧ Q (.bl (mt ns s)) H
def spKeeps (K : PySem.W.Frag) : Sp := fun vs H Q _ => ∃ (a : Addr) (ns : List Int) (v : V) (b : Bar), vs = [.ref a, v] ∧ SqT K H a (ns.map V.int) ∧ At H v (dBar b) ∧ b.length ≤ 100 ∧ ∀ H', Ex H H' → Q (.bl (b.any (mt ns))) H'
/-! has_rule -/
structure TI (P : Program) (w : World) (K : PySem.W.Frag) (mg : Str → Option Value) (base : Heap) (C f : Addr) (fd : FuncData) : Prop where
  at_ : PySem.W.findIn K (.ref C) "__iter__" = some (some (.ref f))
  fn : PySem.W.isFn K (.ref f) = true
  ok : FnY P w K mg base 1 f fd ["self"] (spIt K C "_lots")
  b : Binds K fd ["self"] []
def hasR (lots : List (List Int)) (b : Bar) : Bool := lots.all fun ns => b.any (mt ns)
def spHasRule (C : Addr) : Sp := fun vs H Q _ => ∃ (a : Addr) (n : Nat) (L : Lots) (v : V) (b : Bar), vs = [.ref a, v] ∧ TabAt C H a n L ∧ At H v (dBar b) ∧ b.length ≤ 100 ∧ ∀ H', Ex H H' → Q (.bl (hasR (L.map (·.2)) b)) H'
theorem refs_get {L : Lots} {i : Nat} {x : V} (h : (refs L)[i]? = some x) : ∃ p, L[i]? = some p ∧ x = V.ref p.1 := by
  unfold refs at h
  rw [List.getElem?_map] at h
  cases e : L[i]? with
  | none => rw [e] at h; cases h
  | some p => rw [e] at h; exact ⟨p, rfl, (Option.some.inj h).symm⟩
theorem refs_len (L : Lots) : (refs L).length = L.length := List.length_map _
/-! all_literals, _law_all_signs -/
def allS (n : Nat) : List Sgn := (List.range n).flatMap fun k => [(k, true), (k, false)]
theorem allS_up (n : Nat) : allS (n + 1) = allS n ++ [(n, true), (n, false)] := by
  unfold allS
  rw [List.range_succ, List.flatMap_append]
  rfl
theorem allS_len (n : Nat) : (allS n).length = 2 * n := by
  induction n with
  | zero => rfl
  | succ n ih =>
    rw [allS_up, List.length_append, ih]
    show 2 * n + 2 = _
    omega
def spAllS : Sp := fun vs H Q _ => ∃ (G : Hp) (l : List (Addr × HO)) (n : Nat), vs = [.int n] ∧ Has G H l ∧ n ≤ 1000 ∧ ∀ (G' : Hp) (t : Addr) (xs : List V) (H' : Hp), Ex G G' → Has G' H' ((t, .lst xs) :: l) → Ats G' xs ((allS n).map dSgn) → Q (.ref t) H'
end
end TW
set_option Elab.async false
set_option linter.all false
set_option maxRecDepth 100000
set_option maxHeartbeats 4000000
namespace TW
open PySem PySem.Spec PyProof.Rows L2
open PySem.W (AllAlike Sortable dataLt dataLe)
/-! data of rules -/
theorem lay_sgn (s : Sgn) : (dSgn s).canLay0 = true := by
  have h : ∀ b, (PyData.str (sw b)).canLay0 = true := fun b => by cases b <;> decide +kernel
  show (true && ((PyData.str (sw s.2)).canLay0 && true)) = true
  rw [h]
  rfl
theorem lay_sgns : ∀ b : Bar, PyData.canLayAll0 (b.map dSgn) = true
  | [] => rfl
  | s :: b => by
    show ((dSgn s).canLay0 && PyData.canLayAll0 (b.map dSgn)) = true
    rw [lay_sgn, lay_sgns b]
    rfl
theorem lay_bars : ∀ bs : List Bar, PyData.canLayAll0 (bs.map dBar) = true
  | [] => rfl
  | b :: bs => by
    show ((dBar b).canLay0 && PyData.canLayAll0 (bs.map dBar)) = true
    rw [show (dBar b).canLay0 = true from lay_sgns b, lay_bars bs]
    rfl
theorem depth_all {n : Nat} : ∀ {ds : List PyData}, (∀ d ∈ ds, d.depth ≤ n) → PyData.depthAll ds ≤ n
  | [], _ => Nat.zero_le _
  | d :: ds, h => by
    have h1 := h d List.mem_cons_self
    have h2 := depth_all fun x hx => h x (List.mem_cons_of_mem _ hx)
    simp only [PyData.depthAll]
    omega
theorem dep_bar (b : Bar) : (dBar b).depth ≤ 2 := by
  unfold dBar
  have := depth_all (n := 1) (ds := b.map dSgn) fun d hd => by
    obtain ⟨s, _, rfl⟩ := List.mem_map.mp hd
    exact dep_sgn s
  simp only [PyData.depth]
  omega
theorem shaped_bar (b : Bar) : SeqAt.shaped (dBar b) = true := by
  unfold SeqAt.shaped
  rw [Bool.and_eq_true, decide_eq_true_eq]
  exact ⟨lay_sgns b, Nat.le_trans (dep_bar b) (by decide)⟩
theorem shaped_bars (bs : List Bar) : SeqAt.shaped (dBars bs) = true := by
  unfold SeqAt.shaped
  rw [Bool.and_eq_true, decide_eq_true_eq]
  refine ⟨lay_bars bs, ?_⟩
  unfold dBars
  have := depth_all (n := 2) (ds := bs.map dBar) fun d hd => by
    obtain ⟨s, _, rfl⟩ := List.mem_map.mp hd
    exact dep_bar s
  simp only [PyData.depth]
  omega
theorem eqv_sgn (s t : Sgn) : PyData.eqv (dSgn s) (dSgn t) = decide (s = t) := by
  obtain ⟨a, b⟩ := s
  obtain ⟨c, d⟩ := t
  have e1 : PyData.eqv (dSgn (a, b)) (dSgn (c, d)) = ((a : Int) == (c : Int) && (sw b == sw d && true)) := rfl
  have e2 : (sw b == sw d) = (b == d) := by cases b <;> cases d <;> decide +kernel
  rw [e1, e2, Bool.and_true, Bool.eq_iff_iff, decide_eq_true_eq, Bool.and_eq_true, beq_iff_eq, beq_iff_eq, Prod.mk.injEq]
  constructor
  · rintro ⟨h, rfl⟩
    exact ⟨by omega, rfl⟩
  · rintro ⟨rfl, rfl⟩
    exact ⟨rfl, rfl⟩
theorem eqv_one (s t : Sgn) : PyData.eqv (dBar [s]) (dBar [t]) = decide (s = t) := by
  show (PyData.eqv (dSgn s) (dSgn t) && true) = _
  rw [Bool.and_true, eqv_sgn]
theorem alike_bar : ∀ a b : Bar, PySem.W.alikeAll (a.map dSgn) (b.map dSgn) = true
  | [], b => by simp [PySem.W.alikeAll]
  | s :: a, [] => by simp [PySem.W.alikeAll]
  | s :: a, t :: b => by
    rw [List.map_cons, List.map_cons, PySem.W.alikeAll, alike_sgn, alike_bar a b]
    rfl
theorem bars_sort {bs : List Bar} (h : ∀ b ∈ bs, b ≠ []) : AllAlike (bs.map dBar) ∧ Sortable (bs.map dBar) := by
  refine ⟨fun d hd d' hd' => ?_, .inl fun d hd => ?_⟩
  · obtain ⟨a, _, rfl⟩ := List.mem_map.mp hd
    obtain ⟨b, _, rfl⟩ := List.mem_map.mp hd'
    unfold dBar
    rw [PySem.W.alike]
    exact alike_bar a b
  · obtain ⟨b, hb, rfl⟩ := List.mem_map.mp hd
    cases b with
    | nil => exact absurd rfl (h _ hb)
    | cons s b => exact ⟨_, _, rfl⟩
theorem ats_zip {H : Hp} {xs : List V} {ds : List PyData} (h : Ats H xs ds) : (xs.zip ds).map (·.1) = xs ∧ (xs.zip ds).map (·.2) = ds ∧ ∀ b ∈ xs.zip ds, At H b.1 b.2 := by
  refine ⟨List.map_fst_zip (by rw [h.1]; exact Nat.le_refl _), List.map_snd_zip (by rw [h.1]; exact Nat.le_refl _), fun b hb => ?_⟩
  obtain ⟨i, hi⟩ := List.mem_iff_getElem?.mp hb
  rw [List.getElem?_zip_eq_some] at hi
  exact h.2 i _ _ hi.1 hi.2
/-! what the program finds -/
def singleS (lots : List (List Int)) (n : Nat) : List Sgn := (allS n).filter fun s => hasR lots [s]
def opensS (lots : List (List Int)) (n : Nat) : List Sgn := (allS n).filter fun s => !hasR lots [s]
def pairsAt (os : List Sgn) (low : Sgn) : List Bar := (os.filter fun high => decide (low.1 < high.1)).map fun high => [low, high]
def rulesU (lots : List (List Int)) (n : Nat) : List Bar := (singleS lots n).map (fun s => [s]) ++ (((opensS lots n).flatMap (pairsAt (opensS lots n))).filter (hasR lots))
def rulesD (lots : List (List Int)) (n : Nat) : List PyData := ((rulesU lots n).map dBar).mergeSort dLe
theorem rulesU_ne {lots : List (List Int)} {n : Nat} : ∀ b ∈ rulesU lots n, b ≠ [] := fun b hb e => by
  subst e
  unfold rulesU pairsAt at hb
  rcases List.mem_append.mp hb with h | h
  · obtain ⟨s, _, e⟩ := List.mem_map.mp h
    cases e
  · obtain ⟨s, _, h2⟩ := List.mem_flatMap.mp (List.mem_filter.mp h).1
    obtain ⟨t, _, e⟩ := List.mem_map.mp h2
    cases e
theorem in_single {lots : List (List Int)} {n : Nat} {s : Sgn} (h : s ∈ allS n) : (!((singleS lots n).map fun t => dBar [t]).any fun z => PyData.eqv z (dBar [s])) = !hasR lots [s] := by
  congr 1
  rw [List.any_map, Bool.eq_iff_iff, List.any_eq_true]
  constructor
  · rintro ⟨t, ht, e⟩
    have e' : PyData.eqv (dBar [t]) (dBar [s]) = true := e
    rw [eqv_one, decide_eq_true_eq] at e'
    subst e'
    exact (List.mem_filter.mp ht).2
  · intro hq
    refine ⟨s, List.mem_filter.mpr ⟨h, hq⟩, ?_⟩
    show PyData.eqv (dBar [s]) (dBar [s]) = true
    rw [eqv_one, decide_eq_true_eq]
theorem pairsAt_len (os : List Sgn) (low : Sgn) : (pairsAt os low).length ≤ os.length := by
  unfold pairsAt
  rw [List.length_map]
  exact List.length_filter_le _ _
theorem flat_len {α β : Type} {f : α → List β} {k : Nat} : ∀ {l : List α}, (∀ x ∈ l, (f x).length ≤ k) → (l.flatMap f).length ≤ l.length * k
  | [], _ => by simp
  | x :: l, h => by
    have h1 := h x List.mem_cons_self
    have h2 := flat_len (l := l) fun y hy => h y (List.mem_cons_of_mem _ hy)
    rw [List.flatMap_cons, List.length_append, List.length_cons, Nat.succ_mul]
    omega
section
variable {X : Cx} {K : PySem.W.Frag}
theorem op_notInDK (hu : X.A.units + 65 < cLine) (h : X.K = K := by rfl) : OpR X (compareOp .NotIn) (rNotInD K) := by
  subst h
  exact op_notInD hu
end
section
variable {P : Program} {w : World} {K : PySem.W.Frag} {mg : Str → Option Value} {base : Heap} {C : Addr}
structure TG (P : Program) (w : World) (K : PySem.W.Frag) (mg : Str → Option Value) (base : Heap) (C p g : Addr) (fd : FuncData) (nm : Str) (sp : Sp) : Prop where
  at_ : PropOf K C nm p g
  ok : FnOk P w K mg base CX0 1 g fd ["self"] sp
  b : Binds K fd ["self"] []
def spRulesOf (C : Addr) : Sp := fun vs H Q _ => ∃ (G : Hp) (l : List (Addr × HO)) (a : Addr) (n : Nat) (L : Lots), vs = [.ref a] ∧ Has G H l ∧ TabAt C G a n L ∧ n ≤ 50 ∧
  ∀ (G' : Hp) (t : Addr) (xs : List V) (H' : Hp), Ex G G' → Has G' H' ((t, .lst xs) :: l) → Ats G' xs (rulesD (L.map (·.2)) n) → Q (.ref t) H'
end
end TW
set_option Elab.async false
set_option linter.all false
set_option maxRecDepth 100000
set_option maxHeartbeats 4000000
namespace TW
open PySem PySem.Spec PyProof.Rows L2
open PySem.W (AllAlike Sortable dataLt dataLe)
/-! what the law finds -/
def aM (ms : List Int) (s : Sgn) : Bool := ms.all fun m => met m s
def hasM (ms : List Int) (b : Bar) : Bool := ms.all fun m => b.any (met m)
def cnd (ms : List Int) (low high : Sgn) : Bool := !aM ms low && (!aM ms high && (!decide (low.1 = high.1) && hasM ms [low, high]))
def rowAt (ms : List Int) (S : List Sgn) (i : Nat) : List Bar := match S[i]? with
  | some low => ((S.drop (i + 1)).filter (cnd ms low)).map fun high => [low, high]
  | none => []
def sharpU (ms : List Int) (n : Nat) : List Bar := ((allS n).filter (aM ms)).map (fun s => [s]) ++ (List.range (2 * n)).flatMap (rowAt ms (allS n))
def sharpD (ms : List Int) (n : Nat) : List PyData := ((sharpU ms n).map dBar).mergeSort dLe
theorem rowAt_pair {ms : List Int} {S : List Sgn} {i : Nat} {b : Bar} (h : b ∈ rowAt ms S i) : ∃ s t, b = [s, t] := by
  unfold rowAt at h
  cases e : S[i]? with
  | none => rw [e] at h; exact absurd h List.not_mem_nil
  | some low =>
    rw [e] at h
    obtain ⟨t, _, rfl⟩ := List.mem_map.mp h
    exact ⟨_, _, rfl⟩
theorem sharpU_ne {ms : List Int} {n : Nat} : ∀ b ∈ sharpU ms n, b ≠ [] := fun b hb e => by
  subst e
  unfold sharpU at hb
  rcases List.mem_append.mp hb with h | h
  · obtain ⟨s, _, e⟩ := List.mem_map.mp h
    cases e
  · obtain ⟨s, _, h2⟩ := List.mem_flatMap.mp h
    obtain ⟨s, t, e⟩ := rowAt_pair h2
    cases e
theorem rowAt_len (ms : List Int) (S : List Sgn) (i : Nat) : (rowAt ms S i).length ≤ S.length := by
  unfold rowAt
  cases S[i]? with
  | none => exact Nat.zero_le _
  | some low =>
    rw [List.length_map]
    exact Nat.le_trans (List.length_filter_le _ _) (by rw [List.length_drop]; omega)
theorem kept_one (m : Int) (b : Bar) : keptB m [b] = b.any (met m) := by
  show (b.any (met m) && true) = _
  rw [Bool.and_true]
theorem range_flat {α : Type} (f : Nat → List α) (i : Nat) : (List.range (i + 1)).flatMap f = (List.range i).flatMap f ++ f i := by
  rw [List.range_succ, List.flatMap_append, List.flatMap_cons]
  simp
theorem drop_get {α : Type} {l : List α} {i j : Nat} : (l.drop i)[j]? = l[i + j]? := by rw [List.getElem?_drop]
section
variable {P : Program} {w : World} {K : PySem.W.Frag} {mg : Str → Option Value} {base : Heap} {C : Addr}
abbrev NS : List Str := ["masks", "wide", "signs", "alone", "row", "one", "two", "bar", "sign", "mask", "k"]
def scSign : Scope := { kind := .function, names := [(".0", .local), ("sign", .cell), ("all", .globalImplicit), ("masks", .cell)], isGenerator := false, isCoroutine := false }
def spSharp : Sp := fun vs H Q _ => ∃ (G : Hp) (l : List (Addr × HO)) (a : Addr) (n : Nat) (ms : List Int), vs = [.ref a, .int n] ∧ Has G H l ∧ G a = some (.lst (ms.map V.int)) ∧ n ≤ 50 ∧ ms.length ≤ 1000 ∧
  ∀ (G' : Hp) (t : Addr) (xs : List V) (H' : Hp), Ex G G' → Has G' H' ((t, .lst xs) :: l) → Ats G' xs (sharpD ms n) → Q (.ref t) H'
end
end TW
set_option Elab.async false
set_option linter.all false
set_option maxRecDepth 100000
set_option maxHeartbeats 4000000
namespace TW
open PySem PySem.Spec PyProof.Rows L2
open PySem.W (AllAlike Sortable dataLt dataLe)
/-! one list, told twice -/
theorem strict_ext {α : Type} {r : α → α → Prop} (as : ∀ x y, r x y → r y x → False) : ∀ {xs ys : List α}, xs.Pairwise r → ys.Pairwise r → (∀ z, z ∈ xs ↔ z ∈ ys) → xs = ys
  | [], [], _, _, _ => rfl
  | [], y :: t, _, _, h => absurd ((h y).mpr List.mem_cons_self) List.not_mem_nil
  | x :: t, [], _, _, h => absurd ((h x).mp List.mem_cons_self) List.not_mem_nil
  | x :: xs, y :: ys, hx, hy, h => by
    have cx := List.pairwise_cons.mp hx
    have cy := List.pairwise_cons.mp hy
    have e : x = y := by
      rcases List.mem_cons.mp ((h x).mp List.mem_cons_self) with q | q
      · exact q
      rcases List.mem_cons.mp ((h y).mpr List.mem_cons_self) with p | p
      · exact p.symm
      · exact (as _ _ (cx.1 y p) (cy.1 x q)).elim
    subst e
    have ir : ∀ z, r x z → z ≠ x := fun z q e => by
      subst e
      exact as _ _ q q
    rw [strict_ext as cx.2 cy.2 fun z => ⟨fun hz => ?_, fun hz => ?_⟩]
    · rcases List.mem_cons.mp ((h z).mp (List.mem_cons_of_mem _ hz)) with q | q
      · exact absurd q (ir z (cx.1 z hz))
      · exact q
    · rcases List.mem_cons.mp ((h z).mpr (List.mem_cons_of_mem _ hz)) with q | q
      · exact absurd q (ir z (cy.1 z hz))
      · exact q
def tl {α β : Type} (f : α → List α → List β) : List α → List β
  | [] => []
  | x :: r => f x r ++ tl f r
theorem tl_range {α β : Type} (f : α → List α → List β) : ∀ l : List α, (List.range l.length).flatMap (fun i => match l[i]? with | some x => f x (l.drop (i + 1)) | none => []) = tl f l
  | [] => rfl
  | x :: r => by
    rw [List.length_cons, List.range_succ_eq_map, List.flatMap_cons, List.flatMap_map]
    have ih := tl_range f r
    show f x r ++ (List.range r.length).flatMap (fun i => match r[i]? with | some x => f x (r.drop (i + 1)) | none => []) = f x r ++ tl f r
    rw [ih]
/-! the two lists of rules -/
theorem allS_lt {n : Nat} {s : Sgn} (h : s ∈ allS n) : s.1 < n := by
  unfold allS at h
  obtain ⟨k, hk, h2⟩ := List.mem_flatMap.mp h
  have := List.mem_range.mp hk
  simp only [List.mem_cons, List.not_mem_nil, or_false] at h2
  rcases h2 with rfl | rfl <;> exact this
theorem allS_le (n : Nat) : (allS n).Pairwise fun s t => s.1 ≤ t.1 := by
  induction n with
  | zero => exact List.Pairwise.nil
  | succ n ih =>
    rw [allS_up, List.pairwise_append]
    refine ⟨ih, ?_, fun s hs t ht => ?_⟩
    · refine List.pairwise_cons.mpr ⟨fun t ht => ?_, List.pairwise_singleton _ _⟩
      rw [List.mem_singleton.mp ht]
      exact Nat.le_refl _
    · have h1 := allS_lt hs
      simp only [List.mem_cons, List.not_mem_nil, or_false] at ht
      rcases ht with rfl | rfl <;> exact Nat.le_of_lt h1
def LotsAre (n : Nat) (ms : List Int) (lots : List (List Int)) : Prop := (∀ x ∈ lots, ∃ m ∈ ms, x = lotOf m n) ∧ ∀ m ∈ ms, lotOf m n ∈ lots
theorem any_mt {m : Int} {n : Nat} {b : Bar} (h : ∀ s ∈ b, s.1 < n) : b.any (mt (lotOf m n)) = b.any (met m) := by
  induction b with
  | nil => rfl
  | cons s b ih =>
    rw [List.any_cons, List.any_cons, mt_lot (h s List.mem_cons_self), ih fun t ht => h t (List.mem_cons_of_mem _ ht)]
theorem hasR_eq {n : Nat} {ms : List Int} {lots : List (List Int)} (h : LotsAre n ms lots) {b : Bar} (hb : ∀ s ∈ b, s.1 < n) : hasR lots b = hasM ms b := by
  unfold hasR hasM
  rw [Bool.eq_iff_iff, List.all_eq_true, List.all_eq_true]
  constructor
  · intro q m hm
    rw [← any_mt hb]
    exact q _ (h.2 m hm)
  · intro q x hx
    obtain ⟨m, hm, rfl⟩ := h.1 x hx
    rw [any_mt hb]
    exact q m hm
theorem hasM_one (ms : List Int) (s : Sgn) : hasM ms [s] = aM ms s := by
  unfold hasM aM
  congr 1
  funext m
  show (met m s || false) = _
  rw [Bool.or_false]
theorem filt_congr {α : Type} {f g : α → Bool} {l : List α} (h : ∀ x ∈ l, f x = g x) : l.filter f = l.filter g := by
  induction l with
  | nil => rfl
  | cons x l ih => rw [List.filter_cons, List.filter_cons, h x List.mem_cons_self, ih fun y hy => h y (List.mem_cons_of_mem _ hy)]
theorem flat_congr {α β : Type} {f g : α → List β} {l : List α} (h : ∀ x ∈ l, f x = g x) : l.flatMap f = l.flatMap g := by
  induction l with
  | nil => rfl
  | cons x l ih => rw [List.flatMap_cons, List.flatMap_cons, h x List.mem_cons_self, ih fun y hy => h y (List.mem_cons_of_mem _ hy)]
theorem filter_none {α : Type} {f : α → Bool} {l : List α} (h : ∀ x ∈ l, f x = false) : l.filter f = [] := List.filter_eq_nil_iff.mpr fun x hx => by rw [h x hx]; decide
theorem pairs_tl {ms : List Int} : ∀ (suf pre S : List Sgn), S = pre ++ suf → S.Pairwise (fun s t => s.1 ≤ t.1) →
    (suf.filter fun s => !aM ms s).flatMap (fun low => (pairsAt (S.filter fun s => !aM ms s) low).filter (hasM ms)) = tl (fun low r => (r.filter (cnd ms low)).map fun high => [low, high]) suf
  | [], _, _, _, _ => rfl
  | x :: r, pre, S, e, hS => by
    have ih := pairs_tl (ms := ms) r (pre ++ [x]) S (by rw [e, List.append_assoc]; rfl) hS
    have hS' := hS
    rw [e, List.pairwise_append, List.pairwise_cons] at hS'
    obtain ⟨hp, ⟨hx, hr⟩, hc⟩ := hS'
    cases ho : aM ms x with
    | true =>
      rw [List.filter_cons, if_neg (by rw [ho]; decide), ih]
      show _ = (r.filter (cnd ms x)).map (fun high => [x, high]) ++ _
      rw [filter_none fun y _ => by unfold cnd; rw [ho]; rfl]
      rfl
    | false =>
      rw [List.filter_cons, if_pos (by rw [ho]; rfl), List.flatMap_cons, ih]
      show _ = (r.filter (cnd ms x)).map (fun high => [x, high]) ++ _
      congr 1
      unfold pairsAt
      rw [List.filter_map, List.filter_filter, List.filter_filter]
      congr 1
      rw [e, List.filter_append, List.filter_cons]
      have h1 : pre.filter (fun a => ((hasM ms ∘ fun high => [x, high]) a && decide (x.1 < a.1)) && !aM ms a) = [] := filter_none fun y hy => by
        have := hc y hy x List.mem_cons_self
        rw [decide_eq_false (by omega), Bool.and_false, Bool.false_and]
      rw [h1, if_neg (by rw [decide_eq_false (by omega), Bool.and_false, Bool.false_and]; decide), List.nil_append]
      refine filt_congr fun y hy => ?_
      have hxy := hx y hy
      unfold cnd
      rw [ho]
      have : decide (x.1 < y.1) = !decide (x.1 = y.1) := by
        rw [Bool.eq_iff_iff, decide_eq_true_eq, Bool.not_eq_true', decide_eq_false_iff_not]
        omega
      rw [this]
      show ((hasM ms [x, y] && !decide (x.1 = y.1)) && !aM ms y) = (!false && (!aM ms y && (!decide (x.1 = y.1) && hasM ms [x, y])))
      cases hasM ms [x, y] <;> cases aM ms y <;> cases decide (x.1 = y.1) <;> rfl
theorem rules_eq {n : Nat} {ms : List Int} {lots : List (List Int)} (h : LotsAre n ms lots) : rulesU lots n = sharpU ms n := by
  have e1 : ∀ s ∈ allS n, hasR lots [s] = aM ms s := fun s hs => by
    rw [hasR_eq h fun t ht => by rw [List.mem_singleton.mp ht]; exact allS_lt hs, hasM_one]
  have eS : singleS lots n = (allS n).filter (aM ms) := filt_congr e1
  have eO : opensS lots n = (allS n).filter fun s => !aM ms s := filt_congr fun s hs => by rw [e1 s hs]
  unfold rulesU sharpU
  rw [eS, eO, List.filter_flatMap]
  congr 1
  rw [← allS_len n]
  have e2 := tl_range (fun low r => (r.filter (cnd ms low)).map fun high => [low, high]) (allS n)
  have e3 : (List.range (allS n).length).flatMap (rowAt ms (allS n)) = tl (fun low r => (r.filter (cnd ms low)).map fun high => [low, high]) (allS n) := by
    rw [← e2]
    refine flat_congr fun i _ => ?_
    unfold rowAt
    cases (allS n)[i]? <;> rfl
  rw [e3, ← pairs_tl (allS n) [] (allS n) rfl (allS_le n)]
  refine flat_congr fun low hlow => filt_congr fun b hb => hasR_eq h fun s hs => ?_
  unfold pairsAt at hb
  obtain ⟨t, ht, rfl⟩ := List.mem_map.mp hb
  simp only [List.mem_cons, List.not_mem_nil, or_false] at hs
  rcases hs with rfl | rfl
  · exact allS_lt (List.mem_filter.mp hlow).1
  · exact allS_lt (List.mem_filter.mp (List.mem_filter.mp ht).1).1
theorem rulesD_eq {n : Nat} {ms : List Int} {lots : List (List Int)} (h : LotsAre n ms lots) : rulesD lots n = sharpD ms n := by
  unfold rulesD sharpD
  rw [rules_eq h]
theorem tabOf_are {n : Nat} {ms : List Int} {L : Lots} (h : TabOf n ms L) : LotsAre n ms (L.map (·.2)) := ⟨fun x hx => by
  obtain ⟨p, hp, rfl⟩ := List.mem_map.mp hx
  exact h.1 p hp, h.2.1⟩
theorem are_perm {n : Nat} {ms ms' : List Int} {lots : List (List Int)} (p : ms'.Perm ms) (h : LotsAre n ms' lots) : LotsAre n ms lots := ⟨fun x hx => by
  obtain ⟨m, hm, e⟩ := h.1 x hx
  exact ⟨m, p.mem_iff.mp hm, e⟩, fun m hm => h.2 m (p.mem_iff.mpr hm)⟩
/-! the lots, told twice -/
theorem bits_inj : ∀ (n : Nat) (m m' : Int), 0 ≤ m → m < 2 ^ n → 0 ≤ m' → m' < 2 ^ n → (∀ k < n, m / 2 ^ k % 2 = m' / 2 ^ k % 2) → m = m'
  | 0, m, m', h1, h2, h3, h4, _ => by
    simp at h2 h4
    omega
  | n + 1, m, m', h1, h2, h3, h4, h => by
    have e : (2 : Int) ^ (n + 1) = 2 ^ n * 2 := Int.pow_succ _ _
    have h0 := h 0 (by omega)
    simp only [Int.pow_zero, Int.ediv_one] at h0
    have ih := bits_inj n (m / 2) (m' / 2) (by omega) (by omega) (by omega) (by omega) fun k hk => by
      have := h (k + 1) (by omega)
      rw [show (2 : Int) ^ (k + 1) = 2 * 2 ^ k by rw [Int.pow_succ, Int.mul_comm]] at this
      rw [Int.ediv_ediv_of_nonneg (by decide), Int.ediv_ediv_of_nonneg (by decide)]
      exact this
    omega
theorem lot_inj {n : Nat} {m m' : Int} (h1 : 0 ≤ m) (h2 : m < 2 ^ n) (h3 : 0 ≤ m') (h4 : m' < 2 ^ n) (e : lotOf m n = lotOf m' n) : m = m' := by
  refine bits_inj n m m' h1 h2 h3 h4 fun k hk => ?_
  have hb : ∀ {a : Int}, bitB a k = true ↔ (k : Int) ∈ lotOf a n := fun {a} => by
    rw [lot_mem]
    constructor
    · intro h
      exact ⟨k, hk, h, rfl⟩
    · rintro ⟨j, _, h, e⟩
      rw [show k = j by omega]
      exact h
  have h : bitB m k = true ↔ bitB m' k = true := by rw [hb, hb, e]
  unfold bitB at h
  rw [decide_eq_true_eq, decide_eq_true_eq] at h
  have c1 := Int.emod_two_eq (m / 2 ^ k)
  have c2 := Int.emod_two_eq (m' / 2 ^ k)
  omega
theorem lex_strict {xs ys : List Int} (h : HT.lexLt ys xs = false) (n : xs ≠ ys) : HT.lexLt xs ys = true := by
  rw [lex_list] at h ⊢
  rw [decide_eq_false_iff_not] at h
  rw [decide_eq_true_eq]
  exact Decidable.byContradiction fun c => n (List.le_antisymm (List.not_lt.mp h) (List.not_lt.mp c))
theorem lex_asymm (xs ys : List Int) (h : HT.lexLt xs ys = true) (h' : HT.lexLt ys xs = true) : False := by
  rw [lex_list, decide_eq_true_eq] at h h'
  exact List.lt_asymm h h'
theorem lots_strict {l : List (List Int)} (h : l.Pairwise fun x y => HT.lexLt y x = false) (n : l.Nodup) : l.Pairwise fun x y => HT.lexLt x y = true := List.Pairwise.imp₂ (fun a b p q => lex_strict p q) h n
theorem dLe_lots (xs ys : List Int) : dLe (tupD xs) (tupD ys) = !HT.lexLt ys xs := by
  rw [← lt_tupD]
  rfl
theorem dLe_pw (ds : List PyData) : (ds.mergeSort dLe).Pairwise fun x y => dLe x y = true := by
  have T := PySem.W.sortLe_total (PyProof.Rows.listOrd PyProof.Rows.itemOrd) false (fun b : PyData => PySem.W.keyToks b)
  have e : dLe = PySem.W.sortLe (PyProof.Rows.listOrd PyProof.Rows.itemOrd) false (fun b : PyData => PySem.W.keyToks b) := rfl
  rw [e]
  exact List.pairwise_mergeSort (fun a b c h1 h2 => T.trans a b c h1 h2) (fun a b => by rcases T.total a b with h | h <;> simp [h]) ds
theorem lots_told {n : Nat} {ms : List Int} {L : Lots} (h : TabOf n ms L) (hm : masksOk n ms) : (ms.map fun m => tupD (lotOf m n)).mergeSort dLe = (L.map (·.2)).map tupD := by
  have pm := List.mergeSort_perm (ms.map fun m => tupD (lotOf m n)) dLe
  have pw := dLe_pw (ms.map fun m => tupD (lotOf m n))
  have em : (ms.map fun m => tupD (lotOf m n)) = (ms.map fun m => lotOf m n).map tupD := by rw [List.map_map]; rfl
  generalize (ms.map fun m => tupD (lotOf m n)).mergeSort dLe = Z at pm pw
  rw [em] at pm
  obtain ⟨W, pW, rfl⟩ := perm_back pm
  congr 1
  have nd : (ms.map fun m => lotOf m n).Nodup := by
    unfold List.Nodup
    rw [List.pairwise_map]
    refine List.Pairwise.imp_of_mem (fun {a b} ha hb (hn : a ≠ b) e => hn ?_) (up_nodup hm.1)
    obtain ⟨a1, a2⟩ := hm.2.2 a ha
    obtain ⟨b1, b2⟩ := hm.2.2 b hb
    exact lot_inj a1 a2 b1 b2 e
  rw [List.pairwise_map] at pw
  refine strict_ext lex_asymm (lots_strict (pw.imp fun {x y} q => ?_) (pW.nodup_iff.mpr nd)) (lots_strict (by rw [List.pairwise_map]; exact h.2.2.2) h.2.2.1) fun z => ?_
  · rw [dLe_lots] at q
    rw [Bool.not_eq_true'] at q
    exact q
  · rw [pW.mem_iff, List.mem_map]
    constructor
    · rintro ⟨m, hm', rfl⟩
      exact h.2.1 m hm'
    · intro hz
      obtain ⟨p, hp, rfl⟩ := List.mem_map.mp hz
      obtain ⟨m, hm', e⟩ := h.1 p hp
      exact ⟨m, hm', e.symm⟩
end TW
set_option Elab.async false
set_option linter.all false
set_option maxRecDepth 100000
set_option maxHeartbeats 4000000
namespace TW
open PySem PySem.Spec PyProof.Rows L2
/-! alike by parts -/
theorem rep_list {k : Nat} {H : Hp} {x y : V} {ds : List PyData} (hx : At H x (.list ds)) (hy : At H y (.list ds)) (hl : ds.length ≤ 10000) (h : ∀ d ∈ ds, ∀ x y, At H x d → At H y d → Rep k H x y) : Rep (k + 1) H x y := by
  obtain ⟨a, xs, rfl, ha, hxs⟩ := hx.isL
  obtain ⟨b, ys, rfl, hb, hys⟩ := hy.isL
  refine .inr ⟨a, b, xs, ys, rfl, rfl, .inl ⟨ha, hb⟩, hxs.1.trans hys.1.symm, by rw [hys.1]; exact hl, fun i u v hu hv => ?_⟩
  obtain ⟨d, hd, hA⟩ := hxs.at' hu
  exact h d (List.mem_of_getElem? hd) u v hA (hys.2 i v d hv hd)
theorem rep_tuple {k : Nat} {H : Hp} {x y : V} {ds : List PyData} (hx : At H x (.tuple ds)) (hy : At H y (.tuple ds)) (hl : ds.length ≤ 10000) (h : ∀ d ∈ ds, ∀ x y, At H x d → At H y d → Rep k H x y) : Rep (k + 1) H x y := by
  obtain ⟨a, xs, rfl, ha, hxs⟩ := hx.isT
  obtain ⟨b, ys, rfl, hb, hys⟩ := hy.isT
  refine .inr ⟨a, b, xs, ys, rfl, rfl, .inr ⟨ha, hb⟩, hxs.1.trans hys.1.symm, by rw [hys.1]; exact hl, fun i u v hu hv => ?_⟩
  obtain ⟨d, hd, hA⟩ := hxs.at' hu
  exact h d (List.mem_of_getElem? hd) u v hA (hys.2 i v d hv hd)
theorem rep_sgn {H : Hp} {x y : V} {s : Sgn} (hx : At H x (dSgn s)) (hy : At H y (dSgn s)) : Rep 1 H x y := by
  refine rep_tuple hx hy (by show 2 ≤ 10000; decide) fun d hd u v hu hv => ?_
  simp only [List.mem_cons, List.not_mem_nil, or_false] at hd
  rcases hd with rfl | rfl
  · rw [hu.isI, hv.isI]
    exact Rep.flat rfl
  · rw [hu.isS, hv.isS]
    exact Rep.flat rfl
theorem rep_bar {H : Hp} {x y : V} {b : Bar} (hl : b.length ≤ 100) (hx : At H x (dBar b)) (hy : At H y (dBar b)) : Rep 2 H x y := by
  refine rep_tuple hx hy (by rw [List.length_map]; omega) fun d hd u v hu hv => ?_
  obtain ⟨s, _, rfl⟩ := List.mem_map.mp hd
  exact rep_sgn hu hv
theorem rep_sharp {H : Hp} {x y : V} {ms : List Int} {n : Nat} (hn : n ≤ 6) (hx : At H x (.list (sharpD ms n))) (hy : At H y (.list (sharpD ms n))) : Rep 3 H x y := by
  have pm : (sharpD ms n).Perm ((sharpU ms n).map dBar) := List.mergeSort_perm _ _
  have hl : (sharpU ms n).length ≤ 12 + 12 * 12 := by
    unfold sharpU
    rw [List.length_append, List.length_map]
    have h1 := List.length_filter_le (aM ms) (allS n)
    have al := allS_len n
    have h2 := flat_len (f := rowAt ms (allS n)) (k := 12) (l := List.range (2 * n)) fun s _ => Nat.le_trans (rowAt_len ms _ s) (by omega)
    rw [List.length_range] at h2
    omega
  refine rep_list hx hy (by rw [pm.length_eq, List.length_map]; omega) fun d hd u v hu hv => ?_
  obtain ⟨b, hb, rfl⟩ := List.mem_map.mp (pm.mem_iff.mp hd)
  refine rep_bar ?_ hu hv
  unfold sharpU at hb
  rcases List.mem_append.mp hb with h | h
  · obtain ⟨s, _, rfl⟩ := List.mem_map.mp h
    show 1 ≤ 100
    decide
  · obtain ⟨i, _, h2⟩ := List.mem_flatMap.mp h
    obtain ⟨s, t, rfl⟩ := rowAt_pair h2
    show 2 ≤ 100
    decide
theorem rep_lots {H : Hp} {x y : V} {ls : List (List Int)} (hl : ls.length ≤ 1000) (hb : ∀ l ∈ ls, l.length ≤ 1000) (hx : At H x (.list (ls.map tupD))) (hy : At H y (.list (ls.map tupD))) : Rep 2 H x y := by
  refine rep_list hx hy (by rw [List.length_map]; omega) fun d hd u v hu hv => ?_
  obtain ⟨l, h, rfl⟩ := List.mem_map.mp hd
  refine rep_tuple hu hv (by rw [List.length_map]; have := hb l h; omega) fun d hd u v hu hv => ?_
  obtain ⟨i, _, rfl⟩ := List.mem_map.mp hd
  rw [hu.isI, hv.isI]
  exact Rep.flat rfl
theorem at_lot {H : Hp} {a : Addr} {ns : List Int} (h : H a = some (.tup (ns.map V.int))) : At H (.ref a) (tupD ns) := At.mkT h (Ats.map_ fun i _ => .int i)
/-! masks -/
theorem up_len : ∀ {ns : List Int} {lo : Int} {k : Nat}, Up ns → (∀ z ∈ ns, lo ≤ z ∧ z < lo + k) → ns.length ≤ k
  | [], _, _, _, _ => Nat.zero_le _
  | x :: r, lo, k, u, h => by
    have c := List.pairwise_cons.mp u
    have hx := h x List.mem_cons_self
    cases k with
    | zero => omega
    | succ k =>
      have := up_len (ns := r) (lo := lo + 1) (k := k) c.2 fun z hz => by
        have h1 := c.1 z hz
        have h2 := h z (List.mem_cons_of_mem _ hz)
        omega
      rw [List.length_cons]
      omega
theorem masks_len {n : Nat} {ms : List Int} (hn : 0 < n) (hn' : n ≤ 6) (h : masksOk n ms) : ms.length ≤ 64 := by
  obtain ⟨b, hb1, hb2, hb0, hb64⟩ := pow_small hn hn'
  refine Nat.le_trans (up_len (lo := 0) (k := b) h.1 fun z hz => ?_) hb64
  have := h.2.2 z hz
  rw [← hb1, Int.one_mul]
  omega
theorem masks_sub {n : Nat} {ms ms' : List Int} (h : masksOk n ms) (s : ms'.Sublist ms) (ne : ms' ≠ []) : masksOk n ms' := ⟨List.Pairwise.sublist s h.1, ne, fun m hm => h.2.2 m (s.subset hm)⟩
theorem cut_to {xs : List V} {r : Nat} (h : r ≤ xs.length) : cutV xs none (some (r : Int)) = xs.take r := by
  unfold cutV
  rw [HT.sIx_nat, HT.sIx_none]
  simp [Nat.min_eq_left h]
theorem cut_last {xs : List V} (h : 0 < xs.length) : cutV xs (some (-1)) none = xs.drop (xs.length - 1) := by
  unfold cutV
  rw [HT.sIx_none]
  have e : HT.sIx xs.length 0 (some (-1)) = xs.length - 1 := by
    unfold HT.sIx
    simp
    omega
  rw [e]
  exact List.take_of_length_le (by rw [List.length_drop]; omega)
end TW
set_option Elab.async false
set_option linter.all false
set_option maxRecDepth 100000
set_option maxHeartbeats 4000000
namespace TW
open PySem PySem.Spec PyProof.Rows L2
def lotP (ns : List Int) : Prop := lotOk ns
/-- the things of a part ascend -/
def ascB (b : Bar) : Bool := asc (b.map fun s : Sgn => (s.1 : Int))
def insB (b : Bar) (t : Option Int) : Bool := b.all fun s => inThings (s.1 : Int) t
section
variable {P : Program} {w : World} {K : PySem.W.Frag} {mg : Str → Option Value} {base : Heap} {C : Addr}
/-! is_ascending, of a list of ints -/
def spIsAscL (K : PySem.W.Frag) : Sp := fun vs H Q _ => ∃ (t : Addr) (ns : List Int), vs = [.ref t] ∧ SqL K H t (ns.map V.int) ∧ ns.length ≤ 1000 ∧ ∀ H', Ex H H' → Q (.bl (asc ns)) H'
theorem ok_is_ascendingL (D : Dfn K mg "is_ascending" s_is_ascending ["values"]) (z : Z mg) : Ok P w K mg base 1 "is_ascending" ["values"] (spIsAscL K) := D.ok fun f fd F => by
  refine F.ok sc_is_ascending (fun vs H Q E h => ?_) (fun cdv A outer s H vs Q E hr h => ?_)
  · obtain ⟨i, t, rfl, _⟩ := h
    rfl
  · obtain ⟨t, ns, rfl, hT, hl, q⟩ := h
    refine ⟨_, (pss_one (ps_ret (pe_callB (cr_all rfl) (by rfl) z.all (by decide +kernel) (pa_cons (pe_lc (own := [("low", 1), ("high", 2)]) (g := gTup K 2 (gCons (gName 1) (gCons (gName 2) gNil))) rfl sc_is_ascending.nd (RZ.pi_zipA (by rfl) z.zip (pa_cons (pv 0) (pa_cons (pe_slice sl_list (pv 0) (po_some pe_int) po_none) pa_nil))) (blkOk_by (N := ["values", "low", "high"]) (own := [("low", 1), ("high", 2)]) (sc := defScope s_is_ascending) (by decide +kernel)) (fun _ _ _ _ _ => pg_tup rfl (pgs_cons (pg_name (i := 1) sc_is_ascending.nd rfl (Or.inl rfl)) (pgs_cons (pg_name (i := 2) sc_is_ascending.nd rfl (Or.inl rfl)) (pgs_nil)))) (fun _ _ _ _ _ => pts_nil) (fun _ _ _ _ _ => (pe_cmpR op_lt (pv 1) (pv 2) (nomark _)))) pa_nil)))), ?_⟩
    have i0 : HT.sIx (ns.map V.int).length 0 (some 1) = min 1 (ns.map V.int).length := HT.sIx_nat _ 0 1
    have e1 : cutV (ns.map V.int) (some 1) none = (ns.drop 1).map V.int := by
      unfold cutV
      rw [i0, HT.sIx_none, List.map_drop]
      cases ns with
      | nil => rfl
      | cons x r =>
        rw [show min 1 (List.map V.int (x :: r)).length = 1 by rw [List.map_cons, List.length_cons]; omega]
        rw [← List.length_drop, List.take_length]
    refine ⟨_, rfl, _, rfl, _, rfl, t, ns.map V.int, rfl, hT, fun p hp => ?_⟩
    rw [e1]
    have x1 : Ex H (upd H p (.lst ((ns.drop 1).map V.int))) := Evl.Ex.new hp
    have hp2 : (upd H p (.lst ((ns.drop 1).map V.int))) p = some (.lst ((ns.drop 1).map V.int)) := upd_same
    generalize upd H p (.lst ((ns.drop 1).map V.int)) = H1 at x1 hp2
    refine ⟨t, p, ns.map V.int, (ns.drop 1).map V.int, rfl, .inl ⟨Evl.ex_l x1 hT, Evl.sq_of hp2, fun Dl hD => ?_⟩⟩
    refine lc_it (walk_zip (adj_len ns)) (fun i H' => Ex H1 H' ∧ H' Dl = some (.lst (((adj ns).take i).map V.bl))) ⟨Evl.Ex.new hD, by rw [upd_same]; rfl⟩ (fun i H' _ p => ⟨Evl.ex_l (x1.trans p.1) hT, Evl.sq_of (p.1 _ _ hp2)⟩) ?_ (fun H' p => ?_)
    · rintro i x H2 H3 hi ⟨x2, hL⟩ ⟨T, u, v, rfl, nT, rfl, hu, hv⟩
      obtain ⟨p, q2, rfl, rfl, ha⟩ := adj_get hu hv
      refine ⟨T, _, rfl, Evl.st_of upd_same, rfl, _, _, rfl, _, _, rfl, rfl, rfl, ?_⟩
      refine ⟨_, rfl, _, rfl, _, _, rfl, rfl, _, Eq.trans (upd_ne (ne_of_none hL nT)) hL, szl ?_, ?_, ?_⟩
      · rw [List.length_map, List.length_take]
        have := adj_len ns
        rw [List.length_map] at this
        omega
      · exact Evl.Ex.mut (x2.trans (Evl.Ex.new nT)) hD
      · rw [upd_same, take_snoc ha, List.map_append]
        rfl
    · obtain ⟨x2, h2⟩ := p
      rw [List.take_length] at h2
      refine ⟨Dl, adj ns, rfl, Evl.sq_of h2, ?_⟩
      rw [adj_asc]
      exact q H' (x1.trans x2)
def spIsLiteral : Sp := fun vs H Q _ => ∃ (v : V) (s : Sgn) (t : Option Int), vs = [v, thV t] ∧ At H v (dSgn s) ∧ ∀ H', Ex H H' → Q (.bl (inThings (s.1 : Int) t)) H'
def spCheckLiteral : Sp := fun vs H Q _ => ∃ (v : V) (s : Sgn) (t : Option Int), vs = [v, thV t] ∧ At H v (dSgn s) ∧ inThings (s.1 : Int) t = true ∧ ∀ H', Ex H H' → Q .non H'
def spIsPart : Sp := fun vs H Q _ => ∃ (v : V) (b : Bar) (t : Option Int), vs = [v, thV t] ∧ At H v (dBar b) ∧ b.length ≤ 1000 ∧ insB b t = true ∧ ascB b = true ∧ ∀ H', Ex H H' → Q (.bl true) H'
def spCheckPart : Sp := fun vs H Q _ => ∃ (v : V) (b : Bar) (t : Option Int), vs = [v, thV t] ∧ At H v (dBar b) ∧ b.length ≤ 1000 ∧ insB b t = true ∧ ascB b = true ∧ ∀ H', Ex H H' → Q .non H'
end
end TW
set_option Elab.async false
set_option linter.all false
set_option maxRecDepth 100000
set_option maxHeartbeats 4000000
namespace TW
open PySem PySem.Spec PyProof.Rows L2
def LotsOk (L : Lots) : Prop := ∀ p ∈ L, lotOk p.2
def fitL (L : Lots) (b : Bar) : List (Addr × List Int) := L.filter fun p => b.all (mt p.2)
section
variable {P : Program} {w : World} {K : PySem.W.Frag} {mg : Str → Option Value} {base : Heap} {C : Addr}
def spContrary : Sp := fun vs H Q _ => ∃ (G : Hp) (l : List (Addr × HO)) (v : V) (s : Sgn), vs = [v] ∧ Has G H l ∧ At G v (dSgn s) ∧ ∀ (G' H' : Hp) (x : V), Ex G G' → Has G' H' l → At G' x (dSgn (s.1, !s.2)) → Q x H'
theorem sw_not (b : Bool) : (if decide (V.str (sw b) = V.str "in") = true then V.str "out" else V.str "in") = V.str (sw (!b)) := by
  rw [sw_in]
  cases b <;> rfl
def spFits (K : PySem.W.Frag) : Sp := fun vs H Q _ => ∃ (a : Addr) (ns : List Int) (v : V) (b : Bar), vs = [.ref a, v] ∧ SqT K H a (ns.map V.int) ∧ lotOk ns ∧ At H v (dBar b) ∧ b.length ≤ 1000 ∧ ascB b = true ∧ ∀ H', Ex H H' → Q (.bl (b.all (mt ns))) H'
theorem ins_none (b : Bar) : insB b none = true := List.all_eq_true.mpr fun _ _ => rfl
def spFitting (C : Addr) : Sp := fun vs H Q _ => ∃ (a : Addr) (n : Nat) (L : Lots) (v : V) (b : Bar), vs = [.ref a, v] ∧ TabAt C H a n L ∧ LotsOk L ∧ L.length ≤ 1000 ∧ At H v (dBar b) ∧ b.length ≤ 1000 ∧ ascB b = true ∧
  ∀ (t : Addr) (H' : Hp), H t = none → Ex H H' → H' t = some (.lst (refs (fitL L b))) → Q (.ref t) H'
def canB (lots : List (List Int)) (b : Bar) : Bool := lots.any fun ns => b.all (mt ns)
def spCanBe (C : Addr) : Sp := fun vs H Q _ => ∃ (a : Addr) (n : Nat) (L : Lots) (v : V) (b : Bar), vs = [.ref a, v] ∧ TabAt C H a n L ∧ LotsOk L ∧ L.length ≤ 1000 ∧ At H v (dBar b) ∧ b.length ≤ 1000 ∧ insB b (some (n : Int)) = true ∧ ascB b = true ∧ ∀ H', Ex H H' → Q (.bl (canB (L.map (·.2)) b)) H'
theorem can_len (L : Lots) (b : Bar) : decide (((fitL L b).length : Int) > 0) = canB (L.map (·.2)) b := by
  unfold canB fitL
  rw [Bool.eq_iff_iff, decide_eq_true_eq, List.any_map, List.any_eq_true]
  constructor
  · intro h
    obtain ⟨p, hp⟩ := List.exists_mem_of_length_pos (l := L.filter fun p => b.all (mt p.2)) (by omega)
    exact ⟨p, (List.mem_filter.mp hp).1, (List.mem_filter.mp hp).2⟩
  · rintro ⟨p, hp, hq⟩
    have := List.length_pos_of_mem (List.mem_filter.mpr ⟨hp, hq⟩ : p ∈ L.filter fun p => b.all (mt p.2))
    omega
def spMetAll : Sp := fun vs H Q _ => ∃ (m : Int) (v : V) (b : Bar), vs = [.int m, v] ∧ At H v (dBar b) ∧ b.length ≤ 1000 ∧ ∀ H', Ex H H' → Q (.bl (b.all (met m))) H'
def spLawFitting (K : PySem.W.Frag) : Sp := fun vs H Q _ => ∃ (a : Addr) (ms : List Int) (v : V) (b : Bar), vs = [.ref a, v] ∧ SqL K H a (ms.map V.int) ∧ ms.length ≤ 1000 ∧ At H v (dBar b) ∧ b.length ≤ 1000 ∧
  ∀ (t : Addr) (H' : Hp), H t = none → Ex H H' → H' t = some (.lst ((ms.filter fun m => b.all (met m)).map V.int)) → Q (.ref t) H'
end
end TW
set_option Elab.async false
set_option linter.all false
set_option maxRecDepth 100000
set_option maxHeartbeats 4000000
namespace TW
open PySem PySem.Spec PyProof.Rows L2
/-- things ascend -/
def UpB (b : Bar) : Prop := b.Pairwise fun s t => s.1 < t.1
theorem upB_asc {b : Bar} (h : UpB b) : ascB b = true := by
  unfold ascB
  refine up_asc ?_
  unfold Up
  rw [List.pairwise_map]
  exact h.imp fun q => by omega
theorem upB_snoc {b : Bar} {s : Sgn} (h : UpB b) (l : ∀ t ∈ b, t.1 < s.1) : UpB (b ++ [s]) := by
  unfold UpB
  rw [List.pairwise_append]
  exact ⟨h, List.pairwise_singleton _ _, fun t ht u hu => by rw [List.mem_singleton.mp hu]; exact l t ht⟩
theorem ins_lt {b : Bar} {n : Nat} (h : ∀ s ∈ b, s.1 < n) : insB b (some (n : Int)) = true := List.all_eq_true.mpr fun s hs => decide_eq_true (by have := h s hs; omega)
/-- a literal of the k-th thing is told, or not -/
def tPick (lo : Bool) : TS := fun D σ H => ∃ (k dr : Nat) (held : Int) (o : Addr) (ys : List V) (G : Hp) (l : List (Addr × HO)), σ[3]? = some (some (.int held)) ∧ σ[4]? = some (some (.bl lo)) ∧ σ[5]? = some (some (.ref o)) ∧ σ[6]? = some (some (.int k)) ∧ σ[7]? = some (some (.int dr)) ∧
  Has G H ((o, .lst ys) :: l) ∧ ys.length ≤ 1000 ∧ D.nx σ H ∧ ∀ (b : Bool) (G' H' : Hp) (x : V), Ex G G' → Has G' H' ((o, .lst (ys ++ [x])) :: l) → At G' x (dSgn (k, b)) → D.nx σ H'
section
variable {P : Program} {w : World} {K : PySem.W.Frag} {mg : Str → Option Value} {base : Heap} {C : Addr}
def spSomePart : Sp := fun vs H Q _ => ∃ (G : Hp) (l : List (Addr × HO)) (p a : Addr) (o : HO) (k n : Nat) (ms : List Int), vs = [.ref p, .int n, .ref a] ∧ Has G H ((p, o) :: l) ∧ WellO k o ∧ k < 10 ^ 7 ∧ n ≤ 1000 ∧ G a = some (.lst (ms.map V.int)) ∧ ms ≠ [] ∧ ms.length ≤ 1000 ∧
  ∀ (G' H' : Hp) (o' : HO) (x : V) (b : Bar), Ex G G' → Has G' H' ((p, o') :: l) → WellO (k + 1002) o' → At G' x (dBar b) → b.length ≤ n → (∀ s ∈ b, s.1 < n) → UpB b → Q x H'
end
end TW
set_option Elab.async false
set_option linter.all false
set_option maxRecDepth 100000
set_option maxHeartbeats 4000000
namespace TW
open PySem PySem.Spec PyProof.Rows L2
/-! NoLot -/
structure TN (K : PySem.W.Frag) (mg : Str → Option Value) (x : Str) (N : Addr) : Prop where
  g : mg x = some (.ref N)
  ex : PySem.W.excIn K N [.type "ValueError", .type "Exception", .type "BaseException", .type "object"] "ValueError.__new__" = true
  k : PySem.W.keepIn K (.ref N) = true
  b : PySem.W.subIn K (.ref N) (.type "BaseException") = some true
  t : PySem.W.typeIn K (.ref N) = some (.type "type")
  e : PySem.W.exmOne K (.ref N) (.ref N) = some true
def closL (ls : Lots) (n : Nat) : Bar := (allS n).filter fun s => ls.all fun p => mt p.2 s
section
variable {P : Program} {w : World} {K : PySem.W.Frag} {mg : Str → Option Value} {base : Heap} {C N : Addr}
abbrev NC : List Str := ["table", "part", "lots", "literals", "lot", "literal"]
def scLit : Scope := { kind := .function, names := [(".0", .local), ("literal", .cell), ("all", .globalImplicit), ("lots", .cell)], isGenerator := false, isCoroutine := false }
def spClosure (C N : Addr) : Sp := fun vs H Q E => ∃ (G : Hp) (l : List (Addr × HO)) (a : Addr) (n : Nat) (L : Lots) (v : V) (b : Bar), vs = [.ref a, v] ∧ Has G H l ∧ TabAt C G a n L ∧ LotsOk L ∧ L.length ≤ 1000 ∧ n ≤ 1000 ∧ At G v (dBar b) ∧ b.length ≤ 1000 ∧ insB b (some (n : Int)) = true ∧ ascB b = true ∧
  (fitL L b = [] → ∀ H', Has G H' l → E (.ref N) none H') ∧ (fitL L b ≠ [] → ∀ (G' H' : Hp) (x : V), Ex G G' → Has G' H' l → At G' x (dBar (closL (fitL L b) n)) → Q x H')
end
end TW
set_option Elab.async false
set_option linter.all false
set_option maxRecDepth 100000
set_option maxHeartbeats 4000000
namespace TW
open PySem PySem.Spec PyProof.Rows L2
section
variable {X : Cx} {K : PySem.W.Frag}
theorem op_catAK (h : X.K = K := by rfl) : OpR X (binaryOp .Add) (rCatA K) := by
  subst h
  exact op_catA
end
theorem Has.down {G G' H : Hp} {l : List (Addr × HO)} (e : Ex G G') (h : Has G' H l) : Has G H l := ⟨e.trans h.ex, fun q hq => ⟨Evl.fresh_back e (h.own q hq).1, (h.own q hq).2⟩, h.nd⟩
theorem At.lot {H : Hp} {v : V} {ns : List Int} (h : At H v (tupD ns)) : ∃ a, v = .ref a ∧ H a = some (.tup (ns.map V.int)) := by
  obtain ⟨a, xs, rfl, ha, hx⟩ := At.isT h
  have e : xs = ns.map V.int := by
    clear ha h
    induction ns generalizing xs with
    | nil => exact List.length_eq_zero_iff.mp hx.1
    | cons n ns ih =>
      cases xs with
      | nil => cases hx.1
      | cons x xs =>
        obtain rfl := hx.head.isI
        rw [ih xs hx.rest]
        rfl
  rw [e] at ha
  exact ⟨a, rfl, ha⟩
theorem lots_of_ats {G : Hp} : ∀ {xs : List V} {ls : List (List Int)}, Ats G xs (ls.map tupD) → ∃ ks : Lots, xs = refs ks ∧ InLots G ks ∧ ks.map (·.2) = ls
  | [], [], _ => ⟨[], rfl, fun p hp => absurd hp List.not_mem_nil, rfl⟩
  | [], _ :: _, h => by cases h.1
  | _ :: _, [], h => by cases h.1
  | x :: xs, l :: ls, h => by
    obtain ⟨a, rfl, ha⟩ := At.lot h.head
    obtain ⟨ks, e, hk, el⟩ := lots_of_ats (xs := xs) (ls := ls) h.rest
    refine ⟨(a, l) :: ks, by rw [e]; rfl, fun p hp => ?_, by rw [List.map_cons, el]⟩
    rcases List.mem_cons.mp hp with rfl | hp
    · exact ha
    · exact hk p hp
/-! all lots, as the program makes them -/
def lotsL : Nat → List (List Int)
  | 0 => [[]]
  | n + 1 => lotsL n ++ (lotsL n).map (· ++ [(n : Int)])
theorem lotsL_len (n : Nat) : (lotsL n).length = 2 ^ n := by
  induction n with
  | zero => rfl
  | succ n ih =>
    show (lotsL n ++ (lotsL n).map _).length = _
    rw [List.length_append, List.length_map, ih, Nat.pow_succ]
    omega
theorem bit_low {m : Nat} {n : Nat} (h : m < 2 ^ n) : bitB (m : Int) n = false := by
  unfold bitB
  have e : ((m : Int) / 2 ^ n) = 0 := Int.ediv_eq_zero_of_lt (by omega) (by exact_mod_cast h)
  rw [e]
  decide
theorem bit_high {m : Nat} {n : Nat} (h : m < 2 ^ n) : bitB ((2 ^ n + m : Nat) : Int) n = true := by
  unfold bitB
  have p : (0 : Int) < 2 ^ n := Int.pow_pos (by decide)
  have e : (((2 ^ n + m : Nat) : Int) / 2 ^ n) = 1 := by
    have e1 : ((2 ^ n + m : Nat) : Int) = (m : Int) + 2 ^ n := by push_cast; omega
    rw [e1, Int.add_ediv_of_dvd_right (Int.dvd_refl _), Int.ediv_self (by omega), Int.ediv_eq_zero_of_lt (by omega) (by exact_mod_cast h)]
    rfl
  rw [e]
  decide
theorem bit_same {m : Nat} {n k : Nat} (h : k < n) : bitB ((2 ^ n + m : Nat) : Int) k = bitB (m : Int) k := by
  unfold bitB
  have p : (0 : Int) < 2 ^ k := Int.pow_pos (by decide)
  have e1 : ((2 ^ n + m : Nat) : Int) = (m : Int) + 2 ^ (n - k - 1) * 2 * 2 ^ k := by
    have : (2 : Int) ^ n = 2 ^ (n - k - 1) * 2 * 2 ^ k := by
      rw [← Int.pow_succ, ← Int.pow_add]
      congr 1
      omega
    push_cast
    omega
  rw [e1, Int.add_mul_ediv_right _ _ (by omega), Int.add_mul_emod_self_right]
theorem lot_same {m n w : Nat} (h : w ≤ n) : lotOf ((2 ^ n + m : Nat) : Int) w = lotOf (m : Int) w := by
  induction w with
  | zero => rfl
  | succ w ih => rw [lot_up, lot_up, ih (by omega), bit_same (by omega)]
theorem lotsL_eq (n : Nat) : lotsL n = (List.range (2 ^ n)).map fun m : Nat => lotOf (m : Int) n := by
  induction n with
  | zero => rfl
  | succ n ih =>
    show lotsL n ++ (lotsL n).map _ = _
    rw [show 2 ^ (n + 1) = 2 ^ n + 2 ^ n by rw [Nat.pow_succ]; omega, List.range_add, List.map_append, ih, List.map_map, List.map_map]
    congr 1
    · refine List.map_congr_left fun m hm => ?_
      rw [lot_up, bit_low (List.mem_range.mp hm), if_neg (by decide), List.append_nil]
    · refine List.map_congr_left fun m hm => ?_
      show lotOf (m : Int) n ++ [(n : Int)] = lotOf ((2 ^ n + m : Nat) : Int) (n + 1)
      rw [lot_up, bit_high (List.mem_range.mp hm), if_pos rfl, lot_same (Nat.le_refl n)]
def keptM (n : Nat) (bs : List Bar) : List Int := (rangeI (2 ^ n)).filter fun m => keptB m bs
def ruleP (n : Nat) (bs : List Bar) : Prop := ∀ b ∈ bs, barOk n b
theorem lots_kept {n : Nat} {bs : List Bar} (h : ruleP n bs) : (lotsL n).filter (fun ns => bs.all fun b => b.any (mt ns)) = (keptM n bs).map fun m => lotOf m n := by
  rw [lotsL_eq]
  unfold keptM rangeI
  rw [List.filter_map, List.filter_map, List.map_map]
  have e : (List.range (2 ^ n)).filter ((fun ns => bs.all fun b => b.any (mt ns)) ∘ fun m : Nat => lotOf (m : Int) n) = (List.range (2 ^ n)).filter ((fun m => keptB m bs) ∘ fun k : Nat => (k : Int)) := by
    refine filt_congr fun m hm => ?_
    show (bs.all fun b => b.any (mt (lotOf (m : Int) n))) = keptB (m : Int) bs
    unfold keptB
    rw [Bool.eq_iff_iff, List.all_eq_true, List.all_eq_true]
    constructor
    · intro q b hb
      rw [← any_mt (h b hb).2.2.1]
      exact q b hb
    · intro q b hb
      rw [any_mt (h b hb).2.2.1]
      exact q b hb
  rw [e]
  rfl
section
variable {P : Program} {w : World} {K : PySem.W.Frag} {mg : Str → Option Value} {base : Heap} {C N : Addr}
def spKeepsAll (K : PySem.W.Frag) : Sp := fun vs H Q _ => ∃ (a : Addr) (ns : List Int) (v : V) (bs : List Bar), vs = [.ref a, v] ∧ SqT K H a (ns.map V.int) ∧ At H v (dBars bs) ∧ (∀ b ∈ bs, b.length ≤ 100) ∧ ∀ H', Ex H H' → Q (.bl (bs.all fun b => b.any (mt ns))) H'
/-! all_lots -/
abbrev NAL : List Str := ["things", "lots", "thing", "lot"]
def spAllLots : Sp := fun vs H Q _ => ∃ (G : Hp) (l : List (Addr × HO)) (n : Nat), vs = [.int n] ∧ Has G H l ∧ n ≤ 6 ∧ ∀ (G' H' : Hp) (t : Addr) (xs : List V), Ex G G' → Has G' H' ((t, .lst xs) :: l) → Ats G' xs ((lotsL n).map tupD) → Q (.ref t) H'
theorem lotsL_small {i n : Nat} (h : i ≤ n) (hn : n ≤ 6) : 2 ^ i ≤ 64 := Nat.le_trans (Nat.pow_le_pow_right (by decide) h) (Nat.le_trans (Nat.pow_le_pow_right (by decide) hn) (by decide))
theorem lotsL_bound {n : Nat} : ∀ l ∈ lotsL n, l.length ≤ n := fun l hl => by
  rw [lotsL_eq] at hl
  obtain ⟨m, _, rfl⟩ := List.mem_map.mp hl
  exact lot_len _ _
def spIsRule : Sp := fun vs H Q _ => ∃ (v : V) (b : Bar) (n : Nat), vs = [v, .int n] ∧ At H v (dBar b) ∧ barOk n b ∧ ∀ H', Ex H H' → Q (.bl true) H'
theorem ascB_of {b : Bar} (h : b.Pairwise fun s t => s.1 < t.1) : ascB b = true := by
  unfold ascB
  refine up_asc ?_
  unfold Up
  rw [List.pairwise_map]
  exact h.imp fun q => by omega
theorem ins_of {n : Nat} {b : Bar} (h : ∀ s ∈ b, s.1 < n) : insB b (some (n : Int)) = true := by
  unfold insB
  rw [List.all_eq_true]
  intro s hs
  show decide ((s.1 : Int) < (n : Int)) = true
  exact decide_eq_true (by have := h s hs; omega)
def spCheckRules : Sp := fun vs H Q _ => ∃ (v : V) (bs : List Bar) (n : Nat), vs = [v, .int n] ∧ At H v (dBars bs) ∧ ruleP n bs ∧ bs.length ≤ 1000 ∧ ∀ H', Ex H H' → Q .non H'
/-! table_of -/
abbrev NTO : List Str := ["things", "rules", "lots", "lot"]
/-- a list that stands there as long as these things do -/
def Stays (G : Hp) (l : List (Addr × HO)) (a : Addr) (o : HO) : Prop := ∀ H', Has G H' l → H' a = some o
theorem Stays.down {G G' : Hp} {l l' : List (Addr × HO)} {a : Addr} {o : HO} (h : Stays G l a o) (e : Ex G G') (s : l.Sublist l') : Stays G' l' a o := fun H' S => h H' ((S.down e).sub s)
theorem Stays.cell {G : Hp} {l : List (Addr × HO)} {a : Addr} {o : HO} (i : Nat) (h : l[i]? = some (a, o)) : Stays G l a o := fun _ S => S.get i h
theorem Stays.grd {G : Hp} {l : List (Addr × HO)} {a : Addr} {o : HO} (h : G a = some o) : Stays G l a o := fun _ S => S.ex _ _ h
def spTableOf (C N : Addr) : Sp := fun vs H Q E => ∃ (G : Hp) (l : List (Addr × HO)) (n : Nat) (a : Addr) (xs : List V) (bs : List Bar), vs = [.int n, .ref a] ∧ Has G H l ∧ 0 < n ∧ n ≤ 6 ∧ Stays G l a (.lst xs) ∧ Ats G xs (bs.map dBar) ∧ ruleP n bs ∧ bs.length ≤ 1000 ∧
  (keptM n bs = [] → ∀ H', Has G H' l → E (.ref N) none H') ∧ (keptM n bs ≠ [] → ∀ (G' H' : Hp) (t : Addr) (L : Lots), Ex G G' → Has G' H' l → TabAt C G' t n L → TabOf n (keptM n bs) L → Q (.ref t) H')
theorem keptM_len {n : Nat} {bs : List Bar} (hn : n ≤ 6) : (keptM n bs).length ≤ 64 := by
  unfold keptM rangeI
  refine Nat.le_trans (List.length_filter_le _ _) ?_
  rw [List.length_map, List.length_range]
  exact lotsL_small (Nat.le_refl n) hn
end
end TW
set_option Elab.async false
set_option linter.all false
set_option maxRecDepth 100000
set_option maxHeartbeats 4000000
namespace TW
open PySem PySem.Spec PyProof.Rows L2
def dueD (n : Nat) (bs : List Bar) : List PyData := ((keptM n bs).map fun m => tupD (lotOf m n)).mergeSort dLe
theorem keptM_ok {n : Nat} {bs : List Bar} (h : keptM n bs ≠ []) : masksOk n (keptM n bs) := ⟨List.Pairwise.sublist List.filter_sublist (rangeI_up _), h, fun m hm => by
  have := rangeI_mem.mp ((List.mem_filter.mp hm).1)
  have e : ((2 ^ n : Nat) : Int) = (2 : Int) ^ n := by push_cast; rfl
  rw [← e]
  exact this⟩
section
variable {P : Program} {w : World} {K : PySem.W.Frag} {mg : Str → Option Value} {base : Heap} {C N : Addr}
/-! _law_lots_due -/
abbrev NLD : List Str := ["wide", "bars", "mask"]
def spLotsDue : Sp := fun vs H Q _ => ∃ (G : Hp) (l : List (Addr × HO)) (n : Nat) (a : Addr) (xs : List V) (bs : List Bar), vs = [.int n, .ref a] ∧ Has G H l ∧ 0 < n ∧ n ≤ 6 ∧ Stays G l a (.lst xs) ∧ Ats G xs (bs.map dBar) ∧ ruleP n bs ∧
  ∀ (G' H' : Hp) (t : Addr) (ys : List V), Ex G G' → Has G' H' ((t, .lst ys) :: l) → Ats G' ys (dueD n bs) → Q (.ref t) H'
/-! _law_told_table -/
abbrev NTT : List Str := ["wide", "bars", "none", "book"]
def spToldTable : Sp := fun vs H Q _ => ∃ (G : Hp) (l : List (Addr × HO)) (n : Nat) (a : Addr) (xs : List V) (bs : List Bar), vs = [.int n, .ref a] ∧ Has G H l ∧ 0 < n ∧ n ≤ 6 ∧ Stays G l a (.lst xs) ∧ Ats G xs (bs.map dBar) ∧ ruleP n bs ∧ bs.length ≤ 1000 ∧
  ∀ (G' H' : Hp) (t : Addr) (ys : List V), Ex G G' → Has G' H' ((t, .lst ys) :: l) → Ats G' ys (dueD n bs) → Q (.ref t) H'
theorem ats_refs {G : Hp} {L : Lots} (h : InLots G L) : Ats G (refs L) ((L.map (·.2)).map tupD) := by
  rw [List.map_map]
  exact Ats.map_ fun q hq => at_lot (h q hq)
end
end TW
set_option Elab.async false
set_option linter.all false
set_option maxRecDepth 100000
set_option maxHeartbeats 4000000
namespace TW
open PySem PySem.Spec PyProof.Rows L2
def sw2 {α : Type} : List α → List α → List α
  | [], [a, b] => [b, a]
  | _, _ => []
theorem sw2_rel {vs : List V} {us : List Value} {zs : List V} {ws : List Value} (h1 : Vals vs us) (h2 : Vals zs ws) : Vals (sw2 vs zs) (sw2 us ws) := by
  cases h1 with
  | cons a b => exact .nil
  | nil =>
    cases h2 with
    | nil => exact .nil
    | cons a b =>
      cases b with
      | nil => exact .nil
      | cons c d =>
        cases d with
        | nil => exact .cons c (.cons a .nil)
        | cons e f => exact .nil
/-- a def that may raise, called by names alone, where it does not -/
theorem pe_kwC {X : Cx} {CX : CXT} {k : Nat} {x : Str} {ps ks : List Str} {g : List Value → List Value → List Value} {gV : List V → List V → List V} {sp : Sp} {E : XK} {kws : List Keyword} {tk : TA} {p pos : Pos} {f : Addr} {fd : FuncData}
    (F : FnOk X.prog X.w X.K X.mg X.base CX k f fd ps sp) (gm : X.mg x = some (.ref f)) (kp : PySem.W.keepIn X.K (.ref f) = true) (b : KBinds X.K fd ps ks g gV) (hx : Passes CX X E) (hr : Room k X.A) (hkw : PK X kws tk) (hg : Gl X x := by rfl)
    (hall : (backToKw pos (keywordEach kws X.env)).all (·.1.isSome) = true := by rfl) (hks : (backToKw pos (keywordEach kws X.env)).filterMap (·.1) = ks := by rfl) (hdb : (x == ("__debug__" : Str)) = false := by decide)
    (hpl : ((backTo pos (starEach [] X.env)).any (·.1) || (backToKw pos (keywordEach kws X.env)).any (·.1.isNone)) = false := by rfl) : PE X (.Call (.Name x p) [] kws pos) (fun σ H Q => tk σ H fun zs H2 => sp (gV [] zs) H2 Q E) := by
  refine ⟨fun pins s σ H Q I h => wpAny_Call_Name_kw (ld_glob I hg gm (PySem.W.callWith_KW0 (h₀ := X.base) I.ok.mod.kin kp hall (thn (hkw.run pos pins s σ H _ I h) fun ws s2 h2 => ?_) hpl) hdb)⟩
  obtain ⟨zs, H2, I2, rz, q2⟩ := h2
  rw [hks]
  exact ⟨I2.kIn, run_fnk (us := []) (vs := []) F hr b hx I2 .nil rz q2⟩
end TW
set_option Elab.async false
set_option linter.all false
set_option maxRecDepth 100000
set_option maxHeartbeats 4000000
/-! len(x) of an own class with its own __len__ -/
namespace TW
open PySem PySem.Spec PyProof.Rows L2
section
variable {prog : Program} {w : World} {A : Around} {E : Value → Shared → Prop} {s : Shared} {K : PySem.W.Frag} {x C f : Addr} {ox : Obj} {odd : Option Obj}
theorem len_ownW {Q : Value → Shared → Prop} (X : K.In s.heap) (I : PySem.W.InstAt s.heap x ox C odd) (hs : PySem.W.findIn K (.ref C) "__len__" = some (some (.ref f))) (hf : PySem.W.isFn K (.ref f) = true)
    (h : wpAny (model prog w) A.in1 (call (.ref f) [.ref x]) (fun r s' => ∃ n u, r = Value.int n u ∧ 0 ≤ n ∧ n < 2 ^ 63 ∧ Q (.int n s'.toks) { s' with toks := s'.toks + 1 }) E s) : wpAny (model prog w) A (call (.builtin "len") [.ref x]) Q E s := by
  refine Calls.call_function_entry kind_len plain_len entry_len (args_len1 _) ?_
  unfold Builtin.«len»
  refine wpAny_bind (m := oneArg "len" _) (wpAny_pure ?_)
  refine wpAny_bind (m := callSpecial? (.ref x) (Str.ofString "__len__")) (PySem.W.special_fn X I hs (beq_iff_eq.mp hf) (wpAny_mono h (fun r s' hr => ?_) fun _ _ y => y))
  obtain ⟨n, u, rfl, h0, h1, hq⟩ := hr
  refine wpAny_bind (wpAny_holding (wpAny_pure ?_))
  refine wpAny_bind (wpAny_letGo ?_)
  show wpAny _ _ (if n < 0 then _ else _) _ _ _
  rw [if_neg (by omega)]
  show wpAny _ _ (if n ≥ 2 ^ 63 then _ else _) _ _ _
  rw [if_neg (by omega)]
  exact wpAny_bind (wpAny_mkInt (wpAny_pure ⟨_, rfl, hq⟩))
end
def rLenOwn (C : Addr) (sp : Sp) : List V → Hp → VK → Prop := fun xs H Q => ∃ a dx fs, xs = [V.ref a] ∧ H a = some (.ins C dx fs) ∧ sp [.ref a] H (fun z H' => ∃ n : Int, z = .int n ∧ 0 ≤ n ∧ n < 2 ^ 63 ∧ Q (.int n) H') E0
theorem call_lenOwn {X : Cx} {k : Nat} {C f : Addr} {fd : FuncData} {sp : Sp} (hs : PySem.W.findIn X.K (.ref C) "__len__" = some (some (.ref f))) (hf : PySem.W.isFn X.K (.ref f) = true) (F : FnOk X.prog X.w X.K X.mg X.base CX0 k f fd ["self"] sp)
    (hb : Binds X.K fd ["self"] []) (hr : Room (k + 1) X.A) : CallR X (.builtin "len") (rLenOwn C sp) := by
  intro pins s σ H xs us Q I r h
  obtain ⟨a, dx, fs, rfl, ea, q⟩ := h
  obtain ⟨u, rfl, ru⟩ := r.one
  cases (show u = Value.ref a from ru)
  obtain ⟨mA, O, _, _, _, _⟩ := ins_get I.hok ea
  obtain ⟨od, J, _⟩ := O.look
  refine len_ownW I.kIn J hs hf (wpAny_call (codeAny_mono (F.run X.A.in1 X.stack s H ⟨[.ref a], []⟩ [.ref a] [.ref a] _ E0 hr.in1 I.env0.in1 (hb _ [.ref a] I.kIn rfl) (.cons rfl .nil) q) fun r s' hq => ?_))
  cases r with
  | error er => exact False.elim hq
  | ok fl =>
    cases fl with
    | ret u =>
      obtain ⟨v, H', I3, rv, n, rfl, h0, h1, q3⟩ := I.after hq
      obtain ⟨t, rfl⟩ : ∃ t, u = Value.int n t := rv
      exact ⟨n, t, rfl, h0, h1, .int n, H', I3.tok _, ⟨_, rfl⟩, q3⟩
    | next => exact False.elim hq
    | brk => exact False.elim hq
    | cont => exact False.elim hq
end TW
set_option Elab.async false
set_option linter.all false
set_option maxRecDepth 100000
set_option maxHeartbeats 4000000
/-! x in t, t a tuple of data -/
namespace TW
open PySem PySem.Spec PyProof.Rows L2
section
variable {X : Cx} {K : PySem.W.Frag}
def rInDT (K : PySem.W.Frag) : R2 := fun x y H Q => ∃ d ds, Dp K H x d ∧ Dp K H y (.tuple ds) ∧ SeqAt.shaped d = true ∧ SeqAt.shaped (.tuple ds) = true ∧ Q (.bl (ds.any fun z => PyData.eqv z d)) H
def rNotInDT (K : PySem.W.Frag) : R2 := fun x y H Q => ∃ d ds, Dp K H x d ∧ Dp K H y (.tuple ds) ∧ SeqAt.shaped d = true ∧ SeqAt.shaped (.tuple ds) = true ∧ Q (.bl (!ds.any fun z => PyData.eqv z d)) H
theorem op_inDT (hu : X.A.units + 65 < cLine) (h : X.K = K := by rfl) : OpR X (compareOp .In) (rInDT K) := by
  subst h
  intro pins s σ H x y v u Q I rx ry h
  obtain ⟨d, ds, hd, he, sd, se, q⟩ := h
  obtain ⟨as, r1⟩ := Dp.reads I d x v hd rx
  obtain ⟨bs, r2⟩ := Dp.reads I (.tuple ds) y u he ry
  exact SeqAt.in_tuple_reads r2 r1 (SeqAt.canLay_of_shaped se) (SeqAt.canLay_of_shaped sd) (room_in_shaped sd hu) ⟨.bl _, H, I, rfl, q⟩
theorem op_notInDT (hu : X.A.units + 65 < cLine) (h : X.K = K := by rfl) : OpR X (compareOp .NotIn) (rNotInDT K) := by
  subst h
  intro pins s σ H x y v u Q I rx ry h
  obtain ⟨d, ds, hd, he, sd, se, q⟩ := h
  obtain ⟨as, r1⟩ := Dp.reads I d x v hd rx
  obtain ⟨bs, r2⟩ := Dp.reads I (.tuple ds) y u he ry
  exact SeqAt.notIn_tuple_reads r2 r1 (SeqAt.canLay_of_shaped se) (SeqAt.canLay_of_shaped sd) (room_in_shaped sd hu) ⟨.bl _, H, I, rfl, q⟩
end
end TW
set_option Elab.async false
set_option linter.all false
set_option maxRecDepth 100000
set_option maxHeartbeats 4000000
/-! sorted of a tuple of data -/
namespace TW
open PySem PySem.Spec PyProof.Rows L2
open PySem.W (EachIs AllAlike Sortable dataLt dataLe dataKind)
def rSortTE (K : PySem.W.Frag) : List V → Hp → VK → Prop := fun vs H Q => ∃ (a : Addr) (bs : List (V × PyData)), vs = [.ref a] ∧ SqT K H a (bs.map (·.1)) ∧ (∀ b ∈ bs, Dp K H b.1 b.2) ∧ AllAlike (bs.map (·.2)) ∧ Sortable (bs.map (·.2)) ∧ (∀ b ∈ bs, b.2.depth ≤ 20) ∧
  ∀ p : Addr, H p = none → Q (.ref p) (upd H p (.lst ((bs.mergeSort (dataLe false (·.2))).map (·.1))))
section
variable {X : Cx} {K : PySem.W.Frag}
theorem cr_sortT (hu : X.A.units + 64 < cLine) (hK : X.K = K := by rfl) : CallR X (.builtin "sorted") (rSortTE K) := by
  subst hK
  intro pins s σ H vs us Q I r h
  obtain ⟨a, bs, rfl, hs, hd, hal, hso, hdep, q⟩ := h
  obtain ⟨its, rv, ⟨o, ho, hc, n, hdt⟩, hz⟩ := I.tuple hs
  rw [Vals.ref1 r]
  have lz : its.length = bs.length := by rw [← rv.length, List.length_map]
  have lz2 : its.length ≤ sizeLine := by rw [lz, ← List.length_map (f := (·.1))]; exact hz
  have e := each_of_vals rv
  refine Calls.call_function_entry kind_sorted plain_sorted entry_sorted (args_sorted1 _) ?_
  unfold Builtin.«sorted»
  refine wpAny_bind (m := checkCount "sorted" 1 1 _) (wpAny_pure ?_)
  refine wpAny_bind (wpAny_collect_seq a (.inr rfl) ho hc hdt (fun h' hk => ?_) (by rw [List.size_toArray]; exact lz2))
  rw [show its.toArray.toList = its by simp]
  have I1 := I.kept (t' := s.toks) hk
  refine wpAny_bind (wpAny_newList ?_ lz2)
  have at1 : (h'.push (seqObj "list" its.toArray 0)).get? h'.objs.size = some (seqObj "list" its.toArray 0) := Heap.get?_push_size _ rfl
  have keep1 : ∀ b u, h'.get? b = some u → (h'.push (seqObj "list" its.toArray 0)).get? b = some u := fun b u e => Heap.get?_push_of_some _ e
  generalize hg : h'.push (seqObj "list" its.toArray 0) = g at at1 keep1 ⊢
  have keep2 : ∀ b u, h'.get? b = some u → (PySem.W.sortingHeap g h'.objs.size its).get? b = some u := fun b u e =>
    PySem.W.sortingHeap_old (Nat.ne_of_lt (Heap.lt_size e)) (keep1 b u e)
  have er : EachIs (fun v (b : V × PyData) => ∃ as, Reads (PySem.W.sortingHeap g h'.objs.size its) v b.2 as) its bs := by
    have e2 := PySem.W.each_mem e
    refine e2.mono fun v b z => ?_
    obtain ⟨as, r⟩ := Dp.reads I1 b.2 b.1 v (hd b z.2) z.1
    exact ⟨as, PyProof.Rows.Reads.keeps (fun _ _ => keep2 _ _) r⟩
  have em := PySem.W.each_map (R := fun v d => ∃ as, Reads (PySem.W.sortingHeap g h'.objs.size its) v d as) (fun b : V × PyData => b.2) er
  have S : PySem.W.SortsAt X.prog X.w X.A.in1.in1 { s with heap := PySem.W.sortingHeap g h'.objs.size its } (dataKind (PySem.W.sortingHeap g h'.objs.size its) (bs.map (·.2))) its := by
    refine PySem.W.SortsAt.data em hal hso fun d hd1 => ?_
    obtain ⟨b, hb, rfl⟩ := List.mem_map.mp hd1
    have := hdep b hb
    show X.A.units + 1 + 1 + b.2.depth < cLine
    omega
  have eo := PySem.W.sortVals_data (h' := PySem.W.sortingHeap g h'.objs.size its) (enc := fun b : V × PyData => b.2) false e er hal
  refine wpAny_bind (wpAny_holding (wpAny_call_entry slot_list_sort ⟨_, at1, rfl⟩ entry_list_sort (PySem.W.list_sort_vals at1 S lz2 ⟨_, rfl, ?_⟩) (args_list_sort _)))
  generalize PySem.W.sortVals (dataKind (PySem.W.sortingHeap g h'.objs.size its) (bs.map (·.2))) false its its = out at eo
  obtain ⟨c, hc2⟩ := sortedHeap_at (vs := its) (out := out.toArray) at1
  have pm : (bs.mergeSort (dataLe false (·.2))).Perm bs := List.mergeSort_perm bs _
  have hlen : ((bs.mergeSort (dataLe false (·.2))).map (·.1)).length ≤ sizeLine := by
    rw [List.length_map, pm.length_eq, ← lz]
    exact lz2
  refine wpAny_pure ⟨_, rfl, .ref _, upd H h'.objs.size (.lst ((bs.mergeSort (dataLe false (·.2))).map (·.1))), I1.laid (t' := s.toks) (fun b u e => ?_) (Nat.le_refl _) ⟨hlen, out, c, vals_of_each eo, hc2⟩, rfl, q _ (I1.hok.fresh (Nat.le_refl _))⟩
  have q := keep1 b u e
  change (sortedHeap g h'.objs.size _ _).get? b = some u
  rw [sortedHeap_old (Nat.ne_of_lt (Heap.lt_size e)) (Heap.lt_size q)]
  exact q
/-! the rules of hand, their K apart -/
theorem op_neDK (hu : X.A.units + 64 < cLine) (h : X.K = K := by rfl) : OpR X (compareOp .NotEq) (rNeD K) := by
  subst h
  exact op_neD hu
end
end TW
set_option Elab.async false
set_option linter.all false
set_option maxRecDepth 100000
set_option maxHeartbeats 4000000
/-! x in o, x not in o, o of an own class with its own __contains__ -/
namespace TW
open PySem PySem.Spec PyProof.Rows L2
section
variable {M : Model} {A : Around} {E : Value → Shared → Prop} {s : Shared} {K : PySem.W.Frag} {x C f : Addr} {ox : Obj} {odd : Option Obj}
theorem contains_own {Q : Bool → Shared → Prop} {v : Value} (X : K.In s.heap) (I : PySem.W.InstAt s.heap x ox C odd) (hs : PySem.W.findIn K (.ref C) "__contains__" = some (some (.ref f))) (hf : PySem.W.isFn K (.ref f) = true)
    (h : wpAny M A (call (.ref f) [.ref x, v]) (fun r s' => ∃ b, r = Value.bool b ∧ Q b s') E s) : wpAny M A (contains (.ref x) v) Q E s := by
  unfold contains
  refine wpAny_holding ?_
  show wpAny M A (specialOf (.ref x) "__contains__" >>= _) Q E s
  refine wpAny_bind (wpAny_bind (I.type.here ((PySem.W.looks_findIn X hs).here ?_)))
  rw [if_neg (by simp)]
  refine wpAny_bind ?_
  unfold callSpecialUnlessNone?
  refine wpAny_bind (wpAny_bind (I.type.here ((PySem.W.looks_findIn X hs).here ?_)))
  refine wpAny_holding (wpAny_bind ((PySem.W.bind_fn X _ (beq_iff_eq.mp hf)).here ?_))
  dsimp only
  rw [if_neg (by simp)]
  refine wpAny_bind (wpAny_mono h (fun r s' hr => ?_) fun _ _ z => z)
  obtain ⟨b, rfl, hq⟩ := hr
  exact wpAny_pure (wpAny_pure hq)
end
def rInOwn (C : Addr) (sp : Sp) (neg : Bool) : R2 := fun x y H Q => ∃ a dx fs, y = .ref a ∧ H a = some (.ins C dx fs) ∧ sp [.ref a, x] H (fun z H' => ∃ b : Bool, z = .bl b ∧ Q (.bl (if neg then !b else b)) H') E0
section
variable {X : Cx} {k : Nat} {C f : Addr} {fd : FuncData} {sp : Sp}
theorem contains_run (hs : PySem.W.findIn X.K (.ref C) "__contains__" = some (some (.ref f))) (hf : PySem.W.isFn X.K (.ref f) = true) (F : FnOk X.prog X.w X.K X.mg X.base CX0 k f fd ["self", "value"] sp)
    (hb : Binds X.K fd ["self", "value"] []) (hr : Room k X.A) {pins : List (Addr × Obj)} {σ : L2.St} {s : Shared} {H : Hp} {a dx : Addr} {fs : List (Str × V)} {x : V} {v : Value} {R : Bool → Hp → Prop} {Q : Bool → Shared → Prop} {E : Value → Shared → Prop} (I : Inv X pins σ H s) (ea : H a = some (.ins C dx fs)) (rx : RelV x v)
    (q : sp [.ref a, x] H (fun z H' => ∃ b : Bool, z = .bl b ∧ R b H') E0) (hQ : ∀ b s' H', Inv X pins σ H' s' → R b H' → Q b s') : wpAny (model X.prog X.w) X.A (contains (.ref a) v) Q E s := by
  obtain ⟨mA, O, _, _, _, _⟩ := ins_get I.hok ea
  obtain ⟨od, J, _⟩ := O.look
  refine contains_own I.kIn J hs hf (wpAny_call (codeAny_mono (F.run X.A X.stack s H ⟨[.ref a, v], []⟩ [.ref a, v] [.ref a, x] _ E0 hr I.env0 (hb _ [.ref a, v] I.kIn rfl) (.cons rfl (.cons rx .nil)) q) fun r s' hq => ?_))
  cases r with
  | error er => exact False.elim hq
  | ok fl =>
    cases fl with
    | ret u =>
      obtain ⟨z, H', I3, rv, b, rfl, q3⟩ := I.after hq
      obtain rfl : u = Value.bool b := rv
      exact ⟨b, rfl, hQ b _ H' I3 q3⟩
    | next => exact False.elim hq
    | brk => exact False.elim hq
    | cont => exact False.elim hq
theorem op_inOwn (hs : PySem.W.findIn X.K (.ref C) "__contains__" = some (some (.ref f))) (hf : PySem.W.isFn X.K (.ref f) = true) (F : FnOk X.prog X.w X.K X.mg X.base CX0 k f fd ["self", "value"] sp)
    (hb : Binds X.K fd ["self", "value"] []) (hr : Room k X.A) : OpR X (compareOp .In) (rInOwn C sp false) := by
  intro pins s σ H x y v u Q I rx ry h
  obtain ⟨a, dx, fs, rfl, ea, q⟩ := h
  cases (show u = Value.ref a from ry)
  exact wpAny_bind (contains_run hs hf F hb hr I ea rx q fun b s' H' I' q' => wpAny_pure ⟨.bl b, H', I', rfl, q'⟩)
theorem op_notInOwn (hs : PySem.W.findIn X.K (.ref C) "__contains__" = some (some (.ref f))) (hf : PySem.W.isFn X.K (.ref f) = true) (F : FnOk X.prog X.w X.K X.mg X.base CX0 k f fd ["self", "value"] sp)
    (hb : Binds X.K fd ["self", "value"] []) (hr : Room k X.A) : OpR X (compareOp .NotIn) (rInOwn C sp true) := by
  intro pins s σ H x y v u Q I rx ry h
  obtain ⟨a, dx, fs, rfl, ea, q⟩ := h
  cases (show u = Value.ref a from ry)
  exact wpAny_bind (contains_run hs hf F hb hr I ea rx q fun b s' H' I' q' => wpAny_pure ⟨.bl (!b), H', I', rfl, q'⟩)
end
end TW
set_option Elab.async false
set_option linter.all false
set_option maxRecDepth 100000
set_option maxHeartbeats 1000000
/-! x == y, both of an own class with its own __eq__ -/
namespace TW
open PySem PySem.Spec PyProof.Rows L2
def rEqOwn (C : Addr) (sp : Sp) : R2 := fun x y H Q => ∃ a b dx dy fs gs, x = .ref a ∧ y = .ref b ∧ H a = some (.ins C dx fs) ∧ H b = some (.ins C dy gs) ∧ sp [.ref a, .ref b] H (fun z H' => ∃ t : Bool, z = .bl t ∧ Q (.bl t) H') E0
section
variable {X : Cx} {k : Nat} {C f : Addr} {fd : FuncData} {sp : Sp}
theorem op_eqOwn (hs : PySem.W.findIn X.K (.ref C) "__eq__" = some (some (.ref f))) (hf : PySem.W.isFn X.K (.ref f) = true) (F : FnOk X.prog X.w X.K X.mg X.base CX0 k f fd ["self", "other"] sp)
    (hb : Binds X.K fd ["self", "other"] []) (hr : Room k X.A) : OpR X (compareOp .Eq) (rEqOwn C sp) := by
  intro pins s σ H x y v u Q I rx ry h
  obtain ⟨a, b, dx, dy, fs, gs, rfl, rfl, ha, hb', q⟩ := h
  cases (show v = Value.ref a from rx)
  cases (show u = Value.ref b from ry)
  obtain ⟨mA, J, _⟩ := ins_get I.hok ha
  obtain ⟨mB, J', _⟩ := ins_get I.hok hb'
  obtain ⟨od, J, _⟩ := J.look
  obtain ⟨od', J', _⟩ := J'.look
  obtain ⟨m, hF⟩ := I.fr
  show wpAny (model X.prog X.w) X.A (richCompare .Eq (.ref a) (.ref b)) (EP X pins σ Q) X.xe s
  refine PySem.W.cmp_K (op := .Eq) (tb := .ref C) hr.units0 hF I.ok.mod.kin J J'.type (by simp [PySem.W.notFirst]) hs hf ?_
  refine wpAny_call (codeAny_mono (F.run X.A X.stack s H ⟨[.ref a, .ref b], []⟩ [.ref a, .ref b] [.ref a, .ref b] _ E0 hr I.env0 (hb _ [.ref a, .ref b] I.kIn rfl) (.cons rfl (.cons rfl .nil)) q) fun r s' hq => ?_)
  cases r with
  | error er => exact False.elim hq
  | ok fl =>
    cases fl with
    | ret w =>
      obtain ⟨z, H', I3, rz, t, rfl, q3⟩ := I.after hq
      obtain rfl : w = Value.bool t := rz
      exact ⟨.bl t, H', I3, rfl, q3⟩
    | next => exact False.elim hq
    | brk => exact False.elim hq
    | cont => exact False.elim hq
end
end TW
set_option Elab.async false
set_option linter.all false
set_option maxRecDepth 100000
set_option maxHeartbeats 1000000
/-! sorted(set of ints), any number of them up to 4000 -/
namespace L2
open PySem PySem.Spec PyProof.Rows
section
variable {P : Program} {w : World} {A : Around} {E : Value → Shared → Prop} {s : Shared} {a : Addr}
theorem sorted_setN {S : Int → Bool} {n : Nat} {Q : Value → Shared → Prop} (R : SetR w s.heap a S n) (hh : A.handled = none) (hn4 : n ≤ 4000)
    (hQ : ∀ s' p (out : Array Value) (c : Nat) (ns : List Int), (∀ b o, s.heap.get? b = some o → s'.heap.get? b = some o) → s'.gens = s.gens → s'.os = s.os → s.heap.objs.size ≤ p →
      s'.heap.get? p = some (seqObj "list" out c) → IntsAre out.toList ns → ns.Pairwise (· < ·) → (∀ k, k ∈ ns ↔ S k = true) → ns.length = n → Q (.ref p) s') :
    wpAny (model P w) A (call (.builtin "sorted") [.ref a]) Q E s := by
  obtain ⟨o, es, ep, t, ho, hex, hd, g, nd, hm, hb, hf, hn, hr, hl⟩ := R
  refine Calls.call_function_entry kind_sorted plain_sorted entry_sorted (args_sorted1 _) ?_
  unfold Builtin.«sorted»
  refine wpAny_bind (m := checkCount "sorted" 1 1 _) (wpAny_pure ?_)
  refine wpAny_bind (collect_set (A := A.in1) hh ⟨o, ho, hex.1, hd⟩ hf hb hr hl fun s1 vs k1 hz g1 o1 pm => ?_)
  have hvl : vs.length = n := by rw [pm.length_eq, List.length_map, Array.length_toList]; exact hn
  have hI : IntsAre vs (vs.map Builtin.Re.reRawOf) := ints_of vs fun v hv => by
    obtain ⟨e, he, q⟩ := List.mem_map.mp (pm.mem_iff.mp hv)
    obtain ⟨k, tk, h1, _⟩ := g e he
    exact ⟨k, tk, by rw [← q]; exact h1⟩
  have pk : (vs.map Builtin.Re.reRawOf).Perm (es.toList.map keyOf) := by
    have q := pm.map Builtin.Re.reRawOf
    rw [List.map_map] at q
    exact q
  have lz : vs.length ≤ sizeLine := by rw [hvl, sizeLine_eq]; omega
  refine wpAny_bind (wpAny_newList ?_ lz)
  have hoL : (s1.heap.push (seqObj "list" vs.toArray 0)).get? s1.heap.objs.size = some (seqObj "list" vs.toArray 0) := Heap.get?_push_size _ rfl
  refine wpAny_bind (wpAny_holding (wpAny_call_entry slot_list_sort ⟨_, hoL, rfl⟩ entry_list_sort (SrtO.list_sort_ord SrtO.swo_int hoL lz (fun h2 => SrtO.ints_sortable hI h2) fun out h1 h2 => ⟨_, rfl, ?_⟩) (args_list_sort _)))
  obtain ⟨a1, a2, a3⟩ := SrtO.ints_out hI h1 h2
  obtain ⟨c, hc⟩ := sortedHeap_at (vs := vs) (out := out.toArray) hoL
  have pn : (out.map SrtO.iv).Perm (es.toList.map keyOf) := a2.trans pk
  refine wpAny_pure ⟨_, rfl, hQ _ s1.heap.objs.size out.toArray c (out.map SrtO.iv) (fun b u e => ?_) g1 o1 hz hc a1 (lt_of_le_nodup _ a3 (pn.nodup_iff.mpr nd)) (fun k => by rw [pn.mem_iff, ← hm k]) ?_⟩
  · have q := k1 b u e
    have hlt := Heap.lt_size q
    show (sortedHeap (s1.heap.push (seqObj "list" vs.toArray 0)) s1.heap.objs.size vs out.toArray).get? b = some u
    rw [sortedHeap_old (Nat.ne_of_lt hlt) (by rw [size_push']; exact Nat.lt_succ_of_lt hlt)]
    exact Heap.get?_push_of_some _ q
  · rw [pn.length_eq, List.length_map, Array.length_toList]; exact hn
end
def rSortedSetN (w : World) : List V → Hp → VK → Prop := fun vs H Q => ∃ (a : Addr) (S : Int → Bool) (n : Nat), vs = [V.ref a] ∧ H a = some (SetO w a S n) ∧ n ≤ 4000 ∧
  ∀ (ns : List Int) (p : Addr), ns.Pairwise (· < ·) → (∀ k : Int, k ∈ ns ↔ S k = true) → ns.length = n → H p = none → Q (.ref p) (upd H p (.lst (ns.map V.int)))
section
variable {X : Cx}
theorem cr_sortedSetN {w : World} (hc : X.calm = true) (hw : X.w = w := by rfl) : CallR X (.builtin "sorted") (rSortedSetN w) := by
  subst hw
  intro pins s σ H vs us Q I r h
  obtain ⟨a, S, n, rfl, ha, h4, q⟩ := h
  have R := setO_get I ha
  rw [Vals.ref1 r]
  refine sorted_setN R (I.ok.hd hc) h4 fun s' p out c ns k g o hp hg hi hs hm hl => ?_
  have hlen : (ns.map V.int).length ≤ sizeLine := by rw [List.length_map, hl, sizeLine_eq]; omega
  have hn : H p = none := I.hok.fresh hp
  have J : Inv X pins σ (upd H p (.lst (ns.map V.int))) { s with heap := s'.heap, gens := s'.gens, drawn := s'.drawn, toks := s'.toks } :=
    I.call (ch := []) (Un.laid k hp hn) (I.hok.laid k hp ⟨hlen, out.toList, c, vals_of_ints hi, hg⟩) (by rw [g]; exact I.bare) (fun _ z => nomatch z)
  have e : s' = { s with heap := s'.heap, gens := s'.gens, drawn := s'.drawn, toks := s'.toks } := by
    cases s'
    cases s
    cases o
    rfl
  rw [e]
  exact ⟨.ref p, _, J, rfl, q ns p hs hm hl hn⟩
end
end L2
set_option Elab.async false
set_option linter.all false
set_option maxRecDepth 100000
set_option maxHeartbeats 1000000
/-! for (a, b), v in d.items(), d a dict with tuple keys (locked) -/
namespace L2
open PySem PySem.Spec PyProof.Rows
section
variable {X : Cx} {pins : List (Addr × Obj)} {σ : St} {H : Hp} {s : Shared} {d : Addr} {o : Obj}
theorem Inv.frzT2 {kvs : List (List Key × V)} (I : Inv X pins σ H s) (h : H d = some (.frz o (.dT kvs))) :
    (d == sysModules) = false ∧ ∃ (es : Array DictEntry) (ep : Nat), s.heap.DictRaw d es ep ∧ es.size = kvs.length ∧
      ∀ (i : Nat) (k : List Key) (v : V), kvs[i]? = some (k, v) → ∃ (hi : i < es.size) (q : Addr), es[i].key = .ref q ∧ H q = some (.tup (k.map kV)) ∧ RelV v es[i].val := by
  obtain ⟨hd, z, hs, xs, pr, o', es, ep, ho, hx, hdt, he, _⟩ := I.hok d _ h
  refine ⟨hs, es, ep, ⟨o', ho, hx, hdt⟩, ?_, fun i k v e => ?_⟩
  · have l1 : es.size = xs.length := size_of_entries he
    have l2 : kvs.length = xs.length := Paired.length pr
    omega
  · obtain ⟨b, hb, e1, e2, e3⟩ := paired_get pr e
    have q := entry_at he i
    rw [hb] at q
    obtain ⟨hi, eq⟩ := Array.getElem?_eq_some_iff.mp q
    refine ⟨hi, b.2.1, ?_, e2, ?_⟩
    · rw [eq]
      rfl
    · rw [eq]
      exact e3
end
def Itit (d : Addr) (o : Obj) (kvs : List (List Key × V)) : It :=
  ⟨fun i H => H d = some (.frz o (.dT kvs)) ∧ i < kvs.length, fun i H x H' => ∃ (T q : Addr) (k : List Key) (v : V), kvs[i]? = some (k, v) ∧ x = .ref T ∧ H T = none ∧ H q = some (.tup (k.map kV)) ∧ H' = upd H T (.tup [.ref q, v]), fun i H => H d = some (.frz o (.dT kvs)) ∧ kvs.length ≤ i⟩
theorem raw_ep {h : Heap} {d : Addr} {es es' : Array DictEntry} {ep ep' : Nat} (a : h.DictRaw d es ep) (b : h.DictRaw d es' ep') : es' = es ∧ ep' = ep := by
  obtain ⟨o, h1, _, h2⟩ := a
  obtain ⟨o', h1', _, h2'⟩ := b
  rw [h1] at h1'
  cases h1'
  exact dict_ep h2 h2'
section
variable {P : Program} {w : World} {K : PySem.W.Frag} {d : Addr} {o : Obj} {es : Array DictEntry} {ep : Nat}
theorem turn_itemsT {kvs : List (List Key × V)} {elts : List Expr} {kk : Nat} {tpos : Pos} (it : Addr) (hod : o.data = .dict es ep) :
    Turn P w K (.Tuple elts kk tpos) (Itit d o kvs) [it] it (fun i h => ∃ ok ov, IsItemIter h it d i kvs.length ep ok ov) where
  mem := by simp
  obj := fun i h st b hb => by
    have e : b = it := by simpa using hb
    subst e
    obtain ⟨ok, ov, e⟩ := st
    exact ⟨_, e, fun v z => nomatch z⟩
  keep := fun i h h' st k => let ⟨ok, ov, e⟩ := st; ⟨ok, ov, k it (by simp) _ e⟩
  item := by
    intro X hP hw hK hc i pins s σ H E I hf st hg
    subst hP hw hK
    obtain ⟨hd, hi⟩ := hg
    obtain ⟨hs, es', ep', hr, hsz, ent⟩ := I.frzT2 hd
    obtain ⟨hs0, hgd, hx0, es0, ep0, hdt0, _⟩ := I.frzT hd
    obtain ⟨rfl, rfl⟩ := dict_ep hod hdt0
    obtain ⟨rfl, rfl⟩ := raw_ep ⟨o, hgd, hx0, hod⟩ hr
    obtain ⟨⟨k, v⟩, hkv⟩ : ∃ p, kvs[i]? = some p := ⟨kvs[i], List.getElem?_eq_getElem hi⟩
    obtain ⟨hie, q, hkey, hq, hval⟩ := ent i k v hkv
    obtain ⟨ok, ov, he⟩ := st
    rw [← hsz] at he
    have hlt : it < s.heap.objs.size := Heap.lt_size he
    refine wpAny_pyNext_items_item_raw he hr hie fun h' ho hT hz hk => ?_
    rw [hkey] at ho hT
    generalize hu : es'[i].val = u at ho hT hval
    refine ⟨_, rfl, wpAny_letOwnedTupleGo_items (s := { s with heap := h' }) ho fun h'' he' sb => ?_⟩
    have hT2 : h''.get? s.heap.objs.size = some { cls := .type "tuple", data := .seq #[.ref q, u] } := (sb.2 _ (Nat.ne_of_gt hlt)).trans hT
    have new : ObjOk X.prog X.w (upd H s.heap.objs.size (.tup [.ref q, v])) h'' s.heap.objs.size (.tup [.ref q, v]) :=
      ⟨by show 2 ≤ sizeLine; decide, [.ref q, u], .cons rfl (.cons hval .nil), ⟨_, hT2, rfl, _, rfl⟩⟩
    have I1 : Inv X pins σ (upd H s.heap.objs.size (.tup [.ref q, v])) { s with heap := h'' } :=
      I.turnedNew (t' := s.toks) (ch := [it]) (fun b ob hb e => (sb.2 b (by simpa using hb)).trans (hk b ob (by simpa using hb) e)) hf (Nat.le_refl _) new
    refine ⟨.ref s.heap.objs.size, _, I1, rfl, ⟨_, q, k, v, hkv, rfl, I.hok.fresh (Nat.le_refl _), hq, rfl⟩, ⟨.ref q, u, ?_⟩, fun b hb => ?_⟩
    · rw [← hsz]; exact he'
    · have e : b = it := by simpa using hb
      rw [e, upd_ne (Nat.ne_of_lt hlt)]
      exact (hf it (by simp)).1
  done := by
    intro X hP hw hK hc i pins s σ H E I hf st hg
    subst hP hw hK
    obtain ⟨hd, hi⟩ := hg
    obtain ⟨f0, f1, f2, f3, f4, f5⟩ := hf it (by simp)
    obtain ⟨hs, es', ep', hr, hsz, ent⟩ := I.frzT2 hd
    obtain ⟨hs0, hgd, hx0, es0, ep0, hdt0, _⟩ := I.frzT hd
    obtain ⟨rfl, rfl⟩ := dict_ep hod hdt0
    obtain ⟨rfl, rfl⟩ := raw_ep ⟨o, hgd, hx0, hod⟩ hr
    obtain ⟨ok, ov, he⟩ := st
    rw [← hsz] at he
    exact wpAny_pyNext_items_end_raw (I.ok.hd hc) he hr (by omega) fun h' eb => ⟨rfl, I.turned (t' := s.toks) (fun b ob hb e => eb b ob hb e) f0 f1 f3 f4 f5⟩
  self := fun A i s Q E st h => let ⟨_, _, e⟩ := st; PySem.W.kcp_self e h
end
def iItemsT (td : TE) : TI := fun σ H R => td σ H fun x H1 => ∃ d o kvs, x = .ref d ∧ H1 d = some (.frz o (.dT kvs)) ∧ R (Itit d o kvs) H1
section
variable {X : Cx} {tg e : Expr} {td : TE} {apos cpos : Pos}
theorem pi_itemsT {elts : List Expr} {kk : Nat} {tpos : Pos} (he : PE X e td) (hbase : attributeBase e "items" X.env (eval e X.env) = eval e X.env := by rfl) (hline : (apos.endLine == cpos.line) = true := by rfl) :
    PI X (.Tuple elts kk tpos) (.Call (.Attribute e "items" apos) [] [] cpos) (iItemsT td) := by
  refine ⟨fun pins s σ H R I h => ?_⟩
  refine wpAny_Call_method (T := "dict") (id := "dict.items") hbase rfl hline F.plainAttrs_dict F.slot_dict_items F.type_dict_items (thn (he.run pins s σ H _ I h) fun u s1 ⟨x, H1, I1, rx, d, o, kvs, ex, hd, q⟩ => ?_)
  subst ex
  obtain rfl : u = Value.ref d := rx
  obtain ⟨hs, es, ep, hr, hsz, ent⟩ := I1.frzT2 hd
  obtain ⟨hs0, hgd, hx0, es0, ep0, hdt0, _⟩ := I1.frzT hd
  obtain ⟨rfl, rfl⟩ := raw_ep ⟨o, hgd, hx0, hdt0⟩ hr
  have nd : ∀ b, Value.ref d = .ref b → ∃ ob, s1.heap.get? b = some ob ∧ ob.dict = none := fun b e => by
    cases e
    exact ⟨o, hgd, hx0.2.1⟩
  refine ⟨hr.typeIs, nd, ?_⟩
  have I2 : Inv X pins σ H1 { s1 with heap := s1.heap.push { cls := .type "dict_items", data := .fields #[.ref d] } } := I1.kept (t' := s1.toks) fun b ob q => Heap.get?_push_of_some _ q
  have fin : wpAny (model X.prog X.w) X.A (pyIter (.ref s1.heap.objs.size)) (PIE X pins σ (.Tuple elts kk tpos) R) X.xe { s1 with heap := s1.heap.push { cls := .type "dict_items", data := .fields #[.ref d] } } := by
    refine wpAny_pyIter_items_raw (d := d) ⟨_, Heap.get?_push_size _ rfl, rfl, rfl⟩ (hr.at fun _ e => Heap.get?_push_of_some _ e) (pi_one (tk := s1.toks) I2 _ (turn_itemsT _ hdt0) ⟨.none, .none, ?_⟩ q)
    rw [← hsz]
    exact Heap.get?_push_size _ rfl
  show wpAny _ _ (callWith cpos (.builtin "dict.items") [.ref d] [] []) _ X.xe s1
  exact method_meetsIn F.slot_dict_items F.entry_dict_items rfl (PySem.evalArgs_none ⟨rfl, hr.typeIs, F.args_dict_items_1 _, _, meets_dict_items_raw d hs, ⟨es, ep, hr⟩, fin⟩)
end
section
variable {d : Addr} {o : Obj}
theorem walk_itemsT {kvs : List (List Key × V)} : Walk (Itit d o kvs) kvs.length (fun H => H d = some (.frz o (.dT kvs)))
    (fun i H x H' => ∃ (T q : Addr) (k : List Key) (v : V), kvs[i]? = some (k, v) ∧ x = .ref T ∧ H T = none ∧ H q = some (.tup (k.map kV)) ∧ H' = upd H T (.tup [.ref q, v])) :=
  ⟨fun _ _ hi q => ⟨q, hi⟩, fun _ q => ⟨q, Nat.le_refl _⟩, fun _ _ _ _ _ _ y => y⟩
end
end L2
set_option Elab.async false
set_option linter.all false
set_option maxRecDepth 100000
set_option maxHeartbeats 1000000
namespace TW
open PySem PySem.Spec PyProof.Rows L2
/-! ties: two places and a weight -/
abbrev Arc := Nat × Nat × Nat
def arcL (t : Arc) : List Int := [(t.1 : Int), (t.2.1 : Int), (t.2.2 : Int)]
def arcD (t : Arc) : PyData := tupD (arcL t)
def arcOk (n : Nat) (t : Arc) : Prop := t.1 < n ∧ t.2.1 < n ∧ t.1 ≠ t.2.1
def endsA (t : Arc) : Nat × Nat := (min t.1 t.2.1, max t.1 t.2.1)
def wOf (ts : List Arc) (p : Nat × Nat) : Nat := ((ts.filter fun t => decide (endsA t = p)).map fun t => t.2.2).sum
def pairsN (n : Nat) : List (Nat × Nat) := (List.range n).flatMap fun a => ((List.range n).filter fun b => decide (a < b)).map fun b => (a, b)
def sumA (n : Nat) (ts : List Arc) : List Arc := ((pairsN n).filter fun p => decide (0 < wOf ts p)).map fun p => (p.1, p.2, wOf ts p)
theorem arcL_inj {s t : Arc} (h : arcL s = arcL t) : s = t := by
  unfold arcL at h
  simp only [List.cons.injEq, Int.natCast_inj, and_true] at h
  obtain ⟨h1, h2, h3⟩ := h
  exact Prod.ext h1 (Prod.ext h2 h3)
theorem mem_pairsN {n : Nat} {p : Nat × Nat} : p ∈ pairsN n ↔ p.1 < p.2 ∧ p.2 < n := by
  unfold pairsN
  rw [List.mem_flatMap]
  constructor
  · rintro ⟨a, ha, h⟩
    obtain ⟨b, hb, rfl⟩ := List.mem_map.mp h
    obtain ⟨h1, h2⟩ := List.mem_filter.mp hb
    exact ⟨of_decide_eq_true h2, List.mem_range.mp h1⟩
  · rintro ⟨h1, h2⟩
    exact ⟨p.1, List.mem_range.mpr (by omega), List.mem_map.mpr ⟨p.2, List.mem_filter.mpr ⟨List.mem_range.mpr h2, decide_eq_true h1⟩, rfl⟩⟩
theorem pairsN_pw (n : Nat) : (pairsN n).Pairwise fun p q => p.1 < q.1 ∨ (p.1 = q.1 ∧ p.2 < q.2) := by
  unfold pairsN
  rw [List.pairwise_flatMap]
  refine ⟨fun a _ => ?_, List.pairwise_lt_range.imp fun {a b} h x hx y hy => ?_⟩
  · rw [List.pairwise_map]
    exact (List.pairwise_lt_range.filter _).imp fun h => .inr ⟨rfl, h⟩
  · obtain ⟨_, _, rfl⟩ := List.mem_map.mp hx
    obtain ⟨_, _, rfl⟩ := List.mem_map.mp hy
    exact .inl h
theorem wOf_snoc (ts : List Arc) (t : Arc) (p : Nat × Nat) : wOf (ts ++ [t]) p = wOf ts p + (if endsA t = p then t.2.2 else 0) := by
  unfold wOf
  rw [List.filter_append, List.map_append, List.sum_append]
  congr 1
  by_cases h : endsA t = p
  · rw [if_pos h, List.filter_cons_of_pos (p := fun t => decide (endsA t = p)) (decide_eq_true h)]
    simp
  · rw [if_neg h, List.filter_cons_of_neg (p := fun t => decide (endsA t = p)) (by rw [decide_eq_false h]; decide)]
    simp
theorem wOf_perm {ts us : List Arc} (h : ts.Perm us) (p : Nat × Nat) : wOf ts p = wOf us p := ((h.filter _).map _).sum_nat
theorem wOf_none {ts : List Arc} {p : Nat × Nat} (h : ∀ t ∈ ts, endsA t ≠ p) : wOf ts p = 0 := by
  unfold wOf
  rw [List.filter_eq_nil_iff.mpr fun t ht => by rw [decide_eq_false (h t ht)]; decide]
  rfl
theorem sumA_perm {ts us : List Arc} (h : ts.Perm us) (n : Nat) : sumA n ts = sumA n us := by
  have e : wOf ts = wOf us := funext fun p => wOf_perm h p
  unfold sumA
  rw [e]
theorem mem_sumA {n : Nat} {ts : List Arc} {t : Arc} : t ∈ sumA n ts ↔ t.1 < t.2.1 ∧ t.2.1 < n ∧ t.2.2 = wOf ts (t.1, t.2.1) ∧ 0 < t.2.2 := by
  unfold sumA
  rw [List.mem_map]
  constructor
  · rintro ⟨p, hp, rfl⟩
    obtain ⟨h1, h2⟩ := List.mem_filter.mp hp
    obtain ⟨h3, h4⟩ := mem_pairsN.mp h1
    exact ⟨h3, h4, rfl, of_decide_eq_true h2⟩
  · rintro ⟨h1, h2, h3, h4⟩
    refine ⟨(t.1, t.2.1), List.mem_filter.mpr ⟨mem_pairsN.mpr ⟨h1, h2⟩, decide_eq_true (by rw [← h3]; exact h4)⟩, ?_⟩
    rw [← h3]
theorem sumA_ok {n : Nat} {ts : List Arc} : ∀ t ∈ sumA n ts, arcOk n t := fun t ht => by
  obtain ⟨h1, h2, _⟩ := mem_sumA.mp ht
  exact ⟨by omega, h2, by omega⟩
theorem sumA_pw (n : Nat) (ts : List Arc) : (sumA n ts).Pairwise fun s t => s.1 < t.1 ∨ (s.1 = t.1 ∧ s.2.1 < t.2.1) := by
  unfold sumA
  rw [List.pairwise_map]
  exact (pairsN_pw n).filter _
theorem lexLt_arc {s t : Arc} (h : s.1 < t.1 ∨ (s.1 = t.1 ∧ s.2.1 < t.2.1)) : HT.lexLt (arcL s) (arcL t) = true := by
  rw [lex_list, decide_eq_true_eq]
  unfold arcL
  rw [List.cons_lt_cons_iff]
  rcases h with h | ⟨h1, h2⟩
  · exact .inl (by omega)
  · refine .inr ⟨by omega, ?_⟩
    rw [List.cons_lt_cons_iff]
    exact .inl (by omega)
theorem sumA_lex (n : Nat) (ts : List Arc) : ((sumA n ts).map arcL).Pairwise fun x y => HT.lexLt x y = true := by
  rw [List.pairwise_map]
  exact (sumA_pw n ts).imp fun h => lexLt_arc h
theorem sumA_nodup (n : Nat) (ts : List Arc) : (sumA n ts).Nodup := (sumA_pw n ts).imp fun {a b} h e => by
  rw [e] at h
  omega
theorem wOf_sumA {n : Nat} {ts : List Arc} {p : Nat × Nat} (h1 : p.1 < p.2) (h2 : p.2 < n) : wOf (sumA n ts) p = wOf ts p := by
  have one : ∀ l : List Arc, l.Nodup → (∀ t ∈ l, t.1 < t.2.1) → (∀ t ∈ l, t.2.2 = wOf ts (t.1, t.2.1)) → wOf l p = if p ∈ l.map (fun t => (t.1, t.2.1)) then wOf ts p else 0 := by
    intro l nd lt hw
    induction l with
    | nil => rfl
    | cons t l ih =>
      have nt := (List.nodup_cons.mp nd).1
      have ih := ih (List.nodup_cons.mp nd).2 (fun u hu => lt u (List.mem_cons_of_mem _ hu)) (fun u hu => hw u (List.mem_cons_of_mem _ hu))
      have et : endsA t = (t.1, t.2.1) := by
        have := lt t List.mem_cons_self
        unfold endsA
        rw [Nat.min_eq_left (by omega), Nat.max_eq_right (by omega)]
      have ec : wOf (t :: l) p = (if endsA t = p then t.2.2 else 0) + wOf l p := by
        unfold wOf
        by_cases h : endsA t = p
        · rw [if_pos h, List.filter_cons_of_pos (p := fun t => decide (endsA t = p)) (decide_eq_true h), List.map_cons, List.sum_cons]
        · rw [if_neg h, List.filter_cons_of_neg (p := fun t => decide (endsA t = p)) (by rw [decide_eq_false h]; decide), Nat.zero_add]
      rw [ec, ih, et, List.map_cons]
      by_cases h : (t.1, t.2.1) = p
      · have hn : p ∉ l.map fun t => (t.1, t.2.1) := fun hm => by
          obtain ⟨u, hu, eu⟩ := List.mem_map.mp hm
          have e : u = t := by
            have w1 := hw u (List.mem_cons_of_mem _ hu)
            have w2 := hw t List.mem_cons_self
            have e2 : (u.1, u.2.1) = (t.1, t.2.1) := eu.trans h.symm
            rw [e2, ← w2] at w1
            injection e2 with q1 q2
            exact Prod.ext q1 (Prod.ext q2 w1)
          exact nt (e ▸ hu)
        rw [if_pos h, if_neg hn, if_pos (by rw [h]; exact List.mem_cons_self), hw t List.mem_cons_self, h, Nat.add_zero]
      · rw [if_neg h, Nat.zero_add]
        congr 1
        rw [List.mem_cons, eq_iff_iff]
        constructor
        · exact .inr
        · rintro (e | e)
          · exact absurd e.symm h
          · exact e
  rw [one _ (sumA_nodup n ts) (fun t ht => (mem_sumA.mp ht).1) fun t ht => (mem_sumA.mp ht).2.2.1]
  by_cases h : p ∈ (sumA n ts).map fun t => (t.1, t.2.1)
  · rw [if_pos h]
  · rw [if_neg h]
    by_cases h0 : 0 < wOf ts p
    · exact absurd (List.mem_map.mpr ⟨(p.1, p.2, wOf ts p), mem_sumA.mpr ⟨h1, h2, rfl, h0⟩, rfl⟩) h
    · omega
theorem sumA_idem {n : Nat} (ts : List Arc) : sumA n (sumA n ts) = sumA n ts := by
  have e1 : sumA n (sumA n ts) = ((pairsN n).filter fun p => decide (0 < wOf (sumA n ts) p)).map fun p => (p.1, p.2, wOf (sumA n ts) p) := rfl
  rw [e1]
  have e : ∀ p ∈ pairsN n, wOf (sumA n ts) p = wOf ts p := fun p hp => by
    obtain ⟨h1, h2⟩ := mem_pairsN.mp hp
    exact wOf_sumA h1 h2
  rw [show ((pairsN n).filter fun p => decide (0 < wOf (sumA n ts) p)) = (pairsN n).filter fun p => decide (0 < wOf ts p) from filt_congr fun p hp => by rw [e p hp]]
  show _ = ((pairsN n).filter fun p => decide (0 < wOf ts p)).map fun p => (p.1, p.2, wOf ts p)
  refine List.map_congr_left fun p hp => ?_
  rw [e p (List.mem_filter.mp hp).1]
/-- sorted, the sums are in their order -/
theorem sort_arcs {n : Nat} {ts A : List Arc} (nd : A.Nodup) (h : ∀ t, t ∈ A ↔ t ∈ sumA n ts) : (A.map arcD).mergeSort dLe = (sumA n ts).map arcD := by
  have pm := List.mergeSort_perm (A.map arcD) dLe
  have pw := dLe_pw (A.map arcD)
  have em : A.map arcD = (A.map arcL).map tupD := by rw [List.map_map]; rfl
  generalize (A.map arcD).mergeSort dLe = Z at pm pw
  rw [em] at pm
  obtain ⟨W, pW, rfl⟩ := perm_back pm
  have e2 : (sumA n ts).map arcD = ((sumA n ts).map arcL).map tupD := by rw [List.map_map]; rfl
  rw [e2]
  congr 1
  have ndL : (A.map arcL).Nodup := by
    unfold List.Nodup
    rw [List.pairwise_map]
    exact List.Pairwise.imp (fun {a b} (hn : a ≠ b) e => hn (arcL_inj e)) nd
  rw [List.pairwise_map] at pw
  refine strict_ext lex_asymm (lots_strict (pw.imp fun {x y} q => ?_) (pW.nodup_iff.mpr ndL)) (sumA_lex n ts) fun z => ?_
  · rw [dLe_lots] at q
    rw [Bool.not_eq_true'] at q
    exact q
  · rw [pW.mem_iff, List.mem_map, List.mem_map]
    constructor
    · rintro ⟨t, ht, e⟩
      exact ⟨t, (h t).mp ht, e⟩
    · rintro ⟨t, ht, e⟩
      exact ⟨t, (h t).mpr ht, e⟩
theorem At.arc {H : Hp} {v : V} {t : Arc} (h : At H v (arcD t)) : ∃ a, v = .ref a ∧ H a = some (.tup [.int t.1, .int t.2.1, .int t.2.2]) := by
  obtain ⟨a, xs, rfl, h1, h2⟩ := At.isT h
  refine ⟨a, rfl, ?_⟩
  have e : xs = [.int t.1, .int t.2.1, .int t.2.2] := by
    match xs, h2 with
    | [x, y, z], h2 =>
      have e1 := h2.head.isI
      have e2 := h2.rest.head.isI
      have e3 := h2.rest.rest.head.isI
      rw [e1, e2, e3]
    | [], h2 => exact absurd h2.1 (by simp [arcL])
    | [_], h2 => exact absurd h2.1 (by simp [arcL])
    | [_, _], h2 => exact absurd h2.1 (by simp [arcL])
    | _ :: _ :: _ :: _ :: _, h2 => exact absurd h2.1 (by simp [arcL])
  rw [h1, e]
theorem at_arc {H : Hp} {a : Addr} {t : Arc} (h : H a = some (.tup [.int t.1, .int t.2.1, .int t.2.2])) : At H (.ref a) (arcD t) := At.mkT h (.cons (.int _) (.cons (.int _) (.cons (.int _) .nil)))
theorem nodup_lenG {α : Type} [DecidableEq α] : ∀ {xs ys : List α}, xs.Nodup → (∀ x ∈ xs, x ∈ ys) → xs.length ≤ ys.length
  | [], ys, _, _ => Nat.zero_le _
  | x :: xs, ys, nd, h => by
    have hx := h x List.mem_cons_self
    have ih := nodup_lenG (xs := xs) (ys := ys.erase x) (List.nodup_cons.mp nd).2 fun y hy => (List.mem_erase_of_ne (fun e => (List.nodup_cons.mp nd).1 (by rw [← e]; exact hy))).mpr (h y (List.mem_cons_of_mem _ hy))
    rw [List.length_erase_of_mem hx] at ih
    have := List.length_pos_of_mem hx
    rw [List.length_cons]
    omega
/-! the dict of the sums -/
def keyP (p : Nat × Nat) : List Key := [.inl (p.1 : Int), .inl (p.2 : Int)]
theorem keyP_inj {p q : Nat × Nat} (h : keyP p = keyP q) : p = q := by
  unfold keyP at h
  simp only [List.cons.injEq, Sum.inl.injEq, Int.natCast_inj, and_true] at h
  exact Prod.ext h.1 h.2
def entA (t : Arc) : List Key × V := (keyP (t.1, t.2.1), .int t.2.2)
structure Book (n : Nat) (rs ps : List Arc) : Prop where
  nd : (ps.map fun t => (t.1, t.2.1)).Nodup
  lt : ∀ t ∈ ps, t.1 < t.2.1 ∧ t.2.1 < n
  w : ∀ t ∈ ps, t.2.2 = wOf rs (t.1, t.2.1)
  all : ∀ r ∈ rs, endsA r ∈ ps.map fun t => (t.1, t.2.1)
def putA (ps : List Arc) (p : Nat × Nat) (w : Nat) : List Arc := if p ∈ ps.map (fun t => (t.1, t.2.1)) then ps.map (fun t => if (t.1, t.2.1) = p then (p.1, p.2, w) else t) else ps ++ [(p.1, p.2, w)]
theorem valV_ents (p : Nat × Nat) : ∀ ps : List Arc, valV (ps.map entA) (keyP p) = (ps.find? fun t => decide ((t.1, t.2.1) = p)).map fun t => V.int t.2.2
  | [] => rfl
  | t :: ps => by
    by_cases h : (t.1, t.2.1) = p
    · rw [List.map_cons, valV_pos (show (entA t).1 = keyP p by unfold entA; rw [h]), List.find?_cons_of_pos (p := fun t : Arc => decide ((t.1, t.2.1) = p)) (decide_eq_true h)]
      rfl
    · rw [List.map_cons, valV_neg (fun e => h (keyP_inj e)), List.find?_cons_of_neg (p := fun t : Arc => decide ((t.1, t.2.1) = p)) (by rw [decide_eq_false h]; decide), valV_ents p ps]
theorem putK_ents (ps : List Arc) (p : Nat × Nat) (w : Nat) : putK (ps.map entA) (keyP p) (.int w) = (putA ps p w).map entA := by
  unfold putK putA
  have e : ((ps.map entA).any fun kv => decide (kv.1 = keyP p)) = decide (p ∈ ps.map fun t => (t.1, t.2.1)) := by
    rw [Bool.eq_iff_iff, List.any_eq_true, decide_eq_true_eq, List.mem_map]
    constructor
    · rintro ⟨x, hx, h⟩
      obtain ⟨t, ht, rfl⟩ := List.mem_map.mp hx
      exact ⟨t, ht, keyP_inj (of_decide_eq_true h)⟩
    · rintro ⟨t, ht, h⟩
      exact ⟨entA t, List.mem_map.mpr ⟨t, ht, rfl⟩, decide_eq_true (by unfold entA; rw [h])⟩
  rw [e]
  by_cases h : p ∈ ps.map fun t => (t.1, t.2.1)
  · rw [if_pos (decide_eq_true h), if_pos h, List.map_map, List.map_map]
    refine List.map_congr_left fun t _ => ?_
    by_cases q : (t.1, t.2.1) = p
    · show (if (entA t).1 = keyP p then _ else _) = entA (if (t.1, t.2.1) = p then _ else _)
      rw [if_pos (show (entA t).1 = keyP p by unfold entA; rw [q]), if_pos q]
      unfold entA
      rw [q]
    · show (if (entA t).1 = keyP p then _ else _) = entA (if (t.1, t.2.1) = p then _ else _)
      rw [if_neg (show ¬ (entA t).1 = keyP p from fun e => q (keyP_inj e)), if_neg q]
  · rw [if_neg (by rw [decide_eq_false h]; decide), if_neg h, List.map_append]
    rfl
theorem putA_keys (ps : List Arc) (p : Nat × Nat) (w : Nat) : (putA ps p w).map (fun t => (t.1, t.2.1)) = if p ∈ ps.map (fun t => (t.1, t.2.1)) then ps.map (fun t => (t.1, t.2.1)) else ps.map (fun t => (t.1, t.2.1)) ++ [p] := by
  unfold putA
  by_cases h : p ∈ ps.map fun t => (t.1, t.2.1)
  · rw [if_pos h, if_pos h, List.map_map]
    refine List.map_congr_left fun t _ => ?_
    show ((if (t.1, t.2.1) = p then (p.1, p.2, w) else t).1, (if (t.1, t.2.1) = p then (p.1, p.2, w) else t).2.1) = _
    by_cases q : (t.1, t.2.1) = p
    · rw [if_pos q]
      exact q.symm
    · rw [if_neg q]
  · rw [if_neg h, if_neg h, List.map_append]
    rfl
theorem Book.put {n : Nat} {rs ps : List Arc} (B : Book n rs ps) {r : Arc} (hr : arcOk n r) : Book n (rs ++ [r]) (putA ps (endsA r) (wOf (rs ++ [r]) (endsA r))) := by
  have hlt : (endsA r).1 < (endsA r).2 ∧ (endsA r).2 < n := by
    obtain ⟨h1, h2, h3⟩ := hr
    unfold endsA
    show min r.1 r.2.1 < max r.1 r.2.1 ∧ max r.1 r.2.1 < n
    omega
  have mem : ∀ t ∈ putA ps (endsA r) (wOf (rs ++ [r]) (endsA r)), t = ((endsA r).1, (endsA r).2, wOf (rs ++ [r]) (endsA r)) ∨ (t ∈ ps ∧ (t.1, t.2.1) ≠ endsA r) := fun t ht => by
    unfold putA at ht
    split at ht
    · obtain ⟨u, hu, e⟩ := List.mem_map.mp ht
      split at e
      · exact .inl e.symm
      · rename_i q
        subst e
        exact .inr ⟨hu, q⟩
    · rename_i q
      rcases List.mem_append.mp ht with h | h
      · exact .inr ⟨h, fun e => q (List.mem_map.mpr ⟨t, h, e⟩)⟩
      · exact .inl (List.mem_singleton.mp h)
  refine ⟨?_, fun t ht => ?_, fun t ht => ?_, fun s hs => ?_⟩
  · rw [putA_keys]
    split
    · exact B.nd
    · rename_i h
      refine List.nodup_append.mpr ⟨B.nd, by simp, fun a ha b hb e => ?_⟩
      rw [List.mem_singleton.mp hb] at e
      exact h (e ▸ ha)
  · rcases mem t ht with rfl | ⟨h, _⟩
    · exact hlt
    · exact B.lt t h
  · rcases mem t ht with rfl | ⟨h, q⟩
    · rfl
    · rw [wOf_snoc, if_neg (fun e => q e.symm), Nat.add_zero]
      exact B.w t h
  · rw [putA_keys]
    have hm : endsA s ∈ ps.map (fun t => (t.1, t.2.1)) ∨ endsA s = endsA r := by
      rcases List.mem_append.mp hs with h | h
      · exact .inl (B.all s h)
      · rw [List.mem_singleton.mp h]
        exact .inr rfl
    split
    · rename_i h
      rcases hm with q | q
      · exact q
      · rw [q]; exact h
    · rcases hm with q | q
      · exact List.mem_append_left _ q
      · rw [q]; exact List.mem_append_right _ List.mem_cons_self
theorem Book.get {n : Nat} {rs ps : List Arc} (B : Book n rs ps) (p : Nat × Nat) : ((valV (ps.map entA) (keyP p)).getD (.int 0)) = .int (wOf rs p) := by
  rw [valV_ents]
  cases h : ps.find? fun t => decide ((t.1, t.2.1) = p) with
  | none =>
    rw [List.find?_eq_none] at h
    have e : wOf rs p = 0 := wOf_none fun r hr e => by
      obtain ⟨t, ht, q⟩ := List.mem_map.mp (B.all r hr)
      exact h t ht (decide_eq_true (q.trans e))
    rw [e]
    rfl
  | some t =>
    have q := of_decide_eq_true (List.find?_some (p := fun t : Arc => decide ((t.1, t.2.1) = p)) h)
    have hw := B.w t (List.mem_of_find?_eq_some h)
    rw [q] at hw
    show V.int (t.2.2 : Int) = _
    rw [hw]
theorem Book.mem {n : Nat} {rs ps : List Arc} (B : Book n rs ps) (t : Arc) : t ∈ ps.filter (fun t => decide (0 < t.2.2)) ↔ t ∈ sumA n rs := by
  rw [List.mem_filter, mem_sumA, decide_eq_true_eq]
  constructor
  · rintro ⟨h1, h2⟩
    obtain ⟨h3, h4⟩ := B.lt t h1
    exact ⟨h3, h4, B.w t h1, h2⟩
  · rintro ⟨h1, h2, h3, h4⟩
    refine ⟨?_, h4⟩
    have hne : ∃ r ∈ rs, endsA r = (t.1, t.2.1) := Decidable.byContradiction fun c => by
      have := wOf_none (ts := rs) (p := (t.1, t.2.1)) fun r hr e => c ⟨r, hr, e⟩
      omega
    obtain ⟨r, hr, e⟩ := hne
    obtain ⟨u, hu, q⟩ := List.mem_map.mp (B.all r hr)
    have e2 : (u.1, u.2.1) = (t.1, t.2.1) := q.trans e
    have wu := B.w u hu
    rw [e2, ← h3] at wu
    injection e2 with q1 q2
    rw [← (Prod.ext q1 (Prod.ext q2 wu) : u = t)]
    exact hu
theorem Book.nodup {n : Nat} {rs ps : List Arc} (B : Book n rs ps) : (ps.filter fun t => decide (0 < t.2.2)).Nodup := by
  have h : ps.Nodup := by
    have := B.nd
    unfold List.Nodup at this ⊢
    rw [List.pairwise_map] at this
    exact this.imp fun {a b} h e => h (by rw [e])
  exact h.filter _
theorem Book.len {n : Nat} {rs ps : List Arc} (B : Book n rs ps) : ps.length ≤ n * n := by
  have h : (ps.map fun t => (t.1, t.2.1)).Nodup := B.nd
  have sub : ∀ p ∈ ps.map (fun t => (t.1, t.2.1)), p ∈ pairsN n := fun p hp => by
    obtain ⟨t, ht, rfl⟩ := List.mem_map.mp hp
    exact mem_pairsN.mpr (B.lt t ht)
  have l1 : (ps.map fun t => (t.1, t.2.1)).length ≤ (pairsN n).length := nodup_lenG h sub
  rw [List.length_map] at l1
  have l2 : (pairsN n).length ≤ n * n := by
    unfold pairsN
    rw [List.length_flatMap]
    have : ∀ l : List Nat, (l.map fun a => (((List.range n).filter fun b => decide (a < b)).map fun b => (a, b)).length).sum ≤ l.length * n := fun l => by
      induction l with
      | nil => simp
      | cons a l ih =>
        rw [List.map_cons, List.sum_cons, List.length_cons, Nat.succ_mul]
        have : (((List.range n).filter fun b => decide (a < b)).map fun b => (a, b)).length ≤ n := by
          rw [List.length_map]
          exact Nat.le_trans (List.length_filter_le _ _) (by rw [List.length_range]; exact Nat.le_refl _)
        omega
    have := this (List.range n)
    rw [List.length_range] at this
    exact this
  omega
end TW
set_option Elab.async false
set_option linter.all false
set_option maxRecDepth 100000
set_option maxHeartbeats 1000000
namespace TW
open PySem PySem.Spec PyProof.Rows L2
section
variable {P : Program} {w : World} {K : PySem.W.Frag} {mg : Str → Option Value} {base : Heap} {C N : Addr}
def spIsPlace : Sp := fun vs H Q _ => ∃ (i l : Int), vs = [.int i, .int l] ∧ Q (.bl (decide (0 ≤ i) && decide (i < l))) H
def spToldTie : Sp := fun vs H Q _ => ∃ (v : V) (n : Nat) (t : Arc), vs = [v, .int n] ∧ At H v (arcD t) ∧ arcOk n t ∧ Q (.bl true) H
def spEnds : Sp := fun vs H Q _ => ∃ (a b : Nat), vs = [.int a, .int b] ∧ ∀ t, H t = none → Q (.ref t) (upd H t (.tup [.int (min a b : Nat), .int (max a b : Nat)]))
/-! _joined_ties -/
abbrev NJT : List Str := ["ties", "weights", "place", "other_place", "weight", "ends", "low", "high"]
def spJoined : Sp := fun vs H Q _ => ∃ (G : Hp) (l : List (Addr × HO)) (a : Addr) (xs : List V) (n : Nat) (ts : List Arc), vs = [.ref a] ∧ Has G H l ∧ Stays G l a (.lst xs) ∧ Ats G xs (ts.map arcD) ∧ (∀ t ∈ ts, arcOk n t) ∧ ts.length ≤ 1000 ∧ n ≤ 100 ∧
  ∀ (G' H' : Hp) (u : Addr) (ys : List V), Ex G G' → Has G' H' ((u, .tup ys) :: l) → Ats G' ys ((sumA n ts).map arcD) → Q (.ref u) H'
end
end TW
set_option Elab.async false
set_option linter.all false
set_option maxRecDepth 100000
set_option maxHeartbeats 1000000
namespace TW
open PySem PySem.Spec PyProof.Rows L2
/-! webs -/
theorem wt_ne : ¬ (("_ties" : Str) = "_places") := by decide +kernel
def wf (n : Nat) (l : Addr) : List (Str × V) := putF "_ties" (.ref l) (putF "_places" (.int n) [])
theorem wf_places (n : Nat) (l : Addr) : (wf n l).lookup ("_places" : Str) = some (.int n) := by
  unfold wf
  rw [lookup_putF, if_neg (fun h => wt_ne h.symm), lookup_putF, if_pos rfl]
theorem wf_ties (n : Nat) (l : Addr) : (wf n l).lookup ("_ties" : Str) = some (.ref l) := by
  unfold wf
  rw [lookup_putF, if_pos rfl]
def WebAt (C : Addr) (H : Hp) (a : Addr) (n : Nat) (ts : List Arc) : Prop := ∃ dx l xs, H a = some (.ins C dx (wf n l)) ∧ H l = some (.tup xs) ∧ Ats H xs (ts.map arcD)
theorem WebAt.ex {C : Addr} {H H' : Hp} {a : Addr} {n : Nat} {ts : List Arc} (e : Ex H H') (h : WebAt C H a n ts) : WebAt C H' a n ts := by
  obtain ⟨dx, l, xs, h1, h2, h3⟩ := h
  exact ⟨dx, l, xs, e _ _ h1, e _ _ h2, h3.ex e⟩
/-- a web of n places with these sums -/
structure Net (n : Nat) (ts : List Arc) : Prop where
  pos : 0 < n
  few : n ≤ 100
  sum : sumA n ts = ts
theorem Net.ok {n : Nat} {ts : List Arc} (h : Net n ts) : ∀ t ∈ ts, t.1 < t.2.1 ∧ t.2.1 < n ∧ 0 < t.2.2 := fun t ht => by
  rw [← h.sum] at ht
  obtain ⟨h1, h2, _, h4⟩ := mem_sumA.mp ht
  exact ⟨h1, h2, h4⟩
theorem sumA_len (n : Nat) (ts : List Arc) : (sumA n ts).length ≤ n * n := by
  have B : Book n (sumA n ts) (sumA n ts) := ⟨by
    unfold List.Nodup
    rw [List.pairwise_map]
    exact (sumA_pw n ts).imp fun {a b} h e => by
      injection e with e1 e2
      omega, fun t ht => ⟨(mem_sumA.mp ht).1, (mem_sumA.mp ht).2.1⟩, fun t ht => by
      obtain ⟨h1, h2, h3, _⟩ := mem_sumA.mp ht
      rw [wOf_sumA h1 h2]
      exact h3, fun t ht => by
      obtain ⟨h1, _⟩ := mem_sumA.mp ht
      refine List.mem_map.mpr ⟨t, ht, ?_⟩
      unfold endsA
      rw [Nat.min_eq_left (by omega), Nat.max_eq_right (by omega)]⟩
  exact B.len
theorem Net.len {n : Nat} {ts : List Arc} (h : Net n ts) : ts.length ≤ 10000 := by
  have h1 := sumA_len n ts
  rw [h.sum] at h1
  have h2 : n * n ≤ 100 * 100 := Nat.mul_le_mul h.few h.few
  omega
theorem net_sum {n : Nat} (ts : List Arc) (h : 0 < n) (h' : n ≤ 100) : Net n (sumA n ts) := ⟨h, h', sumA_idem ts⟩
structure WC (K : PySem.W.Frag) (mg : Str → Option Value) (C : Addr) : Prop where
  cl : Cls K C
  ins : C8.InsC K C
  nP : NoAttr K C "_places"
  nT : NoAttr K C "_ties"
  mg : mg "Web" = some (.ref C)
def cutA (ts : List Arc) (f : Nat → Bool) : Nat := ((ts.filter fun t => f t.1 != f t.2.1).map fun t => t.2.2).sum
theorem eqvW_ints : ∀ xs ys : List Int, PyData.eqvAll (xs.map .int) (ys.map .int) = decide (xs = ys)
  | [], [] => rfl
  | [], _ :: _ => rfl
  | _ :: _, [] => rfl
  | x :: xs, y :: ys => by
    have e : PyData.eqvAll ((x :: xs).map .int) ((y :: ys).map .int) = (x == y && PyData.eqvAll (xs.map .int) (ys.map .int)) := rfl
    rw [e, eqvW_ints xs ys, Bool.eq_iff_iff, Bool.and_eq_true, beq_iff_eq, decide_eq_true_eq, decide_eq_true_eq, List.cons.injEq]
theorem eqvW_tupD (xs ys : List Int) : PyData.eqv (tupD xs) (tupD ys) = decide (xs = ys) := eqvW_ints xs ys
theorem layW_lots : ∀ {ds : List PyData}, (∀ d ∈ ds, ∃ l, d = tupD l) → PyData.canLayAll0 ds = true
  | [], _ => rfl
  | d :: ds, h => by
    obtain ⟨l, rfl⟩ := h d List.mem_cons_self
    show (PyData.canLay0 (tupD l) && PyData.canLayAll0 ds) = true
    rw [layW_lots fun e he => h e (List.mem_cons_of_mem _ he), Bool.and_true]
    exact lay_ints l
theorem decI (a b : Nat) : decide (V.int (a : Int) = V.int (b : Int)) = decide (a = b) := by
  rw [Bool.eq_iff_iff, decide_eq_true_eq, decide_eq_true_eq]
  constructor
  · intro h
    have := V.int.inj h
    omega
  · rintro rfl
    rfl
theorem sum_cast : ∀ l : List Nat, ((l.map fun k : Nat => (k : Int)).sum) = ((l.sum : Nat) : Int)
  | [] => rfl
  | x :: l => by
    rw [List.map_cons, List.sum_cons, List.sum_cons, sum_cast l]
    push_cast
    rfl
section
variable {P : Program} {w : World} {K : PySem.W.Frag} {mg : Str → Option Value} {base : Heap} {C N : Addr}
/-! Web.__init__ -/
abbrev NWI : List Str := ["self", "places", "ties", "tie"]
def spWInit (C : Addr) : Sp := fun vs H Q _ => ∃ (G : Hp) (l : List (Addr × HO)) (a dx ll : Addr) (n : Nat) (xs : List V) (ts : List Arc), vs = [.ref a, .int n, .ref ll] ∧ Has G H ((a, .ins C dx []) :: l) ∧ Stays G l ll (.lst xs) ∧ Ats G xs (ts.map arcD) ∧ (∀ t ∈ ts, arcOk n t) ∧ ts.length ≤ 1000 ∧ 0 < n ∧ n ≤ 100 ∧
  ∀ (G' H' : Hp) (dl : Addr) (ys : List V), Ex G G' → Has G' H' ((a, .ins C dx (wf n dl)) :: l) → G' dl = some (.tup ys) → Ats G' ys ((sumA n ts).map arcD) → Q .non H'
def spWPlaces (C : Addr) : Sp := fun vs H Q _ => ∃ (a : Addr) (n : Nat) (ts : List Arc), vs = [.ref a] ∧ WebAt C H a n ts ∧ Q (.int n) H
def spWTies (C : Addr) : Sp := fun vs H Q _ => ∃ (a : Addr) (n : Nat) (ts : List Arc), vs = [.ref a] ∧ WebAt C H a n ts ∧ ∀ (t : Addr) (H' : Hp) (xs : List V), H t = none → Ex H H' → H' t = some (.lst xs) → Ats H' xs (ts.map arcD) → Q (.ref t) H'
def spWLen (C : Addr) : Sp := fun vs H Q _ => ∃ (a : Addr) (n : Nat) (ts : List Arc), vs = [.ref a] ∧ WebAt C H a n ts ∧ Q (.int ts.length) H
structure WI (P : Program) (w : World) (K : PySem.W.Frag) (mg : Str → Option Value) (base : Heap) (C f : Addr) (fd : FuncData) : Prop where
  at_ : PySem.W.findIn K (.ref C) "__iter__" = some (some (.ref f))
  fn : PySem.W.isFn K (.ref f) = true
  ok : FnY P w K mg base 1 f fd ["self"] (spIt K C "_ties")
  b : Binds K fd ["self"] []
structure WLn (P : Program) (w : World) (K : PySem.W.Frag) (mg : Str → Option Value) (base : Heap) (C f : Addr) (fd : FuncData) : Prop where
  at_ : PySem.W.findIn K (.ref C) "__len__" = some (some (.ref f))
  fn : PySem.W.isFn K (.ref f) = true
  ok : FnOk P w K mg base CX0 1 f fd ["self"] (spWLen C)
  b : Binds K fd ["self"] []
structure WM (P : Program) (w : World) (K : PySem.W.Frag) (mg : Str → Option Value) (base : Heap) (C f : Addr) (fd : FuncData) : Prop where
  make : Mk K C f
  ok : FnOk P w K mg base CX0 4 f fd ["self", "places", "ties"] (spWInit C)
  b : Binds K fd ["self", "places", "ties"] []
def spWEq (C : Addr) : Sp := fun vs H Q _ => ∃ (a b : Addr) (n m : Nat) (ts us : List Arc), vs = [.ref a, .ref b] ∧ WebAt C H a n ts ∧ WebAt C H b m us ∧ Q (.bl (decide (n = m) && decide (ts = us))) H
theorem eqvAll_arcs : ∀ ts us : List Arc, PyData.eqvAll (ts.map arcD) (us.map arcD) = decide (ts = us)
  | [], [] => rfl
  | [], _ :: _ => rfl
  | _ :: _, [] => rfl
  | t :: ts, u :: us => by
    have e : PyData.eqvAll ((t :: ts).map arcD) ((u :: us).map arcD) = (PyData.eqv (arcD t) (arcD u) && PyData.eqvAll (ts.map arcD) (us.map arcD)) := rfl
    have e2 : PyData.eqv (arcD t) (arcD u) = decide (t = u) := by
      unfold arcD
      rw [eqvW_tupD, Bool.eq_iff_iff, decide_eq_true_eq, decide_eq_true_eq]
      exact ⟨arcL_inj, fun h => by rw [h]⟩
    rw [e, eqvAll_arcs ts us, e2, Bool.eq_iff_iff, Bool.and_eq_true, decide_eq_true_eq, decide_eq_true_eq, decide_eq_true_eq, List.cons.injEq]
theorem shaped_arcs (ts : List Arc) : SeqAt.shaped (.tuple (ts.map arcD)) = true := by
  unfold SeqAt.shaped
  rw [Bool.and_eq_true, decide_eq_true_eq]
  refine ⟨layW_lots fun d hd => ?_, ?_⟩
  · obtain ⟨m, _, rfl⟩ := List.mem_map.mp hd
    exact ⟨_, rfl⟩
  · have := depth_all (n := 1) (ds := ts.map arcD) fun d hd => by
      obtain ⟨m, _, rfl⟩ := List.mem_map.mp hd
      exact depth_tupD _
    simp only [PyData.depth]
    omega
structure WEq (P : Program) (w : World) (K : PySem.W.Frag) (mg : Str → Option Value) (base : Heap) (C f : Addr) (fd : FuncData) : Prop where
  at_ : PySem.W.findIn K (.ref C) "__eq__" = some (some (.ref f))
  fn : PySem.W.isFn K (.ref f) = true
  ok : FnOk P w K mg base CX0 1 f fd ["self", "other"] (spWEq C)
  b : Binds K fd ["self", "other"] []
end
end TW
set_option Elab.async false
set_option linter.all false
set_option maxRecDepth 100000
set_option maxHeartbeats 1000000
namespace TW
open PySem PySem.Spec PyProof.Rows L2
theorem ats_permW {α : Type} {f : α → PyData} {H : Hp} {xs ys : List V} {l : List α} (p : ys.Perm xs) (h : Ats H xs (l.map f)) : ∃ l' : List α, l'.Perm l ∧ Ats H ys (l'.map f) := by
  have hl : xs.length = l.length := by rw [h.1, List.length_map]
  have e1 : (xs.zip l).map (·.1) = xs := List.map_fst_zip (by omega)
  have e2 : (xs.zip l).map (·.2) = l := List.map_snd_zip (by omega)
  rw [← e1] at p
  obtain ⟨m, pm, rfl⟩ := perm_back (f := fun q : V × α => q.1) p
  refine ⟨m.map (·.2), by have := pm.map (·.2); rw [e2] at this; exact this, ?_⟩
  rw [List.map_map]
  refine Ats.map_ fun q hq => ?_
  obtain ⟨i, hi⟩ := List.mem_iff_getElem?.mp (pm.mem_iff.mp hq)
  rw [List.getElem?_zip_eq_some] at hi
  obtain ⟨y, hy, ay⟩ := ats_get h hi.1
  rw [hi.2] at hy
  cases hy
  exact ay
theorem bl_ne (a b : Bool) : (!decide (V.bl a = V.bl b)) = (a != b) := by
  cases a <;> cases b <;> decide
theorem cutA_take (ts : List Arc) (f : Nat → Bool) (i : Nat) : (((ts.take i).filter fun t => f t.1 != f t.2.1)).length ≤ ts.length := Nat.le_trans (List.length_filter_le _ _) (List.length_take_le' _ _)
theorem intW (l : List Arc) : (l.map fun t => V.int (t.2.2 : Int)) = ((l.map fun t => t.2.2).map fun k : Nat => (k : Int)).map V.int := by
  rw [List.map_map, List.map_map]
  rfl
section
variable {P : Program} {w : World} {K : PySem.W.Frag} {mg : Str → Option Value} {base : Heap} {C N : Addr}
def spCheckWeb (C : Addr) : Sp := fun vs H Q _ => ∃ (a : Addr) (n : Nat) (ts : List Arc), vs = [.ref a] ∧ WebAt C H a n ts ∧ Q .non H
/-! _cut, cut_of -/
abbrev NCU : List Str := ["web", "places", "low", "high", "weight"]
def spCut (K : PySem.W.Frag) (C : Addr) : Sp := fun vs H Q _ => ∃ (a pa : Addr) (n : Nat) (ts : List Arc) (ns : List Int), vs = [.ref a, .ref pa] ∧ WebAt C H a n ts ∧ (SqL K H pa (ns.map V.int) ∨ SqT K H pa (ns.map V.int)) ∧ ts.length ≤ 10000 ∧ ∀ H', Ex H H' → Q (.int (cutA ts fun k => decide ((k : Int) ∈ ns))) H'
def spCutOf (K : PySem.W.Frag) (C : Addr) : Sp := fun vs H Q _ => ∃ (a pa : Addr) (n : Nat) (ts : List Arc) (ns : List Int), vs = [.ref a, .ref pa] ∧ WebAt C H a n ts ∧ SqT K H pa (ns.map V.int) ∧ ns.length ≤ 1000 ∧ isLot ns (some (n : Int)) = true ∧ ts.length ≤ 10000 ∧ ∀ H', Ex H H' → Q (.int (cutA ts fun k => decide ((k : Int) ∈ ns))) H'
def spPlacesDrawn : Sp := fun vs H Q _ => ∃ (G : Hp) (l : List (Addr × HO)) (p : Addr) (o : HO) (k : Nat), vs = [.ref p] ∧ Has G H ((p, o) :: l) ∧ WellO k o ∧ k < 10 ^ 8 ∧
  ∀ (H' : Hp) (o' : HO) (n : Nat), Has G H' ((p, o') :: l) → WellO (k + 1) o' → 0 < n → n ≤ 7 → Q (.int n) H'
def spCutDue (K : PySem.W.Frag) : Sp := fun vs H Q _ => ∃ (a : Addr) (m : Int) (xs : List V) (ts : List Arc), vs = [.ref a, .int m] ∧ SqL K H a xs ∧ Ats H xs (ts.map arcD) ∧ ts.length ≤ 10000 ∧ ∀ H', Ex H H' → Q (.int (cutA ts (bitB m))) H'
theorem bit_ne (m : Int) (a b : Nat) : (!decide (V.int (m / 2 ^ a % 2 ^ 1) = V.int (m / 2 ^ b % 2 ^ 1))) = (bitB m a != bitB m b) := by
  rw [Int.pow_one]
  unfold bitB
  have h1 := Int.emod_two_eq (m / 2 ^ a)
  have h2 := Int.emod_two_eq (m / 2 ^ b)
  rcases h1 with h1 | h1 <;> rcases h2 with h2 | h2 <;> rw [h1, h2] <;> decide
/-! _law_net_is -/
theorem rep_arcs {H : Hp} {x y : V} {ts : List Arc} (hl : ts.length ≤ 10000) (hx : At H x (.list (ts.map arcD))) (hy : At H y (.list (ts.map arcD))) : Rep 2 H x y := by
  refine rep_list hx hy (by rw [List.length_map]; omega) fun d hd u v hu hv => ?_
  obtain ⟨t, _, rfl⟩ := List.mem_map.mp hd
  refine rep_tuple hu hv (by show 3 ≤ 10000; decide) fun d hd u v hu hv => ?_
  obtain ⟨i, _, rfl⟩ := List.mem_map.mp hd
  rw [hu.isI, hv.isI]
  exact Rep.flat rfl
def spNetIs (K : PySem.W.Frag) (C : Addr) : Sp := fun vs H Q _ => ∃ (a t : Addr) (n : Nat) (ts : List Arc) (xs : List V), vs = [.ref a, .int n, .ref t] ∧ WebAt C H a n ts ∧ H t = some (.lst xs) ∧ Ats H xs (ts.map arcD) ∧ ts.length ≤ 10000 ∧ ∀ H', Ex H H' → Q (.bl true) H'
end
end TW
set_option Elab.async false
set_option linter.all false
set_option maxRecDepth 100000
set_option maxHeartbeats 1000000
namespace TW
open PySem PySem.Spec PyProof.Rows L2
def tri : Nat → Nat
  | 0 => 0
  | i + 1 => tri i + i
theorem tri9 : ∀ {n : Nat}, n ≤ 9 → tri n ≤ 36
  | 0, _ => by decide
  | 1, _ => by decide
  | 2, _ => by decide
  | 3, _ => by decide
  | 4, _ => by decide
  | 5, _ => by decide
  | 6, _ => by decide
  | 7, _ => by decide
  | 8, _ => by decide
  | 9, _ => by decide
  | n + 10, h => absurd h (by omega)
def prL (p : Nat × Nat) : List Int := [(p.1 : Int), (p.2 : Int)]
def prD (p : Nat × Nat) : PyData := tupD (prL p)
theorem at_pr {H : Hp} {a : Addr} {p : Nat × Nat} (h : H a = some (.tup [.int p.1, .int p.2])) : At H (.ref a) (prD p) := At.mkT h (.cons (.int _) (.cons (.int _) .nil))
theorem At.pr {H : Hp} {v : V} {p : Nat × Nat} (h : At H v (prD p)) : ∃ a, v = .ref a ∧ H a = some (.tup [.int p.1, .int p.2]) := by
  obtain ⟨a, xs, rfl, h1, h2⟩ := At.isT h
  refine ⟨a, rfl, ?_⟩
  have e : xs = [.int p.1, .int p.2] := by
    match xs, h2 with
    | [x, y], h2 =>
      have e1 := h2.head.isI
      have e2 := h2.rest.head.isI
      rw [e1, e2]
    | [], h2 => exact absurd h2.1 (by simp [prL])
    | [_], h2 => exact absurd h2.1 (by simp [prL])
    | _ :: _ :: _ :: _, h2 => exact absurd h2.1 (by simp [prL])
  rw [h1, e]
theorem ats_ins {H : Hp} {xs : List V} {ts : List Arc} {y : V} {t : Arc} (h : Ats H xs (ts.map arcD)) (a : At H y (arcD t)) (i : Nat) : Ats H (xs.take i ++ [y] ++ xs.drop i) ((ts.take i ++ [t] ++ ts.drop i).map arcD) := by
  rw [List.map_append, List.map_append, List.map_take, List.map_drop]
  have tk : ∀ {xs : List V} {ds : List PyData}, Ats H xs ds → Ats H (xs.take i) (ds.take i) := fun {xs ds} h => ⟨by rw [List.length_take, List.length_take, h.1], fun j x d h1 h2 => by
    rw [List.getElem?_take] at h1 h2
    split at h1
    · rename_i c
      rw [if_pos c] at h2
      exact h.2 j x d h1 h2
    · cases h1⟩
  have dp : ∀ {xs : List V} {ds : List PyData}, Ats H xs ds → Ats H (xs.drop i) (ds.drop i) := fun {xs ds} h => ⟨by rw [List.length_drop, List.length_drop, h.1], fun j x d h1 h2 => by
    rw [List.getElem?_drop] at h1 h2
    exact h.2 _ x d h1 h2⟩
  exact ((tk h).append (.cons a .nil)).append (dp h)
theorem nuMin2_int (a b : Int) : nuMin2 (.int a) (.int b) = some (.int (if b < a then b else a)) := by
  show (some (decide (b < a))).map _ = _
  by_cases h : b < a
  · rw [decide_eq_true h, if_pos h]
    rfl
  · rw [decide_eq_false h, if_neg h]
    rfl
theorem nuMin3_int (a b c : Int) : ∃ m : Int, nuMin3 (.int a) (.int b) (.int c) = some (.int m) ∧ m ≤ a ∧ m ≤ b ∧ m ≤ c ∧ (m = a ∨ m = b ∨ m = c) := by
  unfold nuMin3
  rw [nuMin2_int]
  refine ⟨_, nuMin2_int _ _, ?_⟩
  split <;> split <;> omega
/-- (low, high, heavy) or (high, low, heavy), as the well says -/
def tArcE : TE := fun σ H Q => ∃ (G : Hp) (l : List (Addr × HO)) (p : Addr) (o : HO) (k lo hi w : Nat), σ[0]? = some (some (.ref p)) ∧ σ[5]? = some (some (.int lo)) ∧ σ[4]? = some (some (.int hi)) ∧ σ[8]? = some (some (.int w)) ∧ Has G H ((p, o) :: l) ∧ WellO k o ∧ k < 10 ^ 8 ∧
  ∀ (H' : Hp) (o' : HO) (u : Addr) (t : Arc), Has G H' ((u, .tup [.int t.1, .int t.2.1, .int t.2.2]) :: (p, o') :: l) → WellO (k + 1) o' → (t = (lo, hi, w) ∨ t = (hi, lo, w)) → Q (.ref u) H'
section
variable {P : Program} {w : World} {K : PySem.W.Frag} {mg : Str → Option Value} {base : Heap} {C N : Addr}
/-! _law_some_ties -/
abbrev NST2 : List Str := ["well", "many", "pairs", "share", "high", "low", "out", "scale", "heavy", "k", "twin"]
def spSomeTies : Sp := fun vs H Q _ => ∃ (G : Hp) (l : List (Addr × HO)) (p : Addr) (o : HO) (k n : Nat), vs = [.ref p, .int n] ∧ Has G H ((p, o) :: l) ∧ WellO k o ∧ k < 10 ^ 6 ∧ n ≤ 9 ∧
  ∀ (G' H' : Hp) (o' : HO) (t : Addr) (xs : List V) (ts : List Arc), Ex G G' → Has G' H' ((t, .lst xs) :: (p, o') :: l) → WellO (k + 3000) o' → Ats G' xs (ts.map arcD) → (∀ t ∈ ts, arcOk n t) → ts.length ≤ 40 → (∀ t ∈ ts, t.2.2 ≤ 10 ^ 11) → Q (.ref t) H'
end
end TW
set_option Elab.async false
set_option linter.all false
set_option maxRecDepth 100000
set_option maxHeartbeats 1000000
namespace TW
open PySem PySem.Spec PyProof.Rows L2
theorem prL_inj {p q : Nat × Nat} (h : prL p = prL q) : p = q := by
  unfold prL at h
  simp only [List.cons.injEq, Int.natCast_inj, and_true] at h
  exact Prod.ext h.1 h.2
theorem lexLt_pr {p q : Nat × Nat} (h : HT.lexLt (prL p) (prL q) = true) : p.1 < q.1 ∨ (p.1 = q.1 ∧ p.2 < q.2) := by
  rw [lex_list, decide_eq_true_eq] at h
  unfold prL at h
  rw [List.cons_lt_cons_iff] at h
  rcases h with h | ⟨h1, h2⟩
  · exact .inl (by omega)
  · rw [List.cons_lt_cons_iff] at h2
    rcases h2 with h2 | ⟨_, h2⟩
    · exact .inr ⟨by omega, by omega⟩
    · exact absurd h2 (by simp)
/-- both places, as the law looks for them -/
theorem both_ends {a b lo hi : Nat} (hlt : lo < hi) (hab : a ≠ b) : ((lo = a ∨ lo = b) ∧ (hi = a ∨ hi = b)) ↔ (min a b, max a b) = (lo, hi) := by
  rw [Prod.mk.injEq]
  omega
theorem cut2 (x y z : V) : cutV [x, y, z] none (some 2) = [x, y] := by
  show cutV [x, y, z] none (some ((2 : Nat) : Int)) = _
  unfold cutV
  rw [HT.sIx_nat, HT.sIx_none]
  rfl
theorem cut2w (x y z : V) : ¬ (HT.sIx [x, y, z].length 0 none = 0 ∧ HT.sIx [x, y, z].length [x, y, z].length (some 2) = [x, y, z].length) := fun h => by
  have h2 := h.2
  rw [show (some 2 : Option Int) = some ((2 : Nat) : Int) from rfl, HT.sIx_nat] at h2
  have h3 : min 2 3 = 3 := h2
  exact absurd h3 (by decide)
/-- low in arc[:2] and high in arc[:2] -/
def tEnds : TT := fun σ H Q => ∃ (b : Addr) (t : Arc) (lo hi : Nat), σ[6]? = some (some (.ref b)) ∧ σ[3]? = some (some (.int lo)) ∧ σ[4]? = some (some (.int hi)) ∧ H b = some (.tup [.int t.1, .int t.2.1, .int t.2.2]) ∧ t.1 ≠ t.2.1 ∧ lo < hi ∧ ∀ H', Ex H H' → Q (decide (endsA t = (lo, hi))) H'
section
variable {P : Program} {w : World} {K : PySem.W.Frag} {mg : Str → Option Value} {base : Heap} {C N : Addr}
/-! _law_summed -/
abbrev NSU : List Str := ["given", "ends", "out", "low", "high", "heavy", "arc"]
def spSummed : Sp := fun vs H Q _ => ∃ (G : Hp) (l : List (Addr × HO)) (a : Addr) (xs : List V) (n : Nat) (ts : List Arc), vs = [.ref a] ∧ Has G H l ∧ Stays G l a (.lst xs) ∧ Ats G xs (ts.map arcD) ∧ (∀ t ∈ ts, arcOk n t) ∧ ts.length ≤ 64 ∧ n ≤ 100 ∧
  ∀ (G' H' : Hp) (u : Addr) (ys : List V), Ex G G' → Has G' H' ((u, .lst ys) :: l) → Ats G' ys ((sumA n ts).map arcD) → Q (.ref u) H'
end
end TW
set_option Elab.async false
set_option linter.all false
set_option maxRecDepth 100000
set_option maxHeartbeats 4000000
namespace TW
open PySem PySem.Spec PyProof.Rows L2
/-! one turn of the law's loop over the pool -/
def nsT (dr : Nat) (x : Nat) (ns : List Int) : List Int := if dr % 2 = 0 then ns ++ [(x : Int)] else ns
def b1T (dr : Nat) (x : Nat) (b : Bar) : Bar := if dr < 2 then b ++ [(x, decide (dr = 0))] else b
def c3T (dr man : Nat) : Bool := decide ((dr : Int) = 5 - (man : Int)) && decide (0 < man)
def b2T (dr man : Nat) (x : Nat) (b : Bar) : Bar := if c3T dr man = true then b ++ [(x, decide (man = 2))] else b
theorem mt_other {x : Nat} {ns : List Int} {dr : Nat} {s : Sgn} (h : s.1 ≠ x) : mt (nsT dr x ns) s = mt ns s := by
  unfold mt nsT
  split
  · have : decide ((s.1 : Int) ∈ ns ++ [(x : Int)]) = decide ((s.1 : Int) ∈ ns) := by
      rw [Bool.eq_iff_iff, decide_eq_true_eq, decide_eq_true_eq, List.mem_append, List.mem_singleton]
      constructor
      · rintro (q | q)
        · exact q
        · omega
      · exact .inl
    rw [this]
  · rfl
theorem mt_this {x : Nat} {ns : List Int} {dr : Nat} {c : Bool} (h : (x : Int) ∉ ns) : mt (nsT dr x ns) (x, c) = (decide (dr % 2 = 0) == c) := by
  unfold mt nsT
  by_cases e : dr % 2 = 0
  · rw [if_pos e, decide_eq_true e, decide_eq_true (List.mem_append.mpr (.inr (List.mem_singleton.mpr rfl)))]
  · rw [if_neg e, decide_eq_false e, decide_eq_false h]
theorem all_mt_other {x : Nat} {ns : List Int} {dr : Nat} {b : Bar} (h : ∀ s ∈ b, s.1 < x) : b.all (mt (nsT dr x ns)) = b.all (mt ns) := by
  induction b with
  | nil => rfl
  | cons s b ih => rw [List.all_cons, List.all_cons, mt_other (by have := h s List.mem_cons_self; omega), ih fun t ht => h t (List.mem_cons_of_mem _ ht)]
theorem turn_fine {x : Nat} {ns : List Int} {b : Bar} {dr man : Nat} {fine : Bool} (hdr : dr < 6) (hman : man < 3) (hb : ∀ s ∈ b, s.1 < x) (hx : (x : Int) ∉ ns) (hf : b.all (mt ns) = fine) (ub : UpB b) :
    (b2T dr man x (b1T dr x b)).all (mt (nsT dr x ns)) = (if c3T dr man = true then false else fine) ∧ UpB (b2T dr man x (b1T dr x b)) ∧ (∀ s ∈ b2T dr man x (b1T dr x b), s.1 < x + 1) ∧ (b2T dr man x (b1T dr x b)).length ≤ b.length + 1 := by
  have h0 := all_mt_other (dr := dr) (ns := ns) hb
  have one : ∀ c, (b ++ [((x, c) : Sgn)]).all (mt (nsT dr x ns)) = (fine && (decide (dr % 2 = 0) == c)) := fun c => by
    rw [List.all_append, h0, hf]
    show (fine && (mt (nsT dr x ns) (x, c) && true)) = _
    rw [mt_this hx, Bool.and_true]
  have up1 : ∀ c, UpB (b ++ [((x, c) : Sgn)]) := fun c => upB_snoc ub fun t ht => hb t ht
  have lt1 : ∀ c, ∀ s ∈ b ++ [((x, c) : Sgn)], s.1 < x + 1 := fun c s hs => by
    rcases List.mem_append.mp hs with h | h
    · have := hb s h
      omega
    · rw [List.mem_singleton.mp h]
      show x < x + 1
      omega
  have ln1 : ∀ c, (b ++ [((x, c) : Sgn)]).length ≤ b.length + 1 := fun c => by rw [List.length_append]; exact Nat.le_refl _
  cases hc : c3T dr man with
  | true =>
    unfold c3T at hc
    rw [Bool.and_eq_true, decide_eq_true_eq, decide_eq_true_eq] at hc
    have e1 : b1T dr x b = b := if_neg (by omega)
    have e2 : b2T dr man x (b1T dr x b) = b ++ [(x, decide (man = 2))] := by
      unfold b2T c3T
      rw [e1, decide_eq_true hc.1, decide_eq_true hc.2]
      rfl
    rw [e2, one]
    refine ⟨?_, up1 _, lt1 _, ln1 _⟩
    have : (decide (dr % 2 = 0) == decide (man = 2)) = false := by
      have : man = 1 ∨ man = 2 := by omega
      rcases this with rfl | rfl
      · rw [decide_eq_true (show dr % 2 = 0 by omega)]
        rfl
      · rw [decide_eq_false (show ¬ dr % 2 = 0 by omega)]
        rfl
    rw [this, Bool.and_false, if_pos rfl]
  | false =>
    have e2 : b2T dr man x (b1T dr x b) = b1T dr x b := by
      unfold b2T
      rw [hc]
      rfl
    rw [e2, if_neg (by decide)]
    unfold b1T
    split
    · rename_i h2
      rw [one]
      refine ⟨?_, up1 _, lt1 _, ln1 _⟩
      have : dr = 0 ∨ dr = 1 := by omega
      rcases this with rfl | rfl
      · exact Bool.and_true _
      · exact Bool.and_true _
    · exact ⟨h0.trans hf, ub, fun s hs => by have := hb s hs; omega, by omega⟩
/-! its three ifs -/
def tI1 : TS := fun D σ H => ∃ (pk : Addr) (ns : List Int) (x dr : Nat) (G : Hp) (l : List (Addr × HO)), σ[10]? = some (some (.ref pk)) ∧ σ[14]? = some (some (.int x)) ∧ σ[15]? = some (some (.int dr)) ∧ Has G H ((pk, .lst (ns.map V.int)) :: l) ∧ ns.length ≤ 1000 ∧
  ∀ H', Has G H' ((pk, .lst ((nsT dr x ns).map V.int)) :: l) → D.nx σ H'
def tI2 : TS := fun D σ H => ∃ (td : Addr) (ys : List V) (b : Bar) (x dr : Nat) (G : Hp) (l : List (Addr × HO)), σ[11]? = some (some (.ref td)) ∧ σ[14]? = some (some (.int x)) ∧ σ[15]? = some (some (.int dr)) ∧ Has G H ((td, .lst ys) :: l) ∧ Ats G ys (b.map dSgn) ∧ b.length ≤ 1000 ∧
  ∀ G' H' ys', Ex G G' → Has G' H' ((td, .lst ys') :: l) → Ats G' ys' ((b1T dr x b).map dSgn) → D.nx σ H'
def tI3 : TS := fun D σ H => ∃ (td : Addr) (ys : List V) (b : Bar) (x dr man : Nat) (fine : Bool) (G : Hp) (l : List (Addr × HO)), σ[11]? = some (some (.ref td)) ∧ σ[12]? = some (some (.int man)) ∧ σ[13]? = some (some (.bl fine)) ∧ σ[14]? = some (some (.int x)) ∧ σ[15]? = some (some (.int dr)) ∧ man < 3 ∧
  Has G H ((td, .lst ys) :: l) ∧ Ats G ys (b.map dSgn) ∧ b.length ≤ 1000 ∧
  ∀ G' H' ys', Ex G G' → Has G' H' ((td, .lst ys') :: l) → Ats G' ys' ((b2T dr man x b).map dSgn) → D.nx (if c3T dr man = true then σ.set 13 (some (.bl false)) else σ) H'
end TW
set_option Elab.async false
set_option linter.all false
set_option maxRecDepth 100000
set_option maxHeartbeats 4000000
namespace TW
open PySem PySem.Spec PyProof.Rows L2
def dOpt : Option Bar → PyData
  | none => .none
  | some b => dBar b
def closM (F : List Int) (n : Nat) : Bar := (allS n).filter fun s => F.all fun m => met m s
def clo (ms : List Int) (n : Nat) (b : Bar) : Option Bar := if (ms.filter fun m => b.all (met m)) = [] then none else some (closM (ms.filter fun m => b.all (met m)) n)
def cloL (L : Lots) (n : Nat) (b : Bar) : Option Bar := if fitL L b = [] then none else some (closL (fitL L b) n)
section
variable {P : Program} {w : World} {K : PySem.W.Frag} {mg : Str → Option Value} {base : Heap} {C N : Addr}
/-! _law_closed_part -/
abbrev NP : List Str := ["masks", "wide", "told", "row", "sign", "mask"]
def scSgn : Scope := { kind := .function, names := [(".0", .local), ("sign", .cell), ("all", .globalImplicit), ("row", .cell)], isGenerator := false, isCoroutine := false }
def spClosedPart : Sp := fun vs H Q _ => ∃ (G : Hp) (l : List (Addr × HO)) (a : Addr) (n : Nat) (ms : List Int) (v : V) (b : Bar), vs = [.ref a, .int n, v] ∧ Has G H l ∧ G a = some (.lst (ms.map V.int)) ∧ ms.length ≤ 1000 ∧ n ≤ 1000 ∧ At G v (dBar b) ∧ b.length ≤ 1000 ∧
  ∀ (G' H' : Hp) (x : V), Ex G G' → Has G' H' l → At G' x (dOpt (clo ms n b)) → Q x H'
def spTold (C : Addr) : Sp := fun vs H Q _ => ∃ (G : Hp) (l : List (Addr × HO)) (a : Addr) (n : Nat) (L : Lots) (v : V) (b : Bar), vs = [.ref a, v] ∧ Has G H l ∧ TabAt C G a n L ∧ LotsOk L ∧ L.length ≤ 1000 ∧ n ≤ 1000 ∧ At G v (dBar b) ∧ b.length ≤ 1000 ∧ insB b (some (n : Int)) = true ∧ ascB b = true ∧
  ∀ (G' H' : Hp) (x : V), Ex G G' → Has G' H' l → At G' x (dOpt (cloL L n b)) → Q x H'
end
end TW
set_option Elab.async false
set_option linter.all false
set_option maxRecDepth 100000
set_option maxHeartbeats 4000000
namespace TW
open PySem PySem.Spec PyProof.Rows L2
/-! what can be reached: in any two things like a given one -/
def agr (ms : List Int) (a b : Nat) (m : Int) : Bool := ms.any fun h => (bitB h a == bitB m a) && (bitB h b == bitB m b)
def reachB (n : Nat) (ms : List Int) (m : Int) : Bool := (List.range n).all fun a => (List.range n).all fun b => decide (b < a) || agr ms a b m
def reachM (n : Nat) (ms : List Int) : List Int := (rangeI (2 ^ n)).filter (reachB n ms)
def Rch (n : Nat) (ms : List Int) (m : Int) : Prop := ∀ i, i < n → ∀ j, j < n → ∃ h ∈ ms, bitB h i = bitB m i ∧ bitB h j = bitB m j
theorem agr_iff {ms : List Int} {a b : Nat} {m : Int} : agr ms a b m = true ↔ ∃ h ∈ ms, bitB h a = bitB m a ∧ bitB h b = bitB m b := by
  unfold agr
  rw [List.any_eq_true]
  simp only [Bool.and_eq_true, beq_iff_eq]
theorem reachB_iff {n : Nat} {ms : List Int} {m : Int} : reachB n ms m = true ↔ Rch n ms m := by
  unfold reachB Rch
  rw [List.all_eq_true]
  constructor
  · intro h i hi j hj
    rcases Nat.lt_or_ge j i with c | c
    · have h1 := List.all_eq_true.mp (h j (List.mem_range.mpr hj)) i (List.mem_range.mpr hi)
      rw [Bool.or_eq_true, decide_eq_true_eq] at h1
      rcases h1 with h1 | h1
      · omega
      · obtain ⟨x, hx, h2, h3⟩ := agr_iff.mp h1
        exact ⟨x, hx, h3, h2⟩
    · have h1 := List.all_eq_true.mp (h i (List.mem_range.mpr hi)) j (List.mem_range.mpr hj)
      rw [Bool.or_eq_true, decide_eq_true_eq] at h1
      rcases h1 with h1 | h1
      · omega
      · exact agr_iff.mp h1
  · intro h i hi
    rw [List.all_eq_true]
    intro j hj
    rw [Bool.or_eq_true]
    exact .inr (agr_iff.mpr (h i (List.mem_range.mp hi) j (List.mem_range.mp hj)))
theorem mem_reach {n : Nat} {ms : List Int} {m : Int} : m ∈ reachM n ms ↔ (0 ≤ m ∧ m < 2 ^ n) ∧ Rch n ms m := by
  unfold reachM
  rw [List.mem_filter, reachB_iff, rangeI_mem, show ((2 ^ n : Nat) : Int) = (2 : Int) ^ n by push_cast; rfl]
theorem reach_sub {n : Nat} {ms : List Int} (h : masksOk n ms) {m : Int} (hm : m ∈ ms) : m ∈ reachM n ms := mem_reach.mpr ⟨h.2.2 m hm, fun _ _ _ _ => ⟨m, hm, rfl, rfl⟩⟩
theorem reach_ok {n : Nat} {ms : List Int} (h : masksOk n ms) : masksOk n (reachM n ms) := ⟨List.Pairwise.sublist List.filter_sublist (rangeI_up _), fun e => by
  obtain ⟨m, hm⟩ := List.exists_mem_of_ne_nil ms h.2.1
  have := reach_sub h hm
  rw [e] at this
  exact List.not_mem_nil this, fun m hm => (mem_reach.mp hm).1⟩
theorem rch_idem {n : Nat} {ms : List Int} (h : masksOk n ms) {m : Int} : Rch n (reachM n ms) m ↔ Rch n ms m := by
  constructor
  · intro q i hi j hj
    obtain ⟨x, hx, h1, h2⟩ := q i hi j hj
    obtain ⟨y, hy, h3, h4⟩ := (mem_reach.mp hx).2 i hi j hj
    exact ⟨y, hy, h3.trans h1, h4.trans h2⟩
  · intro q i hi j hj
    obtain ⟨x, hx, h1, h2⟩ := q i hi j hj
    exact ⟨x, reach_sub h hx, h1, h2⟩
theorem reach_idem {n : Nat} {ms : List Int} (h : masksOk n ms) : reachM n (reachM n ms) = reachM n ms := by
  unfold reachM
  refine filt_congr fun m _ => ?_
  rw [Bool.eq_iff_iff, reachB_iff, reachB_iff]
  exact rch_idem h
theorem nodup_lenI : ∀ {xs ys : List Int}, xs.Nodup → (∀ x ∈ xs, x ∈ ys) → xs.length ≤ ys.length
  | [], _, _, _ => Nat.zero_le _
  | x :: xs, ys, hn, hs => by
    have c := List.nodup_cons.mp hn
    have hx := hs x List.mem_cons_self
    have h1 := nodup_lenI (xs := xs) (ys := ys.erase x) c.2 fun y hy => (List.mem_erase_of_ne (fun e => c.1 (by rw [← e]; exact hy))).mpr (hs y (List.mem_cons_of_mem _ hy))
    have h2 := List.length_erase_of_mem hx
    have h3 := List.length_pos_of_mem hx
    rw [List.length_cons]
    omega
theorem reach_len {n : Nat} {ms : List Int} (h : masksOk n ms) : ms.length ≤ (reachM n ms).length := nodup_lenI (up_nodup h.1) fun _ hm => reach_sub h hm
/-! one that meets three -/
def maskN (f : Nat → Bool) : Nat → Nat
  | 0 => 0
  | n + 1 => if f n = true then 2 ^ n + maskN f n else maskN f n
theorem maskN_lt (f : Nat → Bool) : ∀ n, maskN f n < 2 ^ n
  | 0 => Nat.one_pos
  | n + 1 => by
    have := maskN_lt f n
    unfold maskN
    rw [Nat.pow_succ]
    split <;> omega
theorem maskN_bit (f : Nat → Bool) : ∀ n k, k < n → bitB (maskN f n : Int) k = f k
  | 0, _, h => by omega
  | n + 1, k, h => by
    unfold maskN
    by_cases e : k = n
    · subst e
      cases hf : f k with
      | true =>
        rw [if_pos rfl]
        exact bit_high (maskN_lt f k)
      | false =>
        rw [if_neg (by decide)]
        exact bit_low (maskN_lt f k)
    · have hk : k < n := by omega
      cases hf : f n with
      | true =>
        rw [if_pos rfl, bit_same hk]
        exact maskN_bit f n k hk
      | false =>
        rw [if_neg (by decide)]
        exact maskN_bit f n k hk
def maj (a b c : Int) (k : Nat) : Bool := (bitB a k && bitB b k) || (bitB a k && bitB c k) || (bitB b k && bitB c k)
theorem maj_two (a b c : Int) (k : Nat) : (bitB a k = maj a b c k ∧ bitB b k = maj a b c k) ∨ (bitB a k = maj a b c k ∧ bitB c k = maj a b c k) ∨ (bitB b k = maj a b c k ∧ bitB c k = maj a b c k) := by
  unfold maj
  cases bitB a k <;> cases bitB b k <;> cases bitB c k <;> simp
theorem maj_rch {n : Nat} {ms : List Int} {a b c : Int} (ha : Rch n ms a) (hb : Rch n ms b) (hc : Rch n ms c) : Rch n ms (maskN (maj a b c) n : Int) := by
  intro i hi j hj
  rw [maskN_bit _ n i hi, maskN_bit _ n j hj]
  have key : (bitB a i = maj a b c i ∧ bitB a j = maj a b c j) ∨ (bitB b i = maj a b c i ∧ bitB b j = maj a b c j) ∨ (bitB c i = maj a b c i ∧ bitB c j = maj a b c j) := by
    rcases maj_two a b c i with ⟨h1, h2⟩ | ⟨h1, h2⟩ | ⟨h1, h2⟩ <;> rcases maj_two a b c j with ⟨h3, h4⟩ | ⟨h3, h4⟩ | ⟨h3, h4⟩ <;> simp_all
  rcases key with ⟨h1, h2⟩ | ⟨h1, h2⟩ | ⟨h1, h2⟩
  · rw [← h1, ← h2]
    exact ha i hi j hj
  · rw [← h1, ← h2]
    exact hb i hi j hj
  · rw [← h1, ← h2]
    exact hc i hi j hj
theorem maj_met {n : Nat} {a b c : Int} {s : Sgn} (hs : s.1 < n) (h : (met a s = true ∧ met b s = true) ∨ (met a s = true ∧ met c s = true) ∨ (met b s = true ∧ met c s = true)) : met (maskN (maj a b c) n : Int) s = true := by
  unfold met at h ⊢
  rw [maskN_bit _ n s.1 hs]
  unfold maj
  generalize bitB a s.1 = x at h ⊢
  generalize bitB b s.1 = y at h ⊢
  generalize bitB c s.1 = z at h ⊢
  generalize s.2 = u at h ⊢
  revert h
  cases x <;> cases y <;> cases z <;> cases u <;> decide
def Mem (n : Nat) (ms : List Int) (m : Int) : Prop := (0 ≤ m ∧ m < 2 ^ n) ∧ Rch n ms m
theorem helly {n : Nat} {ms : List Int} (ne : ∃ m, Mem n ms m) : ∀ (k : Nat) (b : Bar), b.length ≤ k → (∀ s ∈ b, s.1 < n) → (∀ s ∈ b, ∀ t ∈ b, ∃ m, Mem n ms m ∧ met m s = true ∧ met m t = true) → ∃ m, Mem n ms m ∧ ∀ s ∈ b, met m s = true
  | _, [], _, _, _ => by
    obtain ⟨m, hm⟩ := ne
    exact ⟨m, hm, fun s hs => absurd hs List.not_mem_nil⟩
  | _, [s], _, _, h => by
    obtain ⟨m, hm, h1, _⟩ := h s List.mem_cons_self s List.mem_cons_self
    exact ⟨m, hm, fun t ht => by rw [List.mem_singleton.mp ht]; exact h1⟩
  | _, [s, t], _, _, h => by
    obtain ⟨m, hm, h1, h2⟩ := h s List.mem_cons_self t (List.mem_cons_of_mem _ List.mem_cons_self)
    refine ⟨m, hm, fun u hu => ?_⟩
    simp only [List.mem_cons, List.not_mem_nil, or_false] at hu
    rcases hu with rfl | rfl
    · exact h1
    · exact h2
  | 0, _ :: _ :: _ :: _, l, _, _ => by cases l
  | k + 1, s :: t :: u :: r, l, hb, h => by
    have sub : ∀ c : Bar, (∀ x ∈ c, x ∈ s :: t :: u :: r) → c.length ≤ k → ∃ m, Mem n ms m ∧ ∀ x ∈ c, met m x = true := fun c hc lc => helly ne k c lc (fun x hx => hb x (hc x hx)) fun x hx y hy => h x (hc x hx) y (hc y hy)
    have lr : r.length + 2 ≤ k := by
      simp only [List.length_cons] at l
      omega
    obtain ⟨a, ha, ma⟩ := sub (t :: u :: r) (fun x hx => List.mem_cons_of_mem _ hx) (by simp only [List.length_cons]; omega)
    obtain ⟨b, hb', mb⟩ := sub (s :: u :: r) (fun x hx => by
      rcases List.mem_cons.mp hx with rfl | hx
      · exact List.mem_cons_self
      · exact List.mem_cons_of_mem _ (List.mem_cons_of_mem _ hx)) (by simp only [List.length_cons]; omega)
    obtain ⟨c, hc, mc⟩ := sub (s :: t :: r) (fun x hx => by
      rcases List.mem_cons.mp hx with rfl | hx
      · exact List.mem_cons_self
      · rcases List.mem_cons.mp hx with rfl | hx
        · exact List.mem_cons_of_mem _ List.mem_cons_self
        · exact List.mem_cons_of_mem _ (List.mem_cons_of_mem _ (List.mem_cons_of_mem _ hx))) (by simp only [List.length_cons]; omega)
    refine ⟨(maskN (maj a b c) n : Int), ⟨⟨by omega, by have := maskN_lt (maj a b c) n; exact_mod_cast this⟩, maj_rch ha.2 hb'.2 hc.2⟩, fun x hx => maj_met (hb x hx) ?_⟩
    rcases List.mem_cons.mp hx with rfl | hx
    · exact .inr (.inr ⟨mb _ List.mem_cons_self, mc _ List.mem_cons_self⟩)
    · rcases List.mem_cons.mp hx with rfl | hx
      · exact .inr (.inl ⟨ma _ List.mem_cons_self, mc _ (List.mem_cons_of_mem _ List.mem_cons_self)⟩)
      · rcases List.mem_cons.mp hx with rfl | hx
        · exact .inl ⟨ma _ (List.mem_cons_of_mem _ List.mem_cons_self), mb _ (List.mem_cons_of_mem _ List.mem_cons_self)⟩
        · exact .inl ⟨ma _ (List.mem_cons_of_mem _ (List.mem_cons_of_mem _ hx)), mb _ (List.mem_cons_of_mem _ (List.mem_cons_of_mem _ hx))⟩
/-! the rules of a table keep just what can be reached -/
theorem mem_rules {lots : List (List Int)} {n : Nat} {b : Bar} : b ∈ rulesU lots n ↔ (∃ s ∈ allS n, hasR lots [s] = true ∧ b = [s]) ∨ (∃ s ∈ allS n, ∃ t ∈ allS n, hasR lots [s] = false ∧ hasR lots [t] = false ∧ s.1 < t.1 ∧ hasR lots [s, t] = true ∧ b = [s, t]) := by
  unfold rulesU
  rw [List.mem_append]
  constructor
  · rintro (h | h)
    · obtain ⟨s, hs, rfl⟩ := List.mem_map.mp h
      obtain ⟨h1, h2⟩ := List.mem_filter.mp hs
      exact .inl ⟨s, h1, h2, rfl⟩
    · obtain ⟨h1, h2⟩ := List.mem_filter.mp h
      obtain ⟨s, hs, h3⟩ := List.mem_flatMap.mp h1
      obtain ⟨t, ht, rfl⟩ := List.mem_map.mp h3
      obtain ⟨h4, h5⟩ := List.mem_filter.mp ht
      obtain ⟨h6, h7⟩ := List.mem_filter.mp hs
      obtain ⟨h8, h9⟩ := List.mem_filter.mp h4
      refine .inr ⟨s, h6, t, h8, ?_, ?_, of_decide_eq_true h5, h2, rfl⟩
      · simpa using h7
      · simpa using h9
  · rintro (⟨s, h1, h2, rfl⟩ | ⟨s, h1, t, h2, h3, h4, h5, h6, rfl⟩)
    · exact .inl (List.mem_map.mpr ⟨s, List.mem_filter.mpr ⟨h1, h2⟩, rfl⟩)
    · refine .inr (List.mem_filter.mpr ⟨List.mem_flatMap.mpr ⟨s, List.mem_filter.mpr ⟨h1, by rw [h3]; rfl⟩, List.mem_map.mpr ⟨t, List.mem_filter.mpr ⟨List.mem_filter.mpr ⟨h2, by rw [h4]; rfl⟩, decide_eq_true h5⟩, rfl⟩⟩, h6⟩)
theorem mem_allS {n : Nat} {s : Sgn} : s ∈ allS n ↔ s.1 < n := by
  refine ⟨allS_lt, fun h => ?_⟩
  unfold allS
  refine List.mem_flatMap.mpr ⟨s.1, List.mem_range.mpr h, ?_⟩
  obtain ⟨k, b⟩ := s
  cases b <;> simp
theorem rules_ok {lots : List (List Int)} {n : Nat} : ruleP n (rulesU lots n) := fun b hb => by
  rcases mem_rules.mp hb with ⟨s, h1, _, rfl⟩ | ⟨s, h1, t, h2, _, _, h5, _, rfl⟩
  · exact ⟨List.cons_ne_nil _ _, by show 1 ≤ 2; decide, fun x hx => by rw [List.mem_singleton.mp hx]; exact allS_lt h1, List.pairwise_singleton _ _⟩
  · refine ⟨List.cons_ne_nil _ _, by show 2 ≤ 2; decide, fun x hx => ?_, List.pairwise_cons.mpr ⟨fun x hx => by rw [List.mem_singleton.mp hx]; exact h5, List.pairwise_singleton _ _⟩⟩
    simp only [List.mem_cons, List.not_mem_nil, or_false] at hx
    rcases hx with rfl | rfl
    · exact allS_lt h1
    · exact allS_lt h2
theorem rules_len {lots : List (List Int)} {n : Nat} (hn : n ≤ 6) : (rulesU lots n).length ≤ 1000 := by
  unfold rulesU
  rw [List.length_append, List.length_map]
  have al := allS_len n
  have h1 : (singleS lots n).length ≤ 12 := Nat.le_trans (List.length_filter_le _ _) (by omega)
  have h0 : (opensS lots n).length ≤ 12 := Nat.le_trans (List.length_filter_le _ _) (by omega)
  have h2 := flat_len (f := pairsAt (opensS lots n)) (k := 12) (l := opensS lots n) fun s _ => Nat.le_trans (pairsAt_len _ s) h0
  have h3 := List.length_filter_le (hasR lots) ((opensS lots n).flatMap (pairsAt (opensS lots n)))
  have h4 := Nat.mul_le_mul_right 12 h0
  omega
theorem met_not (m h : Int) (k : Nat) : met h (k, !bitB m k) = false ↔ bitB h k = bitB m k := by
  unfold met
  cases bitB h k <;> cases bitB m k <;> simp
theorem kept_rules {lots : List (List Int)} {n : Nat} {ms : List Int} (are : LotsAre n ms lots) {bs : List Bar} (hbs : ∀ b, b ∈ bs ↔ b ∈ rulesU lots n) (m : Int) : keptB m bs = reachB n ms m := by
  rw [Bool.eq_iff_iff, reachB_iff]
  unfold keptB
  rw [List.all_eq_true]
  have h1 : ∀ {s : Sgn}, s.1 < n → hasR lots [s] = ms.all fun h => met h s := fun {s} hs => by
    rw [hasR_eq are (fun x hx => by rw [List.mem_singleton.mp hx]; exact hs), hasM_one]
    rfl
  have h2 : ∀ {s t : Sgn}, s.1 < n → t.1 < n → hasR lots [s, t] = ms.all fun h => met h s || met h t := fun {s t} hs ht => by
    rw [hasR_eq are (fun x hx => by
      simp only [List.mem_cons, List.not_mem_nil, or_false] at hx
      rcases hx with rfl | rfl
      · exact hs
      · exact ht)]
    unfold hasM
    congr 1
    funext h
    show (met h s || (met h t || false)) = _
    rw [Bool.or_false]
  constructor
  · intro q i hi j hj
    refine Classical.byContradiction fun hno => ?_
    have hs : ∀ h ∈ ms, met h (i, !bitB m i) = true ∨ met h (j, !bitB m j) = true := fun h hh => by
      refine Classical.byContradiction fun c => hno ⟨h, hh, ?_⟩
      have c1 : met h (i, !bitB m i) = false := by
        cases e : met h (i, !bitB m i) with
        | true => exact absurd (.inl e) c
        | false => rfl
      have c2 : met h (j, !bitB m j) = false := by
        cases e : met h (j, !bitB m j) with
        | true => exact absurd (.inr e) c
        | false => rfl
      exact ⟨(met_not m h i).mp c1, (met_not m h j).mp c2⟩
    have own : ∀ k, met m (k, !bitB m k) = false := fun k => (met_not m m k).mpr rfl
    have one : ∀ k, k < n → hasR lots [((k, !bitB m k) : Sgn)] = false := fun k hk => by
      cases e : hasR lots [((k, !bitB m k) : Sgn)] with
      | false => rfl
      | true =>
        have hb := q _ ((hbs _).mpr (mem_rules.mpr (.inl ⟨_, mem_allS.mpr hk, e, rfl⟩)))
        have hb' : (met m (k, !bitB m k) || false) = true := hb
        rw [own k] at hb'
        cases hb'
    have two : ∀ k l, k < l → l < n → (∀ h ∈ ms, met h (k, !bitB m k) = true ∨ met h (l, !bitB m l) = true) → False := fun k l hkl hl hh => by
      have e : hasR lots [((k, !bitB m k) : Sgn), (l, !bitB m l)] = true := by
        rw [h2 (show k < n by omega) hl, List.all_eq_true]
        intro h hm
        rw [Bool.or_eq_true]
        exact hh h hm
      have hb := q _ ((hbs _).mpr (mem_rules.mpr (.inr ⟨_, mem_allS.mpr (show k < n by omega), _, mem_allS.mpr hl, one k (by omega), one l hl, hkl, e, rfl⟩)))
      have hb' : (met m (k, !bitB m k) || (met m (l, !bitB m l) || false)) = true := hb
      rw [own k, own l] at hb'
      cases hb'
    rcases Nat.lt_trichotomy i j with c | c | c
    · exact two i j c hj hs
    · subst c
      have e : hasR lots [((i, !bitB m i) : Sgn)] = true := by
        rw [h1 hi, List.all_eq_true]
        intro h hm
        rcases hs h hm with e | e <;> exact e
      rw [one i hi] at e
      cases e
    · exact two j i c hi fun h hm => (hs h hm).symm
  · intro q b hb
    rcases mem_rules.mp ((hbs b).mp hb) with ⟨s, hs, h3, rfl⟩ | ⟨s, hs, t, ht, _, _, _, h3, rfl⟩
    · have ls := allS_lt hs
      rw [h1 ls, List.all_eq_true] at h3
      obtain ⟨h, hh, e1, _⟩ := q s.1 ls s.1 ls
      have := h3 h hh
      unfold met at this
      rw [e1] at this
      show (met m s || false) = true
      unfold met
      rw [this]
      rfl
    · have ls := allS_lt hs
      have lt := allS_lt ht
      rw [h2 ls lt, List.all_eq_true] at h3
      obtain ⟨h, hh, e1, e2⟩ := q s.1 ls t.1 lt
      have := h3 h hh
      unfold met at this
      rw [e1, e2] at this
      show (met m s || (met m t || false)) = true
      unfold met
      rw [Bool.or_false]
      exact this
theorem keptM_rules {lots : List (List Int)} {n : Nat} {ms : List Int} (are : LotsAre n ms lots) {bs : List Bar} (hbs : ∀ b, b ∈ bs ↔ b ∈ rulesU lots n) : keptM n bs = reachM n ms := by
  unfold keptM reachM
  exact filt_congr fun m _ => kept_rules are hbs m
theorem rulesD_bars (lots : List (List Int)) (n : Nat) : ∃ bs : List Bar, rulesD lots n = bs.map dBar ∧ bs.Perm (rulesU lots n) := by
  obtain ⟨bs, pm, e⟩ := perm_back (f := dBar) (m := rulesU lots n) (List.mergeSort_perm ((rulesU lots n).map dBar) dLe)
  exact ⟨bs, e, pm⟩
theorem tabOf_len {n : Nat} {ms : List Int} {L : Lots} (h : TabOf n ms L) (hm : masksOk n ms) : L.length = ms.length := by
  have h1 := congrArg List.length (lots_told h hm)
  rw [(List.mergeSort_perm _ _).length_eq, List.length_map, List.length_map, List.length_map] at h1
  exact h1.symm
section
variable {P : Program} {w : World} {K : PySem.W.Frag} {mg : Str → Option Value} {base : Heap} {C N : Addr}
/-! Table.__len__ -/
theorem sc_Table_len : FnScope ["self"] ["self"] (defScope s_Table_len) := ⟨rfl, rfl, rfl, by decide +kernel, rfl, by decide +kernel, by decide +kernel⟩
def spLen (C : Addr) : Sp := fun vs H Q _ => ∃ (a : Addr) (n : Nat) (L : Lots), vs = [.ref a] ∧ TabAt C H a n L ∧ Q (.int L.length) H
theorem ok_len {f : Addr} {fd : FuncData} (F : Fun K "__len__" "Table.__len__" s_Table_len f fd) (z : Z mg) (T : TC K mg C) : FnOk P w K mg base CX0 1 f fd ["self"] (spLen C) := by
  refine F.ok sc_Table_len (fun vs H Q E h => ?_) (fun cdv A outer s H vs Q E hr h => ?_)
  · obtain ⟨a, n, L, rfl, _⟩ := h
    rfl
  · obtain ⟨a, n, L, rfl, ⟨dx, l, h1, h2, h3⟩, q⟩ := h
    rw [← refs_len L] at q
    exact ⟨_, pss_one (ps_ret (pe_callB call_len_seq (by rfl) z.len PySem.boot_len (pa_cons (pe_fld (pv 0) rfl) pa_nil))), _, rfl, a, C, dx, _, _, rfl, h1, T.cl, T.nL, tf_lots n l, l, _, rfl, .inr (Evl.st_of h2), q⟩
structure TLn (P : Program) (w : World) (K : PySem.W.Frag) (mg : Str → Option Value) (base : Heap) (C f : Addr) (fd : FuncData) : Prop where
  at_ : PySem.W.findIn K (.ref C) "__len__" = some (some (.ref f))
  fn : PySem.W.isFn K (.ref f) = true
  ok : FnOk P w K mg base CX0 1 f fd ["self"] (spLen C)
  b : Binds K fd ["self"] []
def spClosed (C : Addr) : Sp := fun vs H Q _ => ∃ (G : Hp) (l : List (Addr × HO)) (a : Addr) (n : Nat) (L : Lots) (ms : List Int), vs = [.ref a] ∧ Has G H l ∧ TabAt C G a n L ∧ TabOf n ms L ∧ masksOk n ms ∧ 0 < n ∧ n ≤ 6 ∧
  ∀ (G' H' : Hp) (t : Addr) (L' : Lots), Ex G G' → Has G' H' l → TabAt C G' t n L' → TabOf n (reachM n ms) L' → Q (.ref t) H'
def shutB (n : Nat) (ms : List Int) : Bool := decide ((reachM n ms).length = ms.length)
def spIsClosed (C : Addr) : Sp := fun vs H Q _ => ∃ (G : Hp) (l : List (Addr × HO)) (a : Addr) (n : Nat) (L : Lots) (ms : List Int), vs = [.ref a] ∧ Has G H l ∧ TabAt C G a n L ∧ TabOf n ms L ∧ masksOk n ms ∧ 0 < n ∧ n ≤ 6 ∧
  ∀ H' : Hp, Has G H' l → Q (.bl (shutB n ms)) H'
theorem dec_int (a b : Nat) : decide (V.int (a : Int) = V.int (b : Int)) = decide (a = b) := by
  rw [Bool.eq_iff_iff, decide_eq_true_eq, decide_eq_true_eq]
  constructor
  · intro h
    have := V.int.inj h
    omega
  · rintro rfl
    rfl
theorem lots_le {n : Nat} {ms : List Int} {L : Lots} (h : TabOf n ms L) (hm : masksOk n ms) (hn : 0 < n) (hn6 : n ≤ 6) : L.length ≤ 64 := by
  rw [tabOf_len h hm]
  exact masks_len hn hn6 hm
def spCheckClosed (C NC : Addr) : Sp := fun vs H Q E => ∃ (G : Hp) (l : List (Addr × HO)) (a : Addr) (n : Nat) (L : Lots) (ms : List Int), vs = [.ref a] ∧ Has G H l ∧ TabAt C G a n L ∧ TabOf n ms L ∧ masksOk n ms ∧ 0 < n ∧ n ≤ 6 ∧
  (shutB n ms = true → ∀ H' : Hp, Has G H' l → Q .non H') ∧ (shutB n ms = false → ∀ H' : Hp, Has G H' l → E (.ref NC) none H')
end
end TW
set_option Elab.async false
set_option linter.all false
set_option maxRecDepth 100000
set_option maxHeartbeats 4000000
namespace TW
open PySem PySem.Spec PyProof.Rows L2
/-! groups of literals that cannot be together -/
def pairsB (b : Bar) : List Bar := b.flatMap (pairsAt b)
def groupsB (b : Bar) : List Bar := b.map (fun s => [s]) ++ pairsB b
def canM (ms : List Int) (g : Bar) : Bool := ms.any fun m => g.all (met m)
def dueM (ms : List Int) (b : Bar) : Option Bar := (groupsB b).find? fun g => !canM ms g
def partP (n : Nat) (b : Bar) : Prop := b.length ≤ 100 ∧ (∀ s ∈ b, s.1 < n) ∧ UpB b
theorem all_mt {m : Int} {n : Nat} {b : Bar} (h : ∀ s ∈ b, s.1 < n) : b.all (mt (lotOf m n)) = b.all (met m) := by
  induction b with
  | nil => rfl
  | cons s b ih => rw [List.all_cons, List.all_cons, mt_lot (h s List.mem_cons_self), ih fun t ht => h t (List.mem_cons_of_mem _ ht)]
theorem can_eq {n : Nat} {ms : List Int} {lots : List (List Int)} (h : LotsAre n ms lots) {b : Bar} (hb : ∀ s ∈ b, s.1 < n) : canB lots b = canM ms b := by
  unfold canB canM
  rw [Bool.eq_iff_iff, List.any_eq_true, List.any_eq_true]
  constructor
  · rintro ⟨x, hx, q⟩
    obtain ⟨m, hm, rfl⟩ := h.1 x hx
    exact ⟨m, hm, by rw [← all_mt hb]; exact q⟩
  · rintro ⟨m, hm, q⟩
    exact ⟨_, h.2 m hm, by rw [all_mt hb]; exact q⟩
theorem canM_iff {ms : List Int} {g : Bar} : canM ms g = true ↔ ∃ m ∈ ms, ∀ s ∈ g, met m s = true := by
  unfold canM
  rw [List.any_eq_true]
  simp only [List.all_eq_true]
theorem canM_sub {ms : List Int} {g b : Bar} (h : canM ms b = true) (hs : ∀ s ∈ g, s ∈ b) : canM ms g = true := by
  obtain ⟨m, hm, q⟩ := canM_iff.mp h
  exact canM_iff.mpr ⟨m, hm, fun s hs' => q s (hs s hs')⟩
theorem group_sub {b g : Bar} (h : g ∈ groupsB b) : (∀ s ∈ g, s ∈ b) ∧ g.length ≤ 2 ∧ UpB g := by
  unfold groupsB pairsB pairsAt at h
  rcases List.mem_append.mp h with h | h
  · obtain ⟨s, hs, rfl⟩ := List.mem_map.mp h
    exact ⟨fun t ht => by rw [List.mem_singleton.mp ht]; exact hs, by show 1 ≤ 2; decide, List.pairwise_singleton _ _⟩
  · obtain ⟨s, hs, h2⟩ := List.mem_flatMap.mp h
    obtain ⟨t, ht, rfl⟩ := List.mem_map.mp h2
    obtain ⟨h3, h4⟩ := List.mem_filter.mp ht
    refine ⟨fun u hu => ?_, by show 2 ≤ 2; decide, List.pairwise_cons.mpr ⟨fun u hu => by rw [List.mem_singleton.mp hu]; exact of_decide_eq_true h4, List.pairwise_singleton _ _⟩⟩
    simp only [List.mem_cons, List.not_mem_nil, or_false] at hu
    rcases hu with rfl | rfl
    · exact hs
    · exact h3
theorem due_none_of_can {ms : List Int} {b : Bar} (h : canM ms b = true) : dueM ms b = none := by
  unfold dueM
  rw [List.find?_eq_none]
  intro g hg
  rw [canM_sub h (group_sub hg).1]
  decide
/-- a table is closed -/
def Shut (n : Nat) (ms : List Int) : Prop := masksOk n ms ∧ reachM n ms = ms
theorem can_of_due {n : Nat} {ms : List Int} {b : Bar} (hs : Shut n ms) (hb : ∀ s ∈ b, s.1 < n) (ub : UpB b) (h : dueM ms b = none) : canM ms b = true := by
  unfold dueM at h
  rw [List.find?_eq_none] at h
  have grp : ∀ g ∈ groupsB b, canM ms g = true := fun g hg => by
    have := h g hg
    cases e : canM ms g with
    | true => rfl
    | false => rw [e] at this; exact absurd rfl this
  have mem : ∀ m, m ∈ ms ↔ Mem n ms m := fun m => by
    have := @mem_reach n ms m
    rw [hs.2] at this
    exact this
  obtain ⟨m0, hm0⟩ := List.exists_mem_of_ne_nil ms hs.1.2.1
  have one : ∀ s ∈ b, ∃ m, Mem n ms m ∧ met m s = true ∧ met m s = true := fun s hs' => by
    obtain ⟨m, hm, q⟩ := canM_iff.mp (grp [s] (List.mem_append_left _ (List.mem_map.mpr ⟨s, hs', rfl⟩)))
    exact ⟨m, (mem m).mp hm, q s List.mem_cons_self, q s List.mem_cons_self⟩
  have two : ∀ s ∈ b, ∀ t ∈ b, s.1 < t.1 → ∃ m, Mem n ms m ∧ met m s = true ∧ met m t = true := fun s hs' t ht hlt => by
    obtain ⟨m, hm, q⟩ := canM_iff.mp (grp [s, t] (List.mem_append_right _ (List.mem_flatMap.mpr ⟨s, hs', List.mem_map.mpr ⟨t, List.mem_filter.mpr ⟨ht, decide_eq_true hlt⟩, rfl⟩⟩)))
    exact ⟨m, (mem m).mp hm, q s List.mem_cons_self, q t (List.mem_cons_of_mem _ List.mem_cons_self)⟩
  have same : ∀ s ∈ b, ∀ t ∈ b, s.1 = t.1 → s = t := fun s hs' t ht e => by
    obtain ⟨i, hi⟩ := List.mem_iff_getElem?.mp hs'
    obtain ⟨j, hj⟩ := List.mem_iff_getElem?.mp ht
    have pw := List.pairwise_iff_getElem.mp ub
    obtain ⟨hi1, hi2⟩ := List.getElem?_eq_some_iff.mp hi
    obtain ⟨hj1, hj2⟩ := List.getElem?_eq_some_iff.mp hj
    rcases Nat.lt_trichotomy i j with c | c | c
    · have := pw i j hi1 hj1 c
      rw [hi2, hj2] at this
      omega
    · subst c
      rw [← hi2, ← hj2]
    · have := pw j i hj1 hi1 c
      rw [hi2, hj2] at this
      omega
  obtain ⟨m, hm, q⟩ := helly ⟨m0, (mem m0).mp hm0⟩ b.length b (Nat.le_refl _) hb fun s hs' t ht => by
    rcases Nat.lt_trichotomy s.1 t.1 with c | c | c
    · exact two s hs' t ht c
    · rw [← same s hs' t ht c]
      exact one s hs'
    · obtain ⟨m, h1, h2, h3⟩ := two t ht s hs' c
      exact ⟨m, h1, h3, h2⟩
  exact canM_iff.mpr ⟨m, (mem m).mpr hm, q⟩
theorem find_filter {α : Type} (p : α → Bool) : ∀ l : List α, l.find? p = (l.filter p)[0]?
  | [] => rfl
  | x :: l => by
    rw [List.find?_cons, List.filter_cons]
    cases h : p x with
    | true => rfl
    | false =>
      rw [if_neg (by decide)]
      exact find_filter p l
theorem pairsB_len {b : Bar} (h : b.length ≤ 100) : (pairsB b).length ≤ 100 * 100 := by
  unfold pairsB
  have h1 := flat_len (f := pairsAt b) (k := 100) (l := b) fun s _ => Nat.le_trans (pairsAt_len b s) h
  have h4 := Nat.mul_le_mul_right 100 h
  omega
section
variable {P : Program} {w : World} {K : PySem.W.Frag} {mg : Str → Option Value} {base : Heap} {C N : Addr}
/-! _pairs -/
abbrev NPR : List Str := ["part", "low", "high"]
def spPairs : Sp := fun vs H Q _ => ∃ (G : Hp) (l : List (Addr × HO)) (v : V) (b : Bar), vs = [v] ∧ Has G H l ∧ At G v (dBar b) ∧ b.length ≤ 100 ∧ ∀ (G' H' : Hp) (t : Addr) (xs : List V), Ex G G' → Has G' H' ((t, .lst xs) :: l) → Ats G' xs ((pairsB b).map dBar) → Q (.ref t) H'
/-! clash -/
abbrev NCL : List Str := ["table", "part", "groups", "literal", "group"]
def spClash (C NC : Addr) : Sp := fun vs H Q E => ∃ (G : Hp) (l : List (Addr × HO)) (a : Addr) (n : Nat) (L : Lots) (ms : List Int) (v : V) (b : Bar), vs = [.ref a, v] ∧ Has G H l ∧ TabAt C G a n L ∧ TabOf n ms L ∧ masksOk n ms ∧ 0 < n ∧ n ≤ 6 ∧ At G v (dBar b) ∧ partP n b ∧
  (shutB n ms = false → ∀ H' : Hp, Has G H' l → E (.ref NC) none H') ∧ (shutB n ms = true → Shut n ms → ∀ (G' H' : Hp) (x : V), Ex G G' → Has G' H' l → At G' x (dOpt (dueM ms b)) → Q x H')
theorem lots_ok {n : Nat} {ms : List Int} {L : Lots} (h : TabOf n ms L) (hn : n ≤ 6) : LotsOk L := fun p hp => by
  obtain ⟨m, _, e⟩ := h.1 p hp
  rw [e]
  refine ⟨lot_asc m n, fun z hz => ?_, by have := lot_len m n; omega⟩
  obtain ⟨k, _, _, rfl⟩ := lot_mem.mp hz
  omega
theorem shut_of {n : Nat} {ms : List Int} (h : masksOk n ms) (e : shutB n ms = true) : Shut n ms := by
  refine ⟨h, ?_⟩
  have hl := of_decide_eq_true e
  have hr := reach_ok h
  -- both ascend, the one lies in the other, both have the same length
  have sub : ∀ {xs ys : List Int}, Up xs → Up ys → (∀ x ∈ xs, x ∈ ys) → ys.length = xs.length → ys = xs := fun {xs ys} hx hy hs hl => by
    have back : ∀ y ∈ ys, y ∈ xs := fun y hy' => Classical.byContradiction fun c => by
      have h1 := nodup_lenI (xs := xs) (ys := ys.erase y) (up_nodup hx) fun x hx' => (List.mem_erase_of_ne fun e => c (by rw [← e]; exact hx')).mpr (hs x hx')
      have h2 := List.length_erase_of_mem hy'
      have h3 := List.length_pos_of_mem hy'
      omega
    exact strict_ext (fun a b p q => absurd p (by omega)) hy hx fun z => ⟨back z, hs z⟩
  exact sub h.1 hr.1 (fun x hx => reach_sub h hx) hl
end
end TW
set_option Elab.async false
set_option linter.all false
set_option maxRecDepth 100000
set_option maxHeartbeats 4000000
namespace TW
open PySem PySem.Spec PyProof.Rows L2
/-! masks by two bits -/
theorem bor (a b : Nat) : Builtin.bitOr (a : Int) (b : Int) = ((a ||| b : Nat) : Int) := by
  unfold Builtin.bitOr
  rw [bitAnd_nn (by unfold Builtin.bitNot; omega) (by unfold Builtin.bitNot; omega)]
  have e : ∀ x : Int, Builtin.bitNot (Builtin.bitNot x) = x := fun x => by unfold Builtin.bitNot; omega
  rw [e, e, e, Int.toNat_natCast, Int.toNat_natCast]
theorem bit_test (x : Nat) (k : Nat) : bitB (x : Int) k = x.testBit k := by
  unfold bitB
  rw [Nat.testBit_eq_decide_div_mod_eq, Bool.eq_iff_iff, decide_eq_true_eq, decide_eq_true_eq]
  have : ((x : Int) / 2 ^ k % 2) = ((x / 2 ^ k % 2 : Nat) : Int) := by push_cast; rfl
  rw [this]
  omega
def prI (a b : Nat) : Int := Builtin.bitOr (1 * 2 ^ a) (1 * 2 ^ b)
theorem prI_eq (a b : Nat) : prI a b = ((2 ^ a ||| 2 ^ b : Nat) : Int) := by
  unfold prI
  rw [Int.one_mul, Int.one_mul, show (2 : Int) ^ a = ((2 ^ a : Nat) : Int) by push_cast; rfl, show (2 : Int) ^ b = ((2 ^ b : Nat) : Int) by push_cast; rfl, bor]
theorem key_iff {x y : Int} (hx : 0 ≤ x) (hy : 0 ≤ y) (a b : Nat) : Builtin.bitAnd x (prI a b) = Builtin.bitAnd y (prI a b) ↔ bitB x a = bitB y a ∧ bitB x b = bitB y b := by
  obtain ⟨x, rfl⟩ := Int.eq_ofNat_of_zero_le hx
  obtain ⟨y, rfl⟩ := Int.eq_ofNat_of_zero_le hy
  rw [prI_eq, bitAnd_pp (by omega) (by omega), bitAnd_pp (by omega) (by omega), Int.toNat_natCast, Int.toNat_natCast, Int.toNat_natCast, bit_test, bit_test, bit_test, bit_test]
  have tb : ∀ z k : Nat, (z &&& (2 ^ a ||| 2 ^ b)).testBit k = (z.testBit k && (decide (a = k) || decide (b = k))) := fun z k => by
    rw [Nat.testBit_and, Nat.testBit_or, Nat.testBit_two_pow, Nat.testBit_two_pow]
  constructor
  · intro h
    have h' : x &&& (2 ^ a ||| 2 ^ b) = y &&& (2 ^ a ||| 2 ^ b) := by exact_mod_cast h
    have ha := congrArg (fun z : Nat => z.testBit a) h'
    have hb := congrArg (fun z : Nat => z.testBit b) h'
    simp only [tb] at ha hb
    simp at ha hb
    exact ⟨ha, hb⟩
  · rintro ⟨h1, h2⟩
    have : x &&& (2 ^ a ||| 2 ^ b) = y &&& (2 ^ a ||| 2 ^ b) := Nat.eq_of_testBit_eq fun k => by
      rw [tb, tb]
      by_cases e1 : a = k
      · subst e1
        rw [h1]
      · by_cases e2 : b = k
        · subst e2
          rw [h2]
        · rw [decide_eq_false e1, decide_eq_false e2, Bool.or_false, Bool.and_false, Bool.and_false]
    rw [this]
def fours (a b : Nat) : List Int := [((0 ||| 0 : Nat) : Int), ((0 ||| 2 ^ b : Nat) : Int), ((2 ^ a ||| 0 : Nat) : Int), ((2 ^ a ||| 2 ^ b : Nat) : Int)]
theorem key_four {x : Int} (hx : 0 ≤ x) (a b : Nat) : Builtin.bitAnd x (prI a b) ∈ fours a b := by
  obtain ⟨x, rfl⟩ := Int.eq_ofNat_of_zero_le hx
  rw [prI_eq, bitAnd_pp (by omega) (by omega), Int.toNat_natCast, Int.toNat_natCast]
  have e : x &&& (2 ^ a ||| 2 ^ b) = (if x.testBit a = true then 2 ^ a else 0) ||| (if x.testBit b = true then 2 ^ b else 0) := Nat.eq_of_testBit_eq fun k => by
    rw [Nat.testBit_and, Nat.testBit_or, Nat.testBit_or, Nat.testBit_two_pow, Nat.testBit_two_pow]
    have one : ∀ c : Nat, (if x.testBit c = true then 2 ^ c else 0).testBit k = (x.testBit k && decide (c = k)) := fun c => by
      by_cases e : c = k
      · subst e
        cases h : x.testBit c with
        | true => rw [if_pos rfl, Nat.testBit_two_pow]; simp
        | false => rw [if_neg (by decide), Nat.zero_testBit]; simp
      · rw [decide_eq_false e, Bool.and_false]
        split
        · rw [Nat.testBit_two_pow, decide_eq_false e]
        · exact Nat.zero_testBit k
    rw [one, one]
    cases x.testBit k <;> simp
  rw [e]
  unfold fours
  cases x.testBit a <;> cases x.testBit b <;> simp
section
variable {X : Cx}
def rSortedSetB (w : World) : List V → Hp → VK → Prop := fun vs H Q => ∃ (a : Addr) (S : Int → Bool) (n : Nat) (B : List Int), vs = [V.ref a] ∧ H a = some (SetO w a S n) ∧ (∀ k, S k = true → k ∈ B) ∧ B.length < 64 ∧
  ∀ (ns : List Int) (p : Addr), ns.Pairwise (· < ·) → (∀ k : Int, k ∈ ns ↔ S k = true) → H p = none → Q (.ref p) (upd H p (.lst (ns.map V.int)))
theorem cr_sortedSetB {w : World} (hc : X.calm = true) (hw : X.w = w := by rfl) : CallR X (.builtin "sorted") (rSortedSetB w) := by
  subst hw
  intro pins s σ H vs us Q I r h
  obtain ⟨a, S, n, B, rfl, ha, hB, lB, q⟩ := h
  have hn : n ≤ B.length := by
    obtain ⟨o, es, ep, t, _, _, _, _, nd, hm, _, _, hn, _⟩ := setO_get I ha
    have := nodup_lenI nd fun x hx => hB x ((hm x).mpr hx)
    rw [List.length_map, Array.length_toList, hn] at this
    exact this
  exact cr_sortedSet hc pins s σ H [.ref a] us Q I r ⟨a, S, n, rfl, ha, by omega, fun ns p h1 h2 _ h4 => q ns p h1 h2 h4⟩
end
def rowsI (n : Nat) (ms : List Int) (i : Nat) : List Int := (rangeI (2 ^ n)).filter fun m => (List.range i).all fun a => (List.range n).all fun b => decide (b < a) || agr ms a b m
def rowsJ (n : Nat) (ms : List Int) (i j : Nat) : List Int := (rowsI n ms i).filter fun m => (List.range j).all fun d => agr ms i (i + d) m
theorem rowsI_end (n : Nat) (ms : List Int) : rowsI n ms n = reachM n ms := rfl
theorem rowsI_zero (n : Nat) (ms : List Int) : rowsI n ms 0 = rangeI (2 ^ n) := List.filter_eq_self.mpr fun _ _ => rfl
theorem rowsJ_zero (n : Nat) (ms : List Int) (i : Nat) : rowsJ n ms i 0 = rowsI n ms i := List.filter_eq_self.mpr fun _ _ => rfl
theorem rowsJ_up (n : Nat) (ms : List Int) (i j : Nat) : (rowsJ n ms i j).filter (fun m => agr ms i (i + j) m) = rowsJ n ms i (j + 1) := by
  unfold rowsJ
  rw [List.filter_filter]
  refine filt_congr fun m _ => ?_
  rw [List.range_succ, List.all_append, Bool.and_comm]
  show _ = (_ && (agr ms i (i + j) m && true))
  rw [Bool.and_true]
theorem rowsJ_end {n i : Nat} (ms : List Int) (h : i < n) : rowsJ n ms i (n - i) = rowsI n ms (i + 1) := by
  unfold rowsJ rowsI
  rw [List.filter_filter]
  refine filt_congr fun m _ => ?_
  rw [List.range_succ, List.all_append, Bool.and_comm]
  show _ = (_ && (((List.range n).all fun b => decide (b < i) || agr ms i b m) && true))
  rw [Bool.and_true]
  congr 1
  rw [Bool.eq_iff_iff, List.all_eq_true, List.all_eq_true]
  constructor
  · intro q b hb
    have hb' := List.mem_range.mp hb
    rw [Bool.or_eq_true, decide_eq_true_eq]
    rcases Nat.lt_or_ge b i with c | c
    · exact .inl c
    · refine .inr ?_
      have := q (b - i) (List.mem_range.mpr (by omega))
      rw [show i + (b - i) = b by omega] at this
      exact this
  · intro q d hd
    have hd' := List.mem_range.mp hd
    have := q (i + d) (List.mem_range.mpr (by omega))
    rw [Bool.or_eq_true, decide_eq_true_eq] at this
    rcases this with c | c
    · omega
    · exact c
theorem rows_len {n : Nat} {ms : List Int} {i j : Nat} (hn : n ≤ 6) : (rowsJ n ms i j).length ≤ 64 := by
  unfold rowsJ rowsI
  refine Nat.le_trans (List.length_filter_le _ _) (Nat.le_trans (List.length_filter_le _ _) ?_)
  unfold rangeI
  rw [List.length_map, List.length_range]
  exact lotsL_small (Nat.le_refl n) hn
theorem rows_pos {n : Nat} {ms : List Int} {i j : Nat} {m : Int} (h : m ∈ rowsJ n ms i j) : 0 ≤ m := (rangeI_mem.mp (List.mem_filter.mp (List.mem_filter.mp h).1).1).1
theorem rgV_eq (b : Nat) : rgV 0 (b : Int) = (rangeI b).map V.int := by
  unfold rgV rangeI
  rw [List.map_map, show ((b : Int) - 0).toNat = b by omega]
  refine List.map_congr_left fun i _ => ?_
  show V.int (0 + (i : Int)) = V.int (i : Int)
  rw [Int.zero_add]
/-! pairs in their sequence -/
def rowG (b : Bar) (i : Nat) : List Bar := match b[i]? with
  | some x => (b.drop (i + 1)).map fun y => [x, y]
  | none => []
theorem pairs_suf : ∀ (suf pre b : Bar), b = pre ++ suf → UpB b → suf.flatMap (pairsAt b) = tl (fun x r => r.map fun y => [x, y]) suf
  | [], _, _, _, _ => rfl
  | x :: r, pre, b, e, hb => by
    have ih := pairs_suf r (pre ++ [x]) b (by rw [e, List.append_assoc]; rfl) hb
    have hb' := hb
    unfold UpB at hb'
    rw [e, List.pairwise_append, List.pairwise_cons] at hb'
    obtain ⟨hp, ⟨hx, hr⟩, hc⟩ := hb'
    rw [List.flatMap_cons, ih]
    show _ = (r.map fun y => [x, y]) ++ tl _ r
    congr 1
    unfold pairsAt
    congr 1
    rw [e, List.filter_append, List.filter_cons, if_neg (by rw [decide_eq_true_eq]; omega), filter_none (f := fun high : Sgn => decide (x.1 < high.1)) (l := pre) fun y hy => decide_eq_false (by have := hc y hy x List.mem_cons_self; omega), List.nil_append]
    exact List.filter_eq_self.mpr fun y hy => decide_eq_true (hx y hy)
theorem pairsB_rows {b : Bar} (hb : UpB b) : pairsB b = (List.range b.length).flatMap (rowG b) := by
  unfold pairsB
  rw [pairs_suf b [] b rfl hb, ← tl_range]
  refine flat_congr fun i _ => ?_
  unfold rowG
  cases b[i]? <;> rfl
theorem find_at {α : Type} {p : α → Bool} {x : α} : ∀ {pre post : List α}, (∀ g ∈ pre, p g = false) → p x = true → (pre ++ x :: post).find? p = some x
  | [], _, _, h => by rw [List.nil_append, List.find?_cons, h]
  | y :: pre, post, hp, h => by
    rw [List.cons_append, List.find?_cons, hp y List.mem_cons_self]
    exact find_at (fun g hg => hp g (List.mem_cons_of_mem _ hg)) h
theorem split_at {α : Type} {l : List α} {i : Nat} {x : α} (h : l[i]? = some x) : l = l.take i ++ x :: l.drop (i + 1) := by
  obtain ⟨h1, h2⟩ := List.getElem?_eq_some_iff.mp h
  rw [← h2, List.getElem_cons_drop, List.take_append_drop]
theorem range_split {i n : Nat} (h : i < n) : List.range n = List.range i ++ i :: (List.range (n - i - 1)).map (fun k => i + 1 + k) := by
  have e : n = i + (1 + (n - i - 1)) := by omega
  conv => lhs; rw [e, List.range_add]
  congr 1
  rw [Nat.add_comm 1, List.range_succ_eq_map, List.map_cons, List.map_map, Nat.add_zero]
  congr 1
  refine List.map_congr_left fun k _ => ?_
  show i + (k + 1) = i + 1 + k
  omega
theorem due_one {ms : List Int} {b : Bar} {i : Nat} {s : Sgn} (hi : b[i]? = some s) (hp : ∀ t ∈ b.take i, canM ms [t] = true) (h : canM ms [s] = false) : dueM ms b = some [s] := by
  unfold dueM groupsB
  have e : b.map (fun s => [s]) = ((b.take i).map fun s => [s]) ++ [s] :: ((b.drop (i + 1)).map fun s => [s]) := by
    conv => lhs; rw [split_at hi]
    rw [List.map_append, List.map_cons]
  rw [e, List.append_assoc, List.cons_append]
  refine find_at (fun g hg => ?_) (by rw [h]; rfl)
  obtain ⟨t, ht, rfl⟩ := List.mem_map.mp hg
  rw [hp t ht]
  rfl
theorem due_two {ms : List Int} {b : Bar} (ub : UpB b) {i j : Nat} {s t : Sgn} (hi : b[i]? = some s) (hj : (b.drop (i + 1))[j]? = some t) (h1 : ∀ t ∈ b, canM ms [t] = true) (h2 : ∀ g ∈ (List.range i).flatMap (rowG b), canM ms g = true) (h3 : ∀ u ∈ (b.drop (i + 1)).take j, canM ms [s, u] = true) (h : canM ms [s, t] = false) : dueM ms b = some [s, t] := by
  unfold dueM groupsB
  rw [pairsB_rows ub, range_split (List.getElem?_eq_some_iff.mp hi).1, List.flatMap_append, List.flatMap_cons]
  have er : rowG b i = (((b.drop (i + 1)).take j).map fun y => [s, y]) ++ [s, t] :: ((((b.drop (i + 1)).drop (j + 1))).map fun y => [s, y]) := by
    unfold rowG
    rw [hi]
    show (b.drop (i + 1)).map _ = _
    conv => lhs; rw [split_at hj]
    rw [List.map_append, List.map_cons]
  rw [er, List.append_assoc, List.cons_append, ← List.append_assoc, ← List.append_assoc]
  refine find_at (fun g hg => ?_) (by rw [h]; rfl)
  rcases List.mem_append.mp hg with hg | hg
  · rcases List.mem_append.mp hg with hg | hg
    · obtain ⟨u, hu, rfl⟩ := List.mem_map.mp hg
      rw [h1 u hu]
      rfl
    · rw [h2 g hg]
      rfl
  · obtain ⟨u, hu, rfl⟩ := List.mem_map.mp hg
    rw [h3 u hu]
    rfl
theorem due_no {ms : List Int} {b : Bar} (ub : UpB b) (h1 : ∀ t ∈ b, canM ms [t] = true) (h2 : ∀ g ∈ (List.range b.length).flatMap (rowG b), canM ms g = true) : dueM ms b = none := by
  unfold dueM groupsB
  rw [pairsB_rows ub, List.find?_eq_none]
  intro g hg
  rcases List.mem_append.mp hg with hg | hg
  · obtain ⟨u, hu, rfl⟩ := List.mem_map.mp hg
    rw [h1 u hu]
    decide
  · rw [h2 g hg]
    decide
theorem fit_nil (ms : List Int) (g : Bar) : decide ((ms.filter fun m => g.all (met m)) = []) = !canM ms g := by
  unfold canM
  rw [Bool.eq_iff_iff, decide_eq_true_eq, Bool.not_eq_true', List.any_eq_false, List.filter_eq_nil_iff]
section
variable {P : Program} {w : World} {K : PySem.W.Frag} {mg : Str → Option Value} {base : Heap} {C N : Addr}
/-! _law_reached -/
abbrev NRE : List Str := ["masks", "wide", "row", "one", "two", "pair", "seen", "held", "mask"]
def spReached : Sp := fun vs H Q _ => ∃ (G : Hp) (l : List (Addr × HO)) (a : Addr) (n : Nat) (ms : List Int), vs = [.ref a, .int n] ∧ Has G H l ∧ G a = some (.lst (ms.map V.int)) ∧ masksOk n ms ∧ 0 < n ∧ n ≤ 6 ∧
  ∀ (H' : Hp) (t : Addr), Has G H' ((t, .lst ((reachM n ms).map V.int)) :: l) → Q (.ref t) H'
/-! _law_clash_due -/
abbrev NCD : List Str := ["masks", "told", "sign", "one", "two"]
def spClashDue : Sp := fun vs H Q _ => ∃ (G : Hp) (l : List (Addr × HO)) (a : Addr) (ms : List Int) (v : V) (b : Bar), vs = [.ref a, v] ∧ Has G H l ∧ G a = some (.lst (ms.map V.int)) ∧ ms.length ≤ 1000 ∧ At G v (dBar b) ∧ b.length ≤ 100 ∧ UpB b ∧
  ∀ (G' H' : Hp) (x : V), Ex G G' → Has G' H' l → At G' x (dOpt (dueM ms b)) → Q x H'
/-! _law_not_closed -/
abbrev NNC : List Str := ["book", "told", "refused"]
def spNotClosed (C : Addr) : Sp := fun vs H Q _ => ∃ (G : Hp) (l : List (Addr × HO)) (a : Addr) (n : Nat) (L : Lots) (ms : List Int) (v : V) (b : Bar), vs = [.ref a, v] ∧ Has G H l ∧ TabAt C G a n L ∧ TabOf n ms L ∧ masksOk n ms ∧ 0 < n ∧ n ≤ 6 ∧ At G v (dBar b) ∧ partP n b ∧ ∀ H' : Hp, Has G H' l → Q (.bl (!shutB n ms)) H'
end
end TW
set_option Elab.async false
set_option linter.all false
set_option maxRecDepth 100000
set_option maxHeartbeats 4000000
namespace TW
open PySem PySem.Spec PyProof.Rows L2
/-! middles of masks -/
abbrev Tri := Int × Int × Int
def mj (n : Nat) (a b c : Int) : Int := (maskN (maj a b c) n : Int)
def mjT (n : Nat) (s : Tri) : Int := mj n s.1 s.2.1 s.2.2
def Rg (n : Nat) (m : Int) : Prop := 0 ≤ m ∧ m < 2 ^ n
theorem mj_rg (n : Nat) (a b c : Int) : Rg n (mj n a b c) := by
  have h := maskN_lt (maj a b c) n
  refine ⟨Int.natCast_nonneg _, ?_⟩
  unfold mj
  exact_mod_cast h
theorem mj_bit {n : Nat} {a b c : Int} {k : Nat} (h : k < n) : bitB (mj n a b c) k = maj a b c k := maskN_bit _ n k h
theorem mj_two {n : Nat} {a b c : Int} {k : Nat} {v : Bool} (h : k < n) (q : (bitB a k = v ∧ bitB b k = v) ∨ (bitB a k = v ∧ bitB c k = v) ∨ (bitB b k = v ∧ bitB c k = v)) : bitB (mj n a b c) k = v := by
  rw [mj_bit h]
  unfold maj
  rcases q with ⟨h1, h2⟩ | ⟨h1, h2⟩ | ⟨h1, h2⟩ <;> rw [h1, h2]
  · cases v <;> cases bitB c k <;> rfl
  · cases v <;> cases bitB b k <;> rfl
  · cases v <;> cases bitB a k <;> rfl
/-- closed by middles: closed by pairs -/
theorem bp_like {n : Nat} {ms : List Int} {m : Int} (cl : ∀ a ∈ ms, ∀ b ∈ ms, ∀ c ∈ ms, mj n a b c ∈ ms) (ne : ms ≠ []) (h : Rch n ms m) : ∀ (k : Nat) (ts : List Nat), ts.length ≤ k → (∀ t ∈ ts, t < n) → ∃ x ∈ ms, ∀ t ∈ ts, bitB x t = bitB m t
  | _, [], _, _ => by
    obtain ⟨x, hx⟩ := List.exists_mem_of_ne_nil ms ne
    exact ⟨x, hx, fun t ht => absurd ht List.not_mem_nil⟩
  | _, [i], _, ht => by
    obtain ⟨x, hx, q, _⟩ := h i (ht i List.mem_cons_self) i (ht i List.mem_cons_self)
    exact ⟨x, hx, fun t h => by rw [List.mem_singleton.mp h]; exact q⟩
  | _, [i, j], _, ht => by
    obtain ⟨x, hx, q1, q2⟩ := h i (ht i List.mem_cons_self) j (ht j (List.mem_cons_of_mem _ List.mem_cons_self))
    exact ⟨x, hx, fun t h => by
      simp only [List.mem_cons, List.not_mem_nil, or_false] at h
      rcases h with rfl | rfl
      · exact q1
      · exact q2⟩
  | 0, _ :: _ :: _ :: _, hl, _ => by simp at hl
  | k + 1, i :: j :: l :: r, hl, ht => by
    have len : ∀ a b : Nat, (a :: b :: r).length ≤ k := fun a b => by
      simp only [List.length_cons] at hl ⊢
      omega
    obtain ⟨x, hx, qx⟩ := bp_like cl ne h k (j :: l :: r) (len _ _) fun t h => ht t (List.mem_cons_of_mem _ h)
    obtain ⟨y, hy, qy⟩ := bp_like cl ne h k (i :: l :: r) (len _ _) fun t h => ht t (by
      rcases List.mem_cons.mp h with rfl | h
      · exact List.mem_cons_self
      · exact List.mem_cons_of_mem _ (List.mem_cons_of_mem _ h))
    obtain ⟨z, hz, qz⟩ := bp_like cl ne h k (i :: j :: r) (len _ _) fun t h => ht t (by
      rcases List.mem_cons.mp h with rfl | h
      · exact List.mem_cons_self
      · rcases List.mem_cons.mp h with rfl | h
        · exact List.mem_cons_of_mem _ List.mem_cons_self
        · exact List.mem_cons_of_mem _ (List.mem_cons_of_mem _ (List.mem_cons_of_mem _ h)))
    refine ⟨_, cl x hx y hy z hz, fun t h => ?_⟩
    refine mj_two (ht t h) ?_
    rcases List.mem_cons.mp h with rfl | h
    · exact .inr (.inr ⟨qy _ List.mem_cons_self, qz _ List.mem_cons_self⟩)
    · rcases List.mem_cons.mp h with rfl | h
      · exact .inr (.inl ⟨qx _ List.mem_cons_self, qz _ (List.mem_cons_of_mem _ List.mem_cons_self)⟩)
      · rcases List.mem_cons.mp h with rfl | h
        · exact .inl ⟨qx _ (List.mem_cons_of_mem _ List.mem_cons_self), qy _ (List.mem_cons_of_mem _ List.mem_cons_self)⟩
        · exact .inl ⟨qx _ (List.mem_cons_of_mem _ (List.mem_cons_of_mem _ h)), qy _ (List.mem_cons_of_mem _ (List.mem_cons_of_mem _ h))⟩
theorem rg_eq {n : Nat} {a b : Int} (ha : Rg n a) (hb : Rg n b) (h : ∀ k, k < n → bitB a k = bitB b k) : a = b := bits_inj n a b ha.1 ha.2 hb.1 hb.2 fun k hk => by
  have q := h k hk
  unfold bitB at q
  rw [decide_eq_decide] at q
  have e1 := Int.emod_two_eq (a / 2 ^ k)
  have e2 := Int.emod_two_eq (b / 2 ^ k)
  generalize a / 2 ^ k % 2 = x at q e1 ⊢
  generalize b / 2 ^ k % 2 = y at q e2 ⊢
  omega
theorem bp {n : Nat} {ms : List Int} (hm : masksOk n ms) : (∀ a ∈ ms, ∀ b ∈ ms, ∀ c ∈ ms, mj n a b c ∈ ms) ↔ reachM n ms = ms := by
  constructor
  · intro cl
    refine up_ext (reach_ok hm).1 hm.1 fun z => ⟨fun hz => ?_, fun hz => reach_sub hm hz⟩
    obtain ⟨hr, h⟩ := mem_reach.mp hz
    obtain ⟨x, hx, q⟩ := bp_like cl hm.2.1 h n (List.range n) (by rw [List.length_range]; exact Nat.le_refl _) fun t ht => List.mem_range.mp ht
    have := rg_eq (n := n) (hm.2.2 x hx) hr fun k hk => q k (List.mem_range.mpr hk)
    rw [← this]
    exact hx
  · intro e a ha b hb c hc
    have up : ∀ x ∈ ms, Rch n ms x := fun x hx => (mem_reach.mp (by rw [e]; exact hx)).2
    rw [← e]
    exact mem_reach.mpr ⟨mj_rg n a b c, maj_rch (up a ha) (up b hb) (up c hc)⟩
/-! steps -/
def okT (n : Nat) : List Int → List Tri → Prop
  | _, [] => True
  | T, s :: S => (s.1 ∈ T ∧ s.2.1 ∈ T ∧ s.2.2 ∈ T) ∧ mjT n s ∉ T ∧ okT n (T ++ [mjT n s]) S
theorem okT_snoc {n : Nat} : ∀ {S : List Tri} {T : List Int} {s : Tri}, okT n T S → (s.1 ∈ T ++ S.map (mjT n) ∧ s.2.1 ∈ T ++ S.map (mjT n) ∧ s.2.2 ∈ T ++ S.map (mjT n)) → mjT n s ∉ T ++ S.map (mjT n) → okT n T (S ++ [s])
  | [], T, s, _, h1, h2 => by
    rw [List.map_nil, List.append_nil] at h1 h2
    exact ⟨h1, h2, trivial⟩
  | r :: S, T, s, h, h1, h2 => by
    have e : T ++ (r :: S).map (mjT n) = (T ++ [mjT n r]) ++ S.map (mjT n) := by simp
    rw [e] at h1 h2
    exact ⟨h.1, h.2.1, okT_snoc h.2.2 h1 h2⟩
theorem okT_nodup {n : Nat} : ∀ {S : List Tri} {T : List Int}, T.Nodup → okT n T S → (T ++ S.map (mjT n)).Nodup
  | [], T, nd, _ => by rw [List.map_nil, List.append_nil]; exact nd
  | r :: S, T, nd, h => by
    have e : T ++ (r :: S).map (mjT n) = (T ++ [mjT n r]) ++ S.map (mjT n) := by simp
    rw [e]
    refine okT_nodup (List.nodup_append.mpr ⟨nd, by simp, fun a ha b hb e => ?_⟩) h.2.2
    rw [List.mem_singleton.mp hb] at e
    subst e
    exact h.2.1 ha
theorem okT_rg {n : Nat} {S : List Tri} {T : List Int} (hT : ∀ m ∈ T, Rg n m) : ∀ m ∈ T ++ S.map (mjT n), Rg n m := fun m hm => by
  rcases List.mem_append.mp hm with h | h
  · exact hT m h
  · obtain ⟨s, _, rfl⟩ := List.mem_map.mp h
    exact mj_rg n _ _ _
theorem made_len {n : Nat} {S : List Tri} {T : List Int} (nd : T.Nodup) (hT : ∀ m ∈ T, Rg n m) (h : okT n T S) : (T ++ S.map (mjT n)).length ≤ 2 ^ n := by
  have h2 := nodup_lenI (ys := rangeI (2 ^ n)) (okT_nodup nd h) fun x hx => by
    obtain ⟨h1, h2⟩ := okT_rg hT x hx
    unfold rangeI
    refine List.mem_map.mpr ⟨x.toNat, List.mem_range.mpr ?_, by omega⟩
    have : ((2 ^ n : Nat) : Int) = 2 ^ n := by push_cast; rfl
    omega
  unfold rangeI at h2
  rw [List.length_map, List.length_range] at h2
  exact h2
theorem okT_mem {n : Nat} : ∀ {S : List Tri} {T : List Int}, okT n T S → ∀ s ∈ S, s.1 ∈ T ++ S.map (mjT n) ∧ s.2.1 ∈ T ++ S.map (mjT n) ∧ s.2.2 ∈ T ++ S.map (mjT n)
  | [], _, _, s, hs => absurd hs List.not_mem_nil
  | r :: S, T, h, s, hs => by
    have e : T ++ (r :: S).map (mjT n) = (T ++ [mjT n r]) ++ S.map (mjT n) := by simp
    rcases List.mem_cons.mp hs with rfl | hs
    · exact ⟨List.mem_append_left _ h.1.1, List.mem_append_left _ h.1.2.1, List.mem_append_left _ h.1.2.2⟩
    · rw [e]
      exact okT_mem h.2.2 s hs
/-- the needed steps, what is wanted -/
def nd (n : Nat) (g : Int) : List Tri → List Tri × List Int
  | [] => ([], [g])
  | s :: S => if mjT n s ∈ (nd n g S).2 then (s :: (nd n g S).1, (nd n g S).2 ++ [s.1, s.2.1, s.2.2]) else nd n g S
theorem nd_cons (n : Nat) (g : Int) (s : Tri) (S : List Tri) : nd n g (s :: S) = if mjT n s ∈ (nd n g S).2 then (s :: (nd n g S).1, (nd n g S).2 ++ [s.1, s.2.1, s.2.2]) else nd n g S := rfl
theorem nd_want {n : Nat} {g : Int} : ∀ {S : List Tri}, g ∈ (nd n g S).2 ∧ ∀ s ∈ (nd n g S).1, s.1 ∈ (nd n g S).2 ∧ s.2.1 ∈ (nd n g S).2 ∧ s.2.2 ∈ (nd n g S).2
  | [] => ⟨List.mem_cons_self, fun s hs => absurd hs List.not_mem_nil⟩
  | r :: S => by
    obtain ⟨h1, h2⟩ := nd_want (n := n) (g := g) (S := S)
    rw [nd_cons]
    split
    · refine ⟨List.mem_append_left _ h1, fun s hs => ?_⟩
      rcases List.mem_cons.mp hs with rfl | hs
      · exact ⟨List.mem_append_right _ (by simp), List.mem_append_right _ (by simp), List.mem_append_right _ (by simp)⟩
      · obtain ⟨a, b, c⟩ := h2 s hs
        exact ⟨List.mem_append_left _ a, List.mem_append_left _ b, List.mem_append_left _ c⟩
    · exact ⟨h1, h2⟩
theorem nd_ne {n : Nat} {g : Int} : ∀ {S : List Tri}, g ∈ S.map (mjT n) → (nd n g S).1 ≠ []
  | [], h => absurd h List.not_mem_nil
  | r :: S, h => by
    rw [nd_cons]
    split
    · exact List.cons_ne_nil _ _
    · rename_i c
      rw [List.map_cons, List.mem_cons] at h
      rcases h with h | h
      · rw [← h] at c
        exact absurd nd_want.1 c
      · exact nd_ne h
theorem nd_head {n : Nat} {g : Int} : ∀ {S : List Tri} {T : List Int} {h : Tri} {N : List Tri}, okT n T S → (nd n g S).1 = h :: N → (h.1 ∈ T ∧ h.2.1 ∈ T ∧ h.2.2 ∈ T) ∧ mjT n h ∉ T
  | [], _, _, _, _, e => by cases e
  | r :: S, T, h, N, ok, e => by
    rw [nd_cons] at e
    split at e
    · cases e
      exact ⟨ok.1, ok.2.1⟩
    · rename_i c
      obtain ⟨⟨a1, a2, a3⟩, a4⟩ := nd_head ok.2.2 e
      obtain ⟨w1, w2, w3⟩ := (nd_want (n := n) (g := g) (S := S)).2 h (by rw [e]; exact List.mem_cons_self)
      have low : ∀ {x : Int}, x ∈ T ++ [mjT n r] → x ∈ (nd n g S).2 → x ∈ T := fun {x} hx hw => by
        rcases List.mem_append.mp hx with hx | hx
        · exact hx
        · rw [List.mem_singleton.mp hx] at hw
          exact absurd hw c
      exact ⟨⟨low a1 w1, low a2 w2, low a3 w3⟩, fun q => a4 (List.mem_append_left _ q)⟩
theorem nd_len {n : Nat} {g : Int} : ∀ {S : List Tri}, (nd n g S).1.length ≤ S.length ∧ (nd n g S).2.length ≤ 3 * S.length + 1
  | [] => ⟨Nat.le_refl _, Nat.le_refl _⟩
  | r :: S => by
    obtain ⟨h1, h2⟩ := nd_len (n := n) (g := g) (S := S)
    rw [nd_cons]
    split
    · refine ⟨by simp only [List.length_cons]; omega, ?_⟩
      rw [List.length_append]
      simp only [List.length_cons, List.length_nil]
      omega
    · refine ⟨by simp only [List.length_cons]; omega, by simp only [List.length_cons]; omega⟩
/-- the middle of lots -/
theorem mid_lot {n : Nat} {a b c : Int} {zs : List Int} (hz : Up zs) (h : ∀ z, z ∈ zs ↔ (z ∈ lotOf a n ∧ z ∈ lotOf b n) ∨ (z ∈ lotOf a n ∧ z ∈ lotOf c n) ∨ (z ∈ lotOf b n ∧ z ∈ lotOf c n)) : zs = lotOf (mj n a b c) n := by
  refine up_ext hz (lot_asc _ _) fun z => ?_
  rw [h, lot_mem, lot_mem, lot_mem, lot_mem]
  have inj : ∀ {k k' : Nat}, z = (k : Int) → z = (k' : Int) → k' = k := fun e1 e2 => by omega
  constructor
  · rintro (⟨⟨k, h1, h2, h3⟩, ⟨k', h4, h5, h6⟩⟩ | ⟨⟨k, h1, h2, h3⟩, ⟨k', h4, h5, h6⟩⟩ | ⟨⟨k, h1, h2, h3⟩, ⟨k', h4, h5, h6⟩⟩) <;> obtain rfl := inj h3 h6 <;> refine ⟨k', h1, mj_two h1 ?_, h3⟩
    · exact .inl ⟨h2, h5⟩
    · exact .inr (.inl ⟨h2, h5⟩)
    · exact .inr (.inr ⟨h2, h5⟩)
  · rintro ⟨k, h1, h2, h3⟩
    rw [mj_bit h1] at h2
    unfold maj at h2
    simp only [Bool.or_eq_true, Bool.and_eq_true] at h2
    rcases h2 with (⟨p, q⟩ | ⟨p, q⟩) | ⟨p, q⟩
    · exact .inl ⟨⟨k, h1, p, h3⟩, ⟨k, h1, q, h3⟩⟩
    · exact .inr (.inl ⟨⟨k, h1, p, h3⟩, ⟨k, h1, q, h3⟩⟩)
    · exact .inr (.inr ⟨⟨k, h1, p, h3⟩, ⟨k, h1, q, h3⟩⟩)
/-- one & two | one & three | two & three -/
def majI (a b c : Int) : Int := Builtin.bitOr (Builtin.bitOr (Builtin.bitAnd a b) (Builtin.bitAnd a c)) (Builtin.bitAnd b c)
theorem majI_eq {n : Nat} {a b c : Int} (ha : Rg n a) (hb : Rg n b) (hc : Rg n c) : majI a b c = mj n a b c := by
  obtain ⟨a, rfl⟩ := Int.eq_ofNat_of_zero_le ha.1
  obtain ⟨b, rfl⟩ := Int.eq_ofNat_of_zero_le hb.1
  obtain ⟨c, rfl⟩ := Int.eq_ofNat_of_zero_le hc.1
  have lt : ∀ {x : Nat}, Rg n (x : Int) → x < 2 ^ n := fun {x} h => by
    have := h.2
    exact_mod_cast this
  have e : majI (a : Int) (b : Int) (c : Int) = (((a &&& b) ||| (a &&& c) ||| (b &&& c) : Nat) : Int) := by
    unfold majI
    rw [bitAnd_pp (by omega) (by omega), bitAnd_pp (by omega) (by omega), bitAnd_pp (by omega) (by omega), Int.toNat_natCast, Int.toNat_natCast, Int.toNat_natCast, bor, bor]
  rw [e]
  refine rg_eq ⟨Int.natCast_nonneg _, ?_⟩ (mj_rg n _ _ _) fun k hk => ?_
  · have : ((a &&& b) ||| (a &&& c) ||| (b &&& c)) < 2 ^ n := Nat.or_lt_two_pow (Nat.or_lt_two_pow (Nat.and_lt_two_pow _ (lt hb)) (Nat.and_lt_two_pow _ (lt hc))) (Nat.and_lt_two_pow _ (lt hc))
    exact_mod_cast this
  · rw [mj_bit hk]
    unfold maj
    rw [bit_test, bit_test, bit_test, bit_test, Nat.testBit_or, Nat.testBit_or, Nat.testBit_and, Nat.testBit_and, Nat.testBit_and]
end TW
set_option Elab.async false
set_option linter.all false
set_option maxRecDepth 100000
set_option maxHeartbeats 4000000
namespace TW
open PySem PySem.Spec PyProof.Rows L2
def lotD (n : Nat) (m : Int) : PyData := tupD (lotOf m n)
def stD (n : Nat) (s : Tri) : PyData := .tuple [lotD n s.1, lotD n s.2.1, lotD n s.2.2]
theorem eqvAll_ints : ∀ xs ys : List Int, PyData.eqvAll (xs.map .int) (ys.map .int) = decide (xs = ys)
  | [], [] => rfl
  | [], _ :: _ => rfl
  | _ :: _, [] => rfl
  | x :: xs, y :: ys => by
    have e : PyData.eqvAll ((x :: xs).map .int) ((y :: ys).map .int) = (x == y && PyData.eqvAll (xs.map .int) (ys.map .int)) := rfl
    rw [e, eqvAll_ints xs ys, Bool.eq_iff_iff, Bool.and_eq_true, beq_iff_eq, decide_eq_true_eq, decide_eq_true_eq, List.cons.injEq]
theorem eqv_tupD (xs ys : List Int) : PyData.eqv (tupD xs) (tupD ys) = decide (xs = ys) := eqvAll_ints xs ys
theorem eqv_lot {n : Nat} {a b : Int} (ha : Rg n a) (hb : Rg n b) : PyData.eqv (lotD n a) (lotD n b) = decide (a = b) := by
  unfold lotD
  rw [eqv_tupD, Bool.eq_iff_iff, decide_eq_true_eq, decide_eq_true_eq]
  exact ⟨fun e => lot_inj ha.1 ha.2 hb.1 hb.2 e, fun e => by rw [e]⟩
theorem any_lot {n : Nat} {ms : List Int} {m : Int} (h : ∀ x ∈ ms, Rg n x) (hm : Rg n m) : ((ms.map (lotD n)).any fun z => PyData.eqv z (lotD n m)) = decide (m ∈ ms) := by
  rw [List.any_map, Bool.eq_iff_iff, List.any_eq_true, decide_eq_true_eq]
  constructor
  · rintro ⟨x, hx, e⟩
    have e' : PyData.eqv (lotD n x) (lotD n m) = true := e
    rw [eqv_lot (h x hx) hm, decide_eq_true_eq] at e'
    rw [← e']
    exact hx
  · intro hx
    refine ⟨m, hx, ?_⟩
    show PyData.eqv (lotD n m) (lotD n m) = true
    rw [eqv_lot hm hm, decide_eq_true_eq]
theorem shaped_lot (n : Nat) (m : Int) : SeqAt.shaped (lotD n m) = true := by
  unfold SeqAt.shaped lotD
  rw [Bool.and_eq_true, decide_eq_true_eq]
  refine ⟨lay_ints (lotOf m n), ?_⟩
  have := depth_tupD (lotOf m n)
  omega
theorem lay_lots : ∀ {ds : List PyData}, (∀ d ∈ ds, ∃ l, d = tupD l) → PyData.canLayAll0 ds = true
  | [], _ => rfl
  | d :: ds, h => by
    obtain ⟨l, rfl⟩ := h d List.mem_cons_self
    show (PyData.canLay0 (tupD l) && PyData.canLayAll0 ds) = true
    rw [lay_lots fun e he => h e (List.mem_cons_of_mem _ he), Bool.and_true]
    exact lay_ints l
theorem shaped_lotsL (n : Nat) (ms : List Int) : SeqAt.shaped (.list (ms.map (lotD n))) = true := by
  unfold SeqAt.shaped
  rw [Bool.and_eq_true, decide_eq_true_eq]
  refine ⟨lay_lots fun d hd => ?_, ?_⟩
  · obtain ⟨m, _, rfl⟩ := List.mem_map.mp hd
    exact ⟨_, rfl⟩
  · have := depth_all (n := 1) (ds := ms.map (lotD n)) fun d hd => by
      obtain ⟨m, _, rfl⟩ := List.mem_map.mp hd
      exact depth_tupD _
    simp only [PyData.depth]
    omega
theorem pow_le64 {n : Nat} (h : n ≤ 6) : 2 ^ n ≤ 64 := Nat.pow_le_pow_right (by decide) h
theorem lot_has {n : Nat} {m : Int} {k : Nat} (hk : k < n) : decide ((k : Int) ∈ lotOf m n) = bitB m k := by
  rw [Bool.eq_iff_iff, decide_eq_true_eq, lot_mem]
  constructor
  · rintro ⟨k', h1, h2, h3⟩
    have : k' = k := by omega
    rw [← this]
    exact h2
  · intro h
    exact ⟨k, hk, h, rfl⟩
section
variable {X : Cx} {K : PySem.W.Frag}
theorem sl_listK (h : X.K = K := by rfl) : SlR X (rSlL K) := by
  subst h
  exact sl_list
end
section
variable {P : Program} {w : World} {K : PySem.W.Frag} {mg : Str → Option Value} {base : Heap} {C N NC : Addr}
def spLike (K : PySem.W.Frag) : Sp := fun vs H Q _ => ∃ (u v : V) (t : Addr) (n : Nat) (a b : Int) (ts : List Nat), vs = [u, v, .ref t] ∧ At H u (lotD n a) ∧ At H v (lotD n b) ∧ SqL K H t (ts.map fun k => V.int (k : Nat)) ∧ (∀ k ∈ ts, k < n) ∧ Q (.bl (ts.all fun k => bitB a k == bitB b k)) H
/-! _made_like -/
abbrev NMK : List Str := ["made", "steps", "lot", "things", "other", "without", "step", "found", "k", "fewer"]
def mdM (n : Nat) (T : List Int) (S : List Tri) : List Int := T ++ S.map (mjT n)
def likeP (g : Int) (ts : List Nat) (m : Int) : Bool := ts.all fun k => bitB m k == bitB g k
def seqF (F : List Tri → List Nat → List Tri × Int) (S : List Tri) (ts : List Nat) : Nat → List Tri × List Int
  | 0 => (S, [])
  | i + 1 => ((F (seqF F S ts i).1 (ts.eraseIdx i)).1, (seqF F S ts i).2 ++ [(F (seqF F S ts i).1 (ts.eraseIdx i)).2])
def finF (n : Nat) (T : List Int) : List Tri × List Int → List Tri × Int
  | (S, [a, b, c]) => if mj n a b c ∈ mdM n T S then (S, mj n a b c) else (S ++ [(a, b, c)], mj n a b c)
  | (S, _) => (S, 0)
def mkF (n : Nat) (g : Int) (T : List Int) : Nat → List Tri → List Nat → List Tri × Int
  | 0, S, ts => match (mdM n T S).find? (likeP g ts) with
    | some m => (S, m)
    | none => (S, 0)
  | j + 1, S, ts => match (mdM n T S).find? (likeP g ts) with
    | some m => (S, m)
    | none => finF n T (seqF (mkF n g T j) S ts 3)
theorem mkF_found {n : Nat} {g : Int} {T : List Int} {S : List Tri} {ts : List Nat} {m : Int} (h : (mdM n T S).find? (likeP g ts) = some m) : ∀ j, mkF n g T j S ts = (S, m)
  | 0 => by unfold mkF; rw [h]
  | j + 1 => by unfold mkF; rw [h]
theorem mkF_none {n : Nat} {g : Int} {T : List Int} {S : List Tri} {ts : List Nat} {j : Nat} (h : (mdM n T S).find? (likeP g ts) = none) : mkF n g T (j + 1) S ts = finF n T (seqF (mkF n g T j) S ts 3) := by
  rw [mkF, h]
theorem find_atP {α : Type} {p : α → Bool} : ∀ {l : List α} {i : Nat} {m : α}, l[i]? = some m → p m = true → (∀ x ∈ l.take i, p x = false) → l.find? p = some m
  | [], i, m, h, _, _ => by simp at h
  | x :: l, 0, m, h, hp, _ => by
    cases h
    rw [List.find?_cons, hp]
  | x :: l, i + 1, m, h, hp, hn => by
    rw [List.find?_cons, hn x (by simp)]
    exact find_atP (i := i) h hp fun y hy => hn y (by rw [List.take_succ_cons]; exact List.mem_cons_of_mem _ hy)
theorem like_no {g m : Int} {ts : List Nat} (h : ∃ t ∈ ts, bitB m t ≠ bitB g t) : likeP g ts m = false := by
  obtain ⟨t, ht, ne⟩ := h
  cases e : likeP g ts m with
  | false => rfl
  | true => exact absurd (beq_iff_eq.mp (List.all_eq_true.mp e t ht)) ne
def spMadeLike (j : Nat) : Sp := fun vs H Q _ => ∃ (G : Hp) (l : List (Addr × HO)) (md st th : Addr) (u : V) (n : Nat) (T : List Int) (S : List Tri) (xs ys : List V) (g : Int) (ts : List Nat), vs = [.ref md, .ref st, u, .ref th] ∧ Has G H ((md, .lst xs) :: (st, .lst ys) :: l) ∧ Ats G xs ((mdM n T S).map (lotD n)) ∧ Ats G ys (S.map (stD n)) ∧
  n ≤ 6 ∧ T.Nodup ∧ (∀ m ∈ T, Rg n m) ∧ T ≠ [] ∧ okT n T S ∧ Rch n T g ∧ At G u (lotD n g) ∧ G th = some (.lst (ts.map fun k => V.int (k : Nat))) ∧ ts.length ≤ j + 2 ∧ ts.length ≤ 6 ∧ (∀ t ∈ ts, t < n) ∧
  ∀ (G' H' : Hp) (xs' ys' : List V) (S' : List Tri) (x : V) (m : Int), Ex G G' → Has G' H' ((md, .lst xs') :: (st, .lst ys') :: l) → Ats G' xs' ((mdM n T S').map (lotD n)) → Ats G' ys' (S'.map (stD n)) → okT n T S' → (∀ z ∈ mdM n T S, z ∈ mdM n T S') → m ∈ mdM n T S' → At G' x (lotD n m) → (∀ t ∈ ts, bitB m t = bitB g t) → mkF n g T j S ts = (S', m) → Q x H'
theorem drop_two {α : Type} (xs : List α) (k : Nat) : xs.take k ++ xs.drop (k + 1) = xs.eraseIdx k := by
  rw [List.eraseIdx_eq_take_drop_succ]
theorem cut_from {xs : List V} {r : Nat} (h : r ≤ xs.length) : cutV xs (some (r : Int)) none = xs.drop r := by
  unfold cutV
  rw [HT.sIx_nat, HT.sIx_none, Nat.min_eq_left h]
  exact List.take_of_length_le (by rw [List.length_drop]; exact Nat.le_refl _)
theorem rot3 {G H : Hp} {a b c : Addr × HO} {l : List (Addr × HO)} (h : Has G H (a :: b :: c :: l)) : Has G H (b :: c :: a :: l) := h.perm ((List.Perm.swap b a (c :: l)).trans (List.Perm.cons b (List.Perm.swap c a l)))
theorem rot3' {G H : Hp} {a b c : Addr × HO} {l : List (Addr × HO)} (h : Has G H (b :: c :: a :: l)) : Has G H (a :: b :: c :: l) := h.perm (((List.Perm.swap b a (c :: l)).trans (List.Perm.cons b (List.Perm.swap c a l))).symm)
theorem two_of {ts : List Nat} {n : Nat} {g m1 m2 m3 : Int} (htn : ∀ t ∈ ts, t < n) (h1 : ∀ t ∈ ts.eraseIdx 0, bitB m1 t = bitB g t) (h2 : ∀ t ∈ ts.eraseIdx 1, bitB m2 t = bitB g t) (h3 : ∀ t ∈ ts.eraseIdx 2, bitB m3 t = bitB g t) : ∀ t ∈ ts, bitB (mj n m1 m2 m3) t = bitB g t := fun t ht => by
  obtain ⟨p, hp⟩ := List.mem_iff_getElem?.mp ht
  have e : ∀ k, p ≠ k → t ∈ ts.eraseIdx k := fun k hk => List.mem_eraseIdx_iff_getElem?.mpr ⟨p, hk, hp⟩
  refine mj_two (htn t ht) ?_
  by_cases c0 : p = 0
  · exact .inr (.inr ⟨h2 t (e 1 (by omega)), h3 t (e 2 (by omega))⟩)
  · by_cases c1 : p = 1
    · exact .inr (.inl ⟨h1 t (e 0 c0), h3 t (e 2 (by omega))⟩)
    · exact .inl ⟨h1 t (e 0 c0), h2 t (e 1 c1)⟩
end
end TW
set_option Elab.async false
set_option linter.all false
set_option maxRecDepth 100000
set_option maxHeartbeats 4000000
namespace TW
open PySem PySem.Spec PyProof.Rows L2
theorem ats_rev {H : Hp} {xs : List V} {ds : List PyData} (h : Ats H xs ds) : Ats H xs.reverse ds.reverse := ⟨by rw [List.length_reverse, List.length_reverse, h.1], fun i x d h1 h2 => by
  have hi := (List.getElem?_eq_some_iff.mp h1).1
  have hj := (List.getElem?_eq_some_iff.mp h2).1
  rw [List.getElem?_reverse (by rw [List.length_reverse] at hi; exact hi)] at h1
  rw [List.getElem?_reverse (by rw [List.length_reverse] at hj; exact hj), ← h.1] at h2
  exact h.2 _ _ _ h1 h2⟩
theorem masks_of {α : Type} {f : Int → α} {ms : List Int} : ∀ {xs : List α}, (∀ x ∈ xs, ∃ m ∈ ms, x = f m) → ∃ T : List Int, xs = T.map f ∧ ∀ m ∈ T, m ∈ ms
  | [], _ => ⟨[], rfl, fun m h => absurd h List.not_mem_nil⟩
  | x :: xs, h => by
    obtain ⟨m, hm, e⟩ := h x List.mem_cons_self
    obtain ⟨T, e2, h2⟩ := masks_of (xs := xs) fun y hy => h y (List.mem_cons_of_mem _ hy)
    refine ⟨m :: T, by rw [e, e2]; rfl, fun z hz => ?_⟩
    rcases List.mem_cons.mp hz with rfl | hz
    · exact hm
    · exact h2 z hz
/-- the lots of a table as masks, in their order -/
theorem tab_masks {n : Nat} {ms : List Int} {L : Lots} (h : TabOf n ms L) (hr : ∀ m ∈ ms, Rg n m) : ∃ T : List Int, L.map (·.2) = T.map (fun m => lotOf m n) ∧ T.Nodup ∧ (∀ m, m ∈ T ↔ m ∈ ms) := by
  obtain ⟨T, e, h1⟩ := masks_of (f := fun m => lotOf m n) (ms := ms) (xs := L.map (·.2)) fun x hx => by
    obtain ⟨p, hp, rfl⟩ := List.mem_map.mp hx
    exact h.1 p hp
  refine ⟨T, e, ?_, fun m => ⟨h1 m, fun hm => ?_⟩⟩
  · have nd := h.2.2.1
    rw [e] at nd
    unfold List.Nodup at nd ⊢
    rw [List.pairwise_map] at nd
    exact nd.imp fun ne e => ne (by rw [e])
  · have := h.2.1 m hm
    rw [e] at this
    obtain ⟨m', hm', e'⟩ := List.mem_map.mp this
    have e2 : lotOf m' n = lotOf m n := e'
    have r1 := hr m hm
    have r2 := hr m' (h1 m' hm')
    rw [← lot_inj r2.1 r2.2 r1.1 r1.2 e2]
    exact hm'
theorem refs_ats {G : Hp} {L : Lots} {n : Nat} : ∀ {T : List Int}, InLots G L → L.map (·.2) = T.map (fun m => lotOf m n) → Ats G (refs L) (T.map (lotD n)) := by
  induction L with
  | nil =>
    intro T _ e
    cases T with
    | nil => exact .nil
    | cons t T => cases e
  | cons p L ih =>
    intro T h e
    cases T with
    | nil => cases e
    | cons t T =>
      rw [List.map_cons, List.map_cons, List.cons.injEq] at e
      refine .cons ?_ (ih (fun q hq => h q (List.mem_cons_of_mem _ hq)) e.2)
      have hp := h p List.mem_cons_self
      have e1 : p.2 = lotOf t n := e.1
      rw [e1] at hp
      exact at_lot hp
section
variable {X : Cx} {K : PySem.W.Frag}
theorem op_inDK (hu : X.A.units + 65 < cLine) (h : X.K = K := by rfl) : OpR X (compareOp .In) (rInD K) := by
  subst h
  exact op_inD hu
end
section
variable {P : Program} {w : World} {K : PySem.W.Frag} {mg : Str → Option Value} {base : Heap} {C N NC : Addr}
/-! _needed_steps -/
abbrev NND : List Str := ["steps", "lot", "wanted", "needed", "step"]
def spNeeded : Sp := fun vs H Q _ => ∃ (G : Hp) (l : List (Addr × HO)) (sa : Addr) (u : V) (n : Nat) (S : List Tri) (ys : List V) (g : Int), vs = [.ref sa, u] ∧ Has G H l ∧ G sa = some (.lst ys) ∧ Ats G ys (S.map (stD n)) ∧ n ≤ 6 ∧ (∀ s ∈ S, Rg n s.1 ∧ Rg n s.2.1 ∧ Rg n s.2.2) ∧ S.length ≤ 64 ∧ At G u (lotD n g) ∧ Rg n g ∧
  ∀ (G' H' : Hp) (t : Addr) (zs : List V), Ex G G' → Has G' H' ((t, .lst zs) :: l) → Ats G' zs ((nd n g S).1.map (stD n)) → Q (.ref t) H'
theorem nd_rg {n : Nat} {g : Int} (hg : Rg n g) : ∀ {S : List Tri}, (∀ s ∈ S, Rg n s.1 ∧ Rg n s.2.1 ∧ Rg n s.2.2) → ∀ m ∈ (nd n g S).2, Rg n m
  | [], _, m, hm => by rw [List.mem_singleton.mp hm]; exact hg
  | s :: S, h, m, hm => by
    have ih := nd_rg hg (S := S) fun t ht => h t (List.mem_cons_of_mem _ ht)
    rw [nd_cons] at hm
    split at hm
    · rcases List.mem_append.mp hm with hm | hm
      · exact ih m hm
      · obtain ⟨r1, r2, r3⟩ := h s List.mem_cons_self
        simp only [List.mem_cons, List.not_mem_nil, or_false] at hm
        rcases hm with rfl | rfl | rfl
        · exact r1
        · exact r2
        · exact r3
    · exact ih m hm
theorem drop_back {α : Type} {S : List α} {i : Nat} {s : α} (hi : i < S.length) (h : S[S.length - 1 - i]? = some s) : S.drop (S.length - (i + 1)) = s :: S.drop (S.length - i) := by
  have e : S.length - (i + 1) = S.length - 1 - i := by omega
  obtain ⟨h1, h2⟩ := List.getElem?_eq_some_iff.mp h
  rw [e, List.drop_eq_getElem_cons h1, h2]
  congr 2
  omega
theorem At.st {H : Hp} {v : V} {n : Nat} {s : Tri} (h : At H v (stD n s)) : ∃ r a1 a2 a3, v = .ref r ∧ H r = some (.tup [.ref a1, .ref a2, .ref a3]) ∧ H a1 = some (.tup ((lotOf s.1 n).map V.int)) ∧ H a2 = some (.tup ((lotOf s.2.1 n).map V.int)) ∧ H a3 = some (.tup ((lotOf s.2.2 n).map V.int)) ∧
    Ats H [.ref a1, .ref a2, .ref a3] [lotD n s.1, lotD n s.2.1, lotD n s.2.2] := by
  obtain ⟨r, zs, rfl, hr, hz⟩ := At.isT h
  obtain ⟨z1, hz1, az1⟩ := hz.at_ (i := 0) (d := lotD n s.1) rfl
  obtain ⟨z2, hz2, az2⟩ := hz.at_ (i := 1) (d := lotD n s.2.1) rfl
  obtain ⟨z3, hz3, az3⟩ := hz.at_ (i := 2) (d := lotD n s.2.2) rfl
  have lz3 : zs.length = 3 := by rw [hz.1]; rfl
  match zs, lz3, hz1, hz2, hz3, hr with
  | [y1, y2, y3], _, hz1, hz2, hz3, hr =>
    cases hz1
    cases hz2
    cases hz3
    obtain ⟨a1, rfl, h1⟩ := At.lot az1
    obtain ⟨a2, rfl, h2⟩ := At.lot az2
    obtain ⟨a3, rfl, h3⟩ := At.lot az3
    exact ⟨r, a1, a2, a3, rfl, hr, h1, h2, h3, hz⟩
theorem lot_lok (m : Int) {n : Nat} (hn : n ≤ 6) : lotOk (lotOf m n) := ⟨lot_asc m n, fun x hx => by
  obtain ⟨k, _, _, rfl⟩ := lot_mem.mp hx
  omega, by have := lot_len m n; omega⟩
theorem mid_is {n : Nat} {a b c : Int} {mf : List Int} (h : IsMid (lotOf a n) (lotOf b n) (lotOf c n) mf) : mf = lotOf (mj n a b c) n := mid_lot h.1 fun x => by
  rw [h.2]
  constructor
  · rintro (⟨q1, q2 | q2⟩ | ⟨q1, q2⟩)
    · exact .inl ⟨q1, q2⟩
    · exact .inr (.inl ⟨q1, q2⟩)
    · exact .inr (.inr ⟨q1, q2⟩)
  · rintro (⟨q1, q2⟩ | ⟨q1, q2⟩ | ⟨q1, q2⟩)
    · exact .inl ⟨q1, .inl q2⟩
    · exact .inl ⟨q1, .inr q2⟩
    · exact .inr ⟨q1, q2⟩
end
end TW
set_option Elab.async false
set_option linter.all false
set_option maxRecDepth 100000
set_option maxHeartbeats 1000000
namespace TW
open PySem PySem.Spec PyProof.Rows L2
def IsT (n : Nat) (ms T : List Int) : Prop := T.map (lotD n) = (ms.map (lotD n)).mergeSort dLe ∧ (∀ m ∈ T, Rg n m)
theorem mapD_inj {n : Nat} : ∀ {T U : List Int}, (∀ m ∈ T, Rg n m) → (∀ m ∈ U, Rg n m) → T.map (lotD n) = U.map (lotD n) → T = U
  | [], [], _, _, _ => rfl
  | [], _ :: _, _, _, e => by cases e
  | _ :: _, [], _, _, e => by cases e
  | a :: T, b :: U, h1, h2, e => by
    rw [List.map_cons, List.map_cons, List.cons.injEq] at e
    have ra := h1 a List.mem_cons_self
    have rb := h2 b List.mem_cons_self
    have e1 : PyData.eqv (lotD n a) (lotD n b) = true := by rw [e.1, eqv_lot rb rb, decide_eq_true rfl]
    rw [eqv_lot ra rb, decide_eq_true_eq] at e1
    rw [e1, mapD_inj (fun m h => h1 m (List.mem_cons_of_mem _ h)) (fun m h => h2 m (List.mem_cons_of_mem _ h)) e.2]
theorem IsT.one {n : Nat} {ms T U : List Int} (h : IsT n ms T) (h' : IsT n ms U) : T = U := mapD_inj h.2 h'.2 (h.1.trans h'.1.symm)
theorem isT_of {n : Nat} {ms : List Int} {L : Lots} {T : List Int} (h : TabOf n ms L) (hm : masksOk n ms) (e : L.map (·.2) = T.map (fun m => lotOf m n)) (hT : ∀ m, m ∈ T ↔ m ∈ ms) : IsT n ms T := by
  refine ⟨?_, fun m h => hm.2.2 m ((hT m).mp h)⟩
  have h1 := lots_told h hm
  rw [e, List.map_map] at h1
  exact h1.symm
def ansF (n : Nat) (T U : List Int) : Option Tri := ((U.filter fun m => !decide (m ∈ T)).head?).bind fun g => (nd n g (mkF n g T 4 [] (List.range n)).1).1.head?
def dTri (n : Nat) : Option Tri → PyData
  | none => .none
  | some s => stD n s
theorem shaped_lotsT (n : Nat) (ms : List Int) : SeqAt.shaped (.tuple (ms.map (lotD n))) = true := by
  have h := shaped_lotsL n ms
  unfold SeqAt.shaped at h ⊢
  have e : (PyData.tuple (ms.map (lotD n))).depth = (PyData.list (ms.map (lotD n))).depth := by simp [PyData.depth]
  rw [e]
  exact h
section
variable {P : Program} {w : World} {K : PySem.W.Frag} {mg : Str → Option Value} {base : Heap} {C N NC : Addr}
/-! Table.__contains__ -/
theorem sc_Table_contains : FnScope ["self", "value"] ["self", "value"] (defScope s_Table_contains) := ⟨rfl, rfl, rfl, by decide +kernel, rfl, by decide +kernel, by decide +kernel⟩
def spContains (C : Addr) : Sp := fun vs H Q _ => ∃ (a : Addr) (n : Nat) (L : Lots) (T : List Int) (v : V) (m : Int), vs = [.ref a, v] ∧ TabAt C H a n L ∧ L.map (·.2) = T.map (fun m => lotOf m n) ∧ (∀ m ∈ T, Rg n m) ∧ n ≤ 6 ∧ At H v (lotD n m) ∧ Rg n m ∧ ∀ H', Ex H H' → Q (.bl (decide (m ∈ T))) H'
theorem ok_contains {f : Addr} {fd : FuncData} (F : Fun K "__contains__" "Table.__contains__" s_Table_contains f fd) (T : TC K mg C) (O_is_lot : Ok P w K mg base 3 "is_lot" ["value", "things"] (spIsLot K)) : FnOk P w K mg base CX0 4 f fd ["self", "value"] (spContains C) := by
  refine F.ok sc_Table_contains (fun vs H Q E h => ?_) (fun cdv A outer sh H vs Q E hr h => ?_)
  · obtain ⟨a, n, L, U, v, m, rfl, _⟩ := h
    rfl
  · obtain ⟨a, n, L, U, v, m, rfl, ⟨dx, l, h1, h2, h3⟩, eU, rU, hn6, hv, rm, q⟩ := h
    have hu65 : (A.deeper (envOfC "Table.__contains__" (defScope s_Table_contains) sh.heap.objs.size f cdv)).units + 65 < cLine := by
      have := hr.un
      omega
    obtain ⟨pa, rfl, ha⟩ := At.lot hv
    refine ⟨_, (pss_one (ps_ret (pe_and (pe_o O_is_lot hr (pa_cons (pv 1) (pa_cons (pe_fld (pv 0) rfl) pa_nil))) (pe_one (pe_cmpR (op_inDT (K := K) hu65) (pv 1) (pe_fld (pv 0) rfl) (by rfl)))))), ?_⟩
    refine ⟨_, rfl, _, rfl, a, C, dx, _, _, rfl, h1, T.cl, T.nT, tf_things n l, pa, lotOf m n, some (n : Int), rfl, Evl.st_of ha, by have := lot_len m n; omega, fun H1 e1 => ?_⟩
    rw [lot_ok]
    refine ⟨_, rfl, _, rfl, _, rfl, a, C, dx, _, _, rfl, e1 _ _ h1, T.cl, T.nL, tf_lots n l, lotD n m, U.map (lotD n), (hv.ex e1).dp, (At.mkT (e1 _ _ h2) ((refs_ats h3 eU).ex e1)).dp, shaped_lot n m, shaped_lotsT n U, ?_⟩
    rw [any_lot rU rm]
    exact q H1 e1
structure TCo (P : Program) (w : World) (K : PySem.W.Frag) (mg : Str → Option Value) (base : Heap) (C f : Addr) (fd : FuncData) : Prop where
  at_ : PySem.W.findIn K (.ref C) "__contains__" = some (some (.ref f))
  fn : PySem.W.isFn K (.ref f) = true
  ok : FnOk P w K mg base CX0 4 f fd ["self", "value"] (spContains C)
  b : Binds K fd ["self", "value"] []
/-! _steps_to -/
abbrev NST : List Str := ["table", "lot", "made", "steps"]
def spStepsTo (C : Addr) : Sp := fun vs H Q _ => ∃ (G : Hp) (l : List (Addr × HO)) (a : Addr) (n : Nat) (L : Lots) (T : List Int) (u : V) (g : Int), vs = [.ref a, u] ∧ Has G H l ∧ TabAt C G a n L ∧ L.map (·.2) = T.map (fun m => lotOf m n) ∧ T.Nodup ∧ (∀ m ∈ T, Rg n m) ∧ T ≠ [] ∧ 0 < n ∧ n ≤ 6 ∧ At G u (lotD n g) ∧ Rg n g ∧ Rch n T g ∧ g ∉ T ∧
  ∀ (G' H' : Hp) (t : Addr) (zs : List V) (S : List Tri), Ex G G' → Has G' H' ((t, .lst zs) :: l) → S = (mkF n g T 4 [] (List.range n)).1 → Ats G' zs ((nd n g S).1.map (stD n)) → okT n T S → g ∈ S.map (mjT n) → Q (.ref t) H'
/-! missing_middle -/
abbrev NMM : List Str := ["table", "missing", "lot"]
def spMissing (C : Addr) : Sp := fun vs H Q _ => ∃ (G : Hp) (l : List (Addr × HO)) (a : Addr) (n : Nat) (L : Lots) (ms : List Int), vs = [.ref a] ∧ Has G H l ∧ TabAt C G a n L ∧ TabOf n ms L ∧ masksOk n ms ∧ 0 < n ∧ n ≤ 6 ∧
  ∀ (G' H' : Hp) (x : V) (o : Option Tri) (T U : List Int), Ex G G' → Has G' H' l → IsT n ms T → IsT n (reachM n ms) U → o = ansF n T U → At G' x (dTri n o) → (reachM n ms = ms → o = none) → (reachM n ms ≠ ms → ∃ s, o = some s ∧ s.1 ∈ ms ∧ s.2.1 ∈ ms ∧ s.2.2 ∈ ms ∧ mjT n s ∉ ms) → Q x H'
end
end TW
set_option Elab.async false
set_option linter.all false
set_option maxRecDepth 100000
set_option maxHeartbeats 1000000
namespace TW
open PySem PySem.Spec PyProof.Rows L2
theorem tupD_inj {x y : List Int} (e : tupD x = tupD y) : x = y := by
  have h := eqv_tupD x y
  rw [e, eqv_tupD] at h
  exact of_decide_eq_true (by rw [← h]; exact decide_eq_true rfl)
theorem tab_one {n : Nat} {ms : List Int} {L L' : Lots} (h : TabOf n ms L) (h' : TabOf n ms L') (hm : masksOk n ms) : L.map (·.2) = L'.map (·.2) :=
  (List.map_inj_right (fun x y e => tupD_inj e)).mp ((lots_told h hm).symm.trans (lots_told h' hm))
theorem tab_sub {n : Nat} {ms ms' : List Int} {L L' : Lots} (h : TabOf n ms L) (h' : TabOf n ms' L') (hm : masksOk n ms) (hm' : masksOk n ms') (e : L.map (·.2) = L'.map (·.2)) : ∀ m ∈ ms, m ∈ ms' := fun m q => by
  have h1 := h.2.1 m q
  rw [e] at h1
  obtain ⟨p, hp, e2⟩ := List.mem_map.mp h1
  obtain ⟨m', q', e3⟩ := h'.1 p hp
  have e4 : lotOf m n = lotOf m' n := by rw [← e3]; exact e2.symm
  have r := hm.2.2 m q
  have r' := hm'.2.2 m' q'
  rw [lot_inj r.1 r.2 r'.1 r'.2 e4]
  exact q'
theorem tab_two {n : Nat} {ms ms' : List Int} {L L' : Lots} (h : TabOf n ms L) (h' : TabOf n ms' L') (hm : masksOk n ms) (hm' : masksOk n ms') : L.map (·.2) = L'.map (·.2) ↔ ms = ms' := by
  constructor
  · intro e
    exact up_ext hm.1 hm'.1 fun m => ⟨tab_sub h h' hm hm' e m, tab_sub h' h hm' hm e.symm m⟩
  · intro e
    subst e
    exact tab_one h h' hm
theorem hasM_reach {n : Nat} {ms : List Int} {b : Bar} (hms : masksOk n ms) (hb : ∀ s ∈ b, s.1 < n) (l2 : b.length ≤ 2) : hasM (reachM n ms) b = hasM ms b := by
  rw [Bool.eq_iff_iff]
  unfold hasM
  rw [List.all_eq_true, List.all_eq_true]
  constructor
  · exact fun h m hm => h m (reach_sub hms hm)
  · intro h m hm
    obtain ⟨_, rch⟩ := mem_reach.mp hm
    have mt : ∀ {x : Int} {s : Sgn}, bitB x s.1 = bitB m s.1 → met x s = met m s := fun {x s} e => by unfold met; rw [e]
    match b, l2, hb, h with
    | [], _, _, h =>
      obtain ⟨x, hx⟩ := List.exists_mem_of_ne_nil ms hms.2.1
      have := h x hx
      cases this
    | [s], _, hb, h =>
      have hs := hb s List.mem_cons_self
      obtain ⟨x, hx, e, _⟩ := rch s.1 hs s.1 hs
      have q := h x hx
      rw [List.any_cons, List.any_nil, mt e] at q
      exact q
    | [s, t], _, hb, h =>
      have hs := hb s List.mem_cons_self
      have ht := hb t (List.mem_cons_of_mem _ List.mem_cons_self)
      obtain ⟨x, hx, e1, e2⟩ := rch s.1 hs t.1 ht
      have q := h x hx
      rw [List.any_cons, List.any_cons, List.any_nil, mt e1, mt e2] at q
      exact q
theorem rulesU_reach {n : Nat} {ms : List Int} {lots lots' : List (List Int)} (hms : masksOk n ms) (a : LotsAre n ms lots) (a' : LotsAre n (reachM n ms) lots') : rulesU lots' n = rulesU lots n := by
  have e1 : ∀ s ∈ allS n, hasR lots' [s] = hasR lots [s] := fun s hs => by
    have hb : ∀ x ∈ [s], x.1 < n := fun x hx => by rw [List.mem_singleton.mp hx]; exact allS_lt hs
    rw [hasR_eq a hb, hasR_eq a' hb, hasM_reach hms hb (by show 1 ≤ 2; decide)]
  have es : singleS lots' n = singleS lots n := filt_congr e1
  have eo : opensS lots' n = opensS lots n := filt_congr fun s hs => by rw [e1 s hs]
  unfold rulesU
  rw [es, eo]
  congr 1
  refine filt_congr fun b hb => ?_
  obtain ⟨low, hl, h2⟩ := List.mem_flatMap.mp hb
  unfold pairsAt at h2
  obtain ⟨high, hh, rfl⟩ := List.mem_map.mp h2
  have h1 := allS_lt (List.mem_filter.mp hl).1
  have h3 := allS_lt (List.mem_filter.mp (List.mem_filter.mp hh).1).1
  have hb2 : ∀ x ∈ [low, high], x.1 < n := fun x hx => by
    simp only [List.mem_cons, List.not_mem_nil, or_false] at hx
    rcases hx with rfl | rfl
    · exact h1
    · exact h3
  rw [hasR_eq a hb2, hasR_eq a' hb2, hasM_reach hms hb2 (Nat.le_refl 2)]
theorem eqvAll_tups : ∀ xs ys : List (List Int), PyData.eqvAll (xs.map tupD) (ys.map tupD) = decide (xs = ys)
  | [], [] => rfl
  | [], _ :: _ => rfl
  | _ :: _, [] => rfl
  | x :: xs, y :: ys => by
    have e : PyData.eqvAll ((x :: xs).map tupD) ((y :: ys).map tupD) = (PyData.eqv (tupD x) (tupD y) && PyData.eqvAll (xs.map tupD) (ys.map tupD)) := rfl
    rw [e, eqvAll_tups xs ys, eqv_tupD, Bool.eq_iff_iff, Bool.and_eq_true, decide_eq_true_eq, decide_eq_true_eq, decide_eq_true_eq, List.cons.injEq]
theorem shaped_tups (ls : List (List Int)) : SeqAt.shaped (.tuple (ls.map tupD)) = true := by
  unfold SeqAt.shaped
  rw [Bool.and_eq_true, decide_eq_true_eq]
  refine ⟨lay_lots fun d hd => ?_, ?_⟩
  · obtain ⟨m, _, rfl⟩ := List.mem_map.mp hd
    exact ⟨_, rfl⟩
  · have := depth_all (n := 1) (ds := ls.map tupD) fun d hd => by
      obtain ⟨m, _, rfl⟩ := List.mem_map.mp hd
      exact depth_tupD _
    simp only [PyData.depth]
    omega
theorem lots_at {H : Hp} {L : Lots} (h : InLots H L) : Ats H (refs L) ((L.map (·.2)).map tupD) := by
  rw [List.map_map]
  exact Ats.map_ fun q hq => at_lot (h q hq)
/-- the lots that keep rules of two literals: closed -/
theorem kept_shut {n : Nat} {bs : List Bar} (hb : ruleP n bs) : reachM n (keptM n bs) = keptM n bs := by
  have up : Up (keptM n bs) := List.Pairwise.sublist List.filter_sublist (rangeI_up _)
  refine up_ext (List.Pairwise.sublist List.filter_sublist (rangeI_up _)) up fun m => ?_
  constructor
  · intro hm
    obtain ⟨hr, rch⟩ := mem_reach.mp hm
    refine List.mem_filter.mpr ⟨(List.mem_filter.mp hm).1, ?_⟩
    unfold keptB
    rw [List.all_eq_true]
    intro b hbb
    obtain ⟨b0, b2, bn, _⟩ := hb b hbb
    have mt : ∀ {x : Int} {s : Sgn}, bitB x s.1 = bitB m s.1 → met x s = met m s := fun {x s} e => by unfold met; rw [e]
    have kp : ∀ x ∈ keptM n bs, b.any (met x) = true := fun x hx => List.all_eq_true.mp (List.mem_filter.mp hx).2 b hbb
    match b, b0, b2, bn, kp with
    | [s], _, _, bn, kp =>
      have hs := bn s List.mem_cons_self
      obtain ⟨x, hx, e, _⟩ := rch s.1 hs s.1 hs
      have q := kp x hx
      rw [List.any_cons, List.any_nil, mt e] at q
      exact q
    | [s, t], _, _, bn, kp =>
      have hs := bn s List.mem_cons_self
      have ht := bn t (List.mem_cons_of_mem _ List.mem_cons_self)
      obtain ⟨x, hx, e1, e2⟩ := rch s.1 hs t.1 ht
      have q := kp x hx
      rw [List.any_cons, List.any_cons, List.any_nil, mt e1, mt e2] at q
      exact q
  · intro hm
    obtain ⟨h1, _⟩ := List.mem_filter.mp hm
    refine List.mem_filter.mpr ⟨h1, reachB_iff.mpr fun i _ j _ => ⟨m, hm, rfl, rfl⟩⟩
theorem kept_masks {n : Nat} {bs : List Bar} (h : keptM n bs ≠ []) : masksOk n (keptM n bs) := ⟨List.Pairwise.sublist List.filter_sublist (rangeI_up _), h, fun m hm => by
  have := (List.mem_filter.mp hm).1
  unfold rangeI at this
  obtain ⟨k, hk, rfl⟩ := List.mem_map.mp this
  have := List.mem_range.mp hk
  exact ⟨Int.natCast_nonneg _, by exact_mod_cast this⟩⟩
theorem kept_perm {n : Nat} {bs cs : List Bar} (h : ∀ b, b ∈ bs ↔ b ∈ cs) : keptM n bs = keptM n cs := by
  unfold keptM
  refine filt_congr fun m _ => ?_
  unfold keptB
  rw [Bool.eq_iff_iff, List.all_eq_true, List.all_eq_true]
  exact ⟨fun q b hb => q b ((h b).mpr hb), fun q b hb => q b ((h b).mp hb)⟩
section
variable {P : Program} {w : World} {K : PySem.W.Frag} {mg : Str → Option Value} {base : Heap} {C N NC : Addr}
/-! Table.__eq__ -/
theorem sc_Table_eq : FnScope ["self", "other"] ["self", "other"] (defScope s_Table_eq) := ⟨rfl, rfl, rfl, by decide +kernel, rfl, by decide +kernel, by decide +kernel⟩
def spTabEq (C : Addr) : Sp := fun vs H Q _ => ∃ (a b : Addr) (n : Nat) (L L' : Lots), vs = [.ref a, .ref b] ∧ TabAt C H a n L ∧ TabAt C H b n L' ∧ Q (.bl (decide (L.map (·.2) = L'.map (·.2)))) H
theorem ok_tabEq {f : Addr} {fd : FuncData} (F : Fun K "__eq__" "Table.__eq__" s_Table_eq f fd) (z : Z mg) (T : TC K mg C) : FnOk P w K mg base CX0 1 f fd ["self", "other"] (spTabEq C) := by
  refine F.ok sc_Table_eq (fun vs H Q E h => ?_) (fun cdv A outer sh H vs Q E hr h => ?_)
  · obtain ⟨a, b, n, L, L', rfl, _⟩ := h
    rfl
  · obtain ⟨a, b, n, L, L', rfl, ⟨dx, l, h1, h2, h3⟩, ⟨dx', l', h1', h2', h3'⟩, q⟩ := h
    refine ⟨_, (pss_one (ps_ret (pe_and (pe_callB (C8.call_isC T.ins) (by rfl) z.isinstance (by decide +kernel) (pa_cons (pv 1) (pa_cons (pe_glob (by rfl) T.mg (show RelV (.ref C) (.ref C) from rfl)) pa_nil))) (pe_and (pe_cmpR op_eq (pe_fld (pv 0) rfl) (pe_fld (pv 1) rfl) (nomark _)) (pe_one (pe_cmpR (op_eqD hr.units) (pe_fld (pv 0) rfl) (pe_fld (pv 1) rfl) (nomark _))))))), ?_⟩
    refine ⟨_, rfl, b, dx', _, rfl, h1', _, rfl, ?_⟩
    refine ⟨_, rfl, a, C, dx, _, _, rfl, h1, T.cl, T.nT, tf_things n l, _, rfl, b, C, dx', _, _, rfl, h1', T.cl, T.nT, tf_things n l', rfl, ?_⟩
    rw [decide_eq_true rfl]
    refine ⟨_, rfl, _, rfl, a, C, dx, _, _, rfl, h1, T.cl, T.nL, tf_lots n l, _, rfl, b, C, dx', _, _, rfl, h1', T.cl, T.nL, tf_lots n l', .tuple ((L.map (·.2)).map tupD), .tuple ((L'.map (·.2)).map tupD), (At.mkT h2 (lots_at h3)).dp, (At.mkT h2' (lots_at h3')).dp, shaped_tups _, shaped_tups _, ?_⟩
    rw [show PyData.eqv (.tuple ((L.map (·.2)).map tupD)) (.tuple ((L'.map (·.2)).map tupD)) = decide (L.map (·.2) = L'.map (·.2)) from eqvAll_tups _ _]
    exact q
structure TEq (P : Program) (w : World) (K : PySem.W.Frag) (mg : Str → Option Value) (base : Heap) (C f : Addr) (fd : FuncData) : Prop where
  at_ : PySem.W.findIn K (.ref C) "__eq__" = some (some (.ref f))
  fn : PySem.W.isFn K (.ref f) = true
  ok : FnOk P w K mg base CX0 1 f fd ["self", "other"] (spTabEq C)
  b : Binds K fd ["self", "other"] []
def spMidTo (C : Addr) : Sp := fun vs H Q _ => ∃ (G : Hp) (l : List (Addr × HO)) (a : Addr) (n : Nat) (L : Lots) (ms : List Int) (u : V) (m : Int), vs = [.ref a, u] ∧ Has G H l ∧ TabAt C G a n L ∧ TabOf n ms L ∧ masksOk n ms ∧ 0 < n ∧ n ≤ 6 ∧ At G u (lotD n m) ∧ Rg n m ∧
  (m ∈ reachM n ms → ∀ (G' H' : Hp) (t : Addr) (zs : List V), Ex G G' → Has G' H' ((t, .lst zs) :: l) → Q (.ref t) H') ∧ (m ∉ reachM n ms → ∀ (G' H' : Hp), Ex G G' → Has G' H' l → Q .non H')
end
end TW
set_option Elab.async false
set_option linter.all false
set_option maxRecDepth 100000
set_option maxHeartbeats 1000000
/-! odd values: data of any kind, tables and exceptions among it -/
namespace TW
open PySem PySem.Spec PyProof.Rows L2
inductive OD where
  | non | bl (b : Bool) | int (i : Int) | str (x : Str) | lst (ds : List OD) | tup (ds : List OD) | tab | exc
/-- T the class of tables, N the class of the exceptions -/
inductive AtD (T N : Addr) (H : Hp) : V → OD → Prop
  | non : AtD T N H .non .non
  | bl (b : Bool) : AtD T N H (.bl b) (.bl b)
  | int (i : Int) : AtD T N H (.int i) (.int i)
  | str (x : Str) : AtD T N H (.str x) (.str x)
  | lst {a : Addr} {xs : List V} {ds : List OD} (h : H a = some (.lst xs)) (l : xs.length = ds.length) (p : ∀ (i : Nat) x d, xs[i]? = some x → ds[i]? = some d → AtD T N H x d) : AtD T N H (.ref a) (.lst ds)
  | tup {a : Addr} {xs : List V} {ds : List OD} (h : H a = some (.tup xs)) (l : xs.length = ds.length) (p : ∀ (i : Nat) x d, xs[i]? = some x → ds[i]? = some d → AtD T N H x d) (n : xs.length ≤ 1000) : AtD T N H (.ref a) (.tup ds)
  | tab {a dx : Addr} {fs : List (Str × V)} (h : H a = some (.ins T dx fs)) : AtD T N H (.ref a) .tab
  | exc {a : Addr} (h : H a = some (ExO (.ref N) a)) : AtD T N H (.ref a) .exc
def AtsD (T N : Addr) (H : Hp) (xs : List V) (ds : List OD) : Prop := xs.length = ds.length ∧ ∀ (i : Nat) x d, xs[i]? = some x → ds[i]? = some d → AtD T N H x d
section
variable {T N : Addr} {H H' : Hp} {x : V} {d : OD} {xs : List V} {ds : List OD}
theorem AtD.ex (h : AtD T N H x d) (e : Ex H H') : AtD T N H' x d := by
  induction h with
  | non => exact .non
  | bl b => exact .bl b
  | int i => exact .int i
  | str x => exact .str x
  | lst h l p ih => exact .lst (e _ _ h) l ih
  | tup h l p n ih => exact .tup (e _ _ h) l ih n
  | tab h => exact .tab (e _ _ h)
  | exc h => exact .exc (e _ _ h)
theorem AtsD.ex (h : AtsD T N H xs ds) (e : Ex H H') : AtsD T N H' xs ds := ⟨h.1, fun i x d h1 h2 => (h.2 i x d h1 h2).ex e⟩
theorem AtsD.nil : AtsD T N H [] [] := ⟨rfl, fun i x d h _ => by cases h⟩
theorem AtsD.cons (h : AtD T N H x d) (t : AtsD T N H xs ds) : AtsD T N H (x :: xs) (d :: ds) := ⟨by rw [List.length_cons, List.length_cons, t.1], fun i y e h1 h2 => by
  cases i with
  | zero =>
    cases h1
    cases h2
    exact h
  | succ i => exact t.2 i y e h1 h2⟩
theorem AtsD.append {ys : List V} {es : List OD} (h : AtsD T N H xs ds) (t : AtsD T N H ys es) : AtsD T N H (xs ++ ys) (ds ++ es) := ⟨by rw [List.length_append, List.length_append, h.1, t.1], fun i y e h1 h2 => by
  rw [List.getElem?_append] at h1 h2
  rw [h.1] at h1
  split at h1
  · rename_i c
    rw [if_pos c] at h2
    exact h.2 i y e h1 h2
  · rename_i c
    rw [if_neg c] at h2
    exact t.2 _ y e h1 h2⟩
theorem AtsD.get (h : AtsD T N H xs ds) {i : Nat} (hi : xs[i]? = some x) : ∃ d, ds[i]? = some d ∧ AtD T N H x d := by
  have lt := (List.getElem?_eq_some_iff.mp hi).1
  have e : ds[i]? = some (ds[i]'(by rw [← h.1]; exact lt)) := List.getElem?_eq_getElem _
  exact ⟨_, e, h.2 i x _ hi e⟩
theorem AtD.inL (h : AtD T N H x (.lst ds)) : ∃ a xs, x = .ref a ∧ H a = some (.lst xs) ∧ AtsD T N H xs ds := by
  cases h with
  | lst h l p => exact ⟨_, _, rfl, h, l, p⟩
theorem AtD.inT (h : AtD T N H x (.tup ds)) : ∃ a xs, x = .ref a ∧ H a = some (.tup xs) ∧ AtsD T N H xs ds := by
  cases h with
  | tup h l p n => exact ⟨_, _, rfl, h, l, p⟩
theorem AtD.lenT (h : AtD T N H x (.tup ds)) : ds.length ≤ 1000 := by
  cases h with
  | tup h l p n => exact l ▸ n
theorem AtsD.mkL {a : Addr} (h : AtsD T N H xs ds) (e : H a = some (.lst xs)) : AtD T N H (.ref a) (.lst ds) := .lst e h.1 h.2
theorem AtsD.mkT {a : Addr} (h : AtsD T N H xs ds) (e : H a = some (.tup xs)) (n : xs.length ≤ 1000) : AtD T N H (.ref a) (.tup ds) := .tup e h.1 h.2 n
end
/-! its type -/
def tyD (T N : Addr) : OD → Value
  | .non => .type "NoneType"
  | .bl _ => .type "bool"
  | .int _ => .type "int"
  | .str _ => .type "str"
  | .lst _ => .type "list"
  | .tup _ => .type "tuple"
  | .tab => .ref T
  | .exc => .ref N
section
variable {X : Cx} {pins : List (Addr × Obj)} {σ : L2.St} {H : Hp} {s : Shared} {T N : Addr}
theorem kit_odd (TI : C8.InsC X.K T) (NE : ExcC X.K N) {x : V} {u : Value} {d : OD} (I : Inv X pins σ H s) (rx : RelV x u) (h : AtD T N H x d) : ∃ P : Heap → Prop, PySem.W.KitX X.K u (tyD T N d) P ∧ P s.heap ∧ u ≠ .builtin "__main__.__loader__#opaque" := by
  cases h with
  | non => exact kit_of I rx (.base .non)
  | bl b => exact kit_of I rx (.base (.bl b))
  | int i => exact kit_of I rx (.base (.int i))
  | str y => exact kit_of I rx (.base (.str y))
  | lst h l p => exact kit_of I rx (.base (.lst h))
  | tup h l p n => exact kit_of I rx (.base (.tup h))
  | tab h => exact kit_of I rx (.base (.ins h TI.cl TI.ha TI.hn TI.htk TI.hm))
  | @exc a h =>
    cases (show u = Value.ref a from rx)
    obtain ⟨⟨oe, vs, ho, hz, hd, _⟩, _, _⟩ := I.hok a _ h
    refine ⟨_, PySem.W.handS_kitx_exc NE.hg NE.hk NE.hs NE.hd NE.ha NE.hn NE.ht NE.hm (x := a) (ox := oe), ?_, fun z => nomatch z⟩
    obtain ⟨oc, od, oda, osl⟩ := oe
    obtain ⟨h1, h2⟩ := hz
    dsimp only at h1 h2 hd
    subst h1 h2 hd
    exact ⟨ho, rfl, rfl, trivial⟩
/-- isinstance(v, c) -/
theorem call_isD (TI : C8.InsC X.K T) (NE : ExcC X.K N) : CallR X (.builtin "isinstance") (fun xs H Q => ∃ (x c : V) (d : OD) (u : Value) (b : Bool), xs = [x, c] ∧ ClsV c u ∧ AtD T N H x d ∧ PySem.W.kitOne X.K (tyD T N d) u = some b ∧ Q (.bl b) H) := by
  intro pins s σ H xs us Q I r h
  obtain ⟨x, c, d, u, b, rfl, k, ty, e, q⟩ := h
  obtain ⟨u1, u2, rfl, r1, r2⟩ := vals2 r
  have e2 := k.eq r2
  subst e2
  obtain ⟨P, Z, p, hx⟩ := kit_odd TI NE I r1 ty
  exact PySem.W.kia_one Z I.kIn p e hx fun tk => ⟨.bl b, H, I.tok tk, rfl, q⟩
end
/-! x == v, x of an own class with its own __eq__, v odd -/
def rEqOdd (K : PySem.W.Frag) (C T N : Addr) (sp : Sp) : R2 := fun x y H Q => ∃ a dx fs d, x = .ref a ∧ H a = some (.ins C dx fs) ∧ AtD T N H y d ∧ PySem.W.notFirst K C (tyD T N d) = true ∧ sp [.ref a, y] H (fun z H' => ∃ t : Bool, z = .bl t ∧ Q (.bl t) H') E0
section
variable {X : Cx} {k : Nat} {C T N f : Addr} {fd : FuncData} {sp : Sp}
theorem op_eqOdd (TI : C8.InsC X.K T) (NE : ExcC X.K N) (hs : PySem.W.findIn X.K (.ref C) "__eq__" = some (some (.ref f))) (hf : PySem.W.isFn X.K (.ref f) = true) (F : FnOk X.prog X.w X.K X.mg X.base CX0 k f fd ["self", "other"] sp)
    (hb : Binds X.K fd ["self", "other"] []) (hr : Room k X.A) : OpR X (compareOp .Eq) (rEqOdd X.K C T N sp) := by
  intro pins s σ H x y v u Q I rx ry h
  obtain ⟨a, dx, fs, d, rfl, ha, hy, hn, q⟩ := h
  cases (show v = Value.ref a from rx)
  obtain ⟨mA, J, _⟩ := ins_get I.hok ha
  obtain ⟨od, J, _⟩ := J.look
  obtain ⟨P, Z, p, _⟩ := kit_odd TI NE I ry hy
  obtain ⟨m, hF⟩ := I.fr
  show wpAny (model X.prog X.w) X.A (richCompare .Eq (.ref a) u) (EP X pins σ Q) X.xe s
  refine PySem.W.cmp_K (op := .Eq) (tb := tyD T N d) hr.units0 hF I.ok.mod.kin J (Z.ty _ _ I.kIn p) hn hs hf ?_
  refine wpAny_call (codeAny_mono (F.run X.A X.stack s H ⟨[.ref a, u], []⟩ [.ref a, u] [.ref a, y] _ E0 hr I.env0 (hb _ [.ref a, u] I.kIn rfl) (.cons rfl (.cons ry .nil)) q) fun r s' hq => ?_)
  cases r with
  | error er => exact False.elim hq
  | ok fl =>
    cases fl with
    | ret w =>
      obtain ⟨z, H', I3, rz, t, rfl, q3⟩ := I.after hq
      obtain rfl : w = Value.bool t := rz
      exact ⟨.bl t, H', I3, rfl, q3⟩
    | next => exact False.elim hq
    | brk => exact False.elim hq
    | cont => exact False.elim hq
end
end TW
namespace TW
open PySem PySem.Spec PyProof.Rows L2
/-- no odd value is of the class C -/
structure NotC (K : PySem.W.Frag) (C T N : Addr) : Prop where
  non : PySem.W.kitOne K (.type "NoneType") (.ref C) = some false
  bl : PySem.W.kitOne K (.type "bool") (.ref C) = some false
  int : PySem.W.kitOne K (.type "int") (.ref C) = some false
  str : PySem.W.kitOne K (.type "str") (.ref C) = some false
  lst : PySem.W.kitOne K (.type "list") (.ref C) = some false
  tup : PySem.W.kitOne K (.type "tuple") (.ref C) = some false
  tab : PySem.W.kitOne K (.ref T) (.ref C) = some false
  exc : PySem.W.kitOne K (.ref N) (.ref C) = some false
theorem NotC.all {K : PySem.W.Frag} {C T N : Addr} (h : NotC K C T N) (d : OD) : PySem.W.kitOne K (tyD T N d) (.ref C) = some false := by
  cases d with
  | non => exact h.non
  | bl b => exact h.bl
  | int i => exact h.int
  | str x => exact h.str
  | lst ds => exact h.lst
  | tup ds => exact h.tup
  | tab => exact h.tab
  | exc => exact h.exc
theorem notFirst_of {K : PySem.W.Frag} {C : Addr} {t : Value} (h : PySem.W.kitOne K t (.ref C) = some false) : PySem.W.notFirst K C t = true := by
  unfold PySem.W.kitOne at h
  split at h
  · cases h
  · unfold PySem.W.kitCls at h
    simp only at h
    split at h
    · unfold PySem.W.notFirst
      rw [h]
      simp
    · cases h
end TW
set_option Elab.async false
set_option linter.all false
set_option maxRecDepth 100000
set_option maxHeartbeats 1000000
namespace TW
open PySem PySem.Spec PyProof.Rows L2
/-! literals of such data -/
def tOD (T N : Addr) (d : OD) : TE := fun _ H Q => ∃ (G : Hp) (l : List (Addr × HO)), Has G H l ∧ ∀ v G' H', Ex G G' → Has G' H' l → AtD T N G' v d → Q v H'
def taOD (T N : Addr) (ds : List OD) : TA := fun _ H Q => ∃ (G : Hp) (l : List (Addr × HO)), Has G H l ∧ ∀ vs G' H', Ex G G' → Has G' H' l → AtsD T N G' vs ds → Q vs H'
section
variable {X : Cx} {T N : Addr} {d : OD} {ds : List OD} {e : Expr} {es : List Expr}
theorem peI {t t' : TE} (h : PE X e t) (i : ∀ σ H Q, t' σ H Q → t σ H Q) : PE X e t' := ⟨fun pins s σ H Q I q => h.run pins s σ H Q I (i σ H Q q)⟩
theorem paI {t t' : TA} (h : PA X es t) (i : ∀ σ H Q, t' σ H Q → t σ H Q) : PA X es t' := ⟨fun pos pins s σ H Q I q => h.run pos pins s σ H Q I (i σ H Q q)⟩
theorem od_int {i : Int} {j pos} : PE X (.Constant (.int i) j pos) (tOD T N (.int i)) := peI pe_int fun σ H Q ⟨G, l, S, h⟩ => h _ G H (Evl.Ex.refl _) S (.int i)
theorem od_bl {b : Bool} {j pos} : PE X (.Constant (.bool b) j pos) (tOD T N (.bl b)) := peI pe_bl fun σ H Q ⟨G, l, S, h⟩ => h _ G H (Evl.Ex.refl _) S (.bl b)
theorem od_non {j pos} : PE X (.Constant .none j pos) (tOD T N .non) := peI pe_non fun σ H Q ⟨G, l, S, h⟩ => h _ G H (Evl.Ex.refl _) S .non
theorem od_str {x : Str} {j pos} : PE X (.Constant (.str x) j pos) (tOD T N (.str x)) := peI pe_str fun σ H Q ⟨G, l, S, h⟩ => h _ G H (Evl.Ex.refl _) S (.str x)
theorem od_neg {i : Int} {j p1 p2} : PE X (.UnaryOp .USub (.Constant (.int i) j p1) p2) (tOD T N (.int (-i))) := peI (pe_un un_neg pe_int) fun σ H Q ⟨G, l, S, h⟩ => ⟨i, rfl, h _ G H (Evl.Ex.refl _) S (.int (-i))⟩
theorem od_nil : PA X [] (taOD T N []) := paI pa_nil fun σ H Q ⟨G, l, S, h⟩ => h _ G H (Evl.Ex.refl _) S .nil
theorem od_cons (ha : PE X e (tOD T N d)) (hr : PA X es (taOD T N ds)) (hs : starEach (e :: es) X.env = (false, eval e X.env) :: starEach es X.env := by rfl) : PA X (e :: es) (taOD T N (d :: ds)) :=
  paI (pa_cons ha hr hs) fun σ H Q ⟨G, l, S, h⟩ => ⟨G, l, S, fun x G1 H1 e1 S1 a => ⟨G1, l, S1, fun vs G2 H2 e2 S2 as => h _ G2 H2 (e1.trans e2) S2 (.cons (a.ex e2) as)⟩⟩
theorem Has.intoG {G H : Hp} {l : List (Addr × HO)} {t : Addr} {u : HO} (h : Has G H ((t, u) :: l)) : ∃ G', Ex G G' ∧ G' t = some u ∧ Has G' H l := ⟨_, h.exS, upd_same, h.sink⟩
theorem od_tup {x1 pos} (h : PA X es (taOD T N ds)) (hl : ds.length ≤ 1000 := by decide) : PE X (.Tuple es x1 pos) (tOD T N (.tup ds)) :=
  peI (pe_tup h) fun σ H Q ⟨G, l, S, k⟩ => ⟨G, l, S, fun vs G1 H1 e1 S1 as => ⟨sz (by rw [as.1]; omega), fun p np => by
    obtain ⟨G2, e2, hp, S2⟩ := (S1.new (o := .tup vs) np).intoG
    exact k _ G2 _ (e1.trans e2) S2 ((as.ex e2).mkT hp (by rw [as.1]; omega))⟩⟩
theorem od_lst {pos} (h : PA X es (taOD T N ds)) (hl : ds.length ≤ 1000 := by decide) : PE X (.List es pos) (tOD T N (.lst ds)) :=
  peI (pe_lst h) fun σ H Q ⟨G, l, S, k⟩ => ⟨G, l, S, fun vs G1 H1 e1 S1 as => ⟨sz (by rw [as.1]; omega), fun p np => by
    obtain ⟨G2, e2, hp, S2⟩ := (S1.new (o := .lst vs) np).intoG
    exact k _ G2 _ (e1.trans e2) S2 ((as.ex e2).mkL hp)⟩⟩
end
section
variable {P : Program} {w : World} {K : PySem.W.Frag} {mg : Str → Option Value} {base : Heap} {C T N : Addr}
theorem AtsD.ints {H : Hp} : ∀ {xs : List V} {ns : List Int}, AtsD T N H xs (ns.map OD.int) → xs = ns.map V.int
  | xs, [], h => List.length_eq_zero_iff.mp h.1
  | [], _ :: _, h => by cases h.1
  | x :: xs, n :: ns, h => by
    have a := h.2 0 x (.int n) rfl rfl
    have r : AtsD T N H xs (ns.map OD.int) := ⟨by have := h.1; rw [List.length_map] at *; rw [List.length_cons, List.length_cons] at this; omega, fun i y d h1 h2 => h.2 (i + 1) y d h1 h2⟩
    rw [List.map_cons, AtsD.ints r]
    cases a
    rfl
/-- a table of one lot -/
theorem od_tab {X : Cx} {f : Addr} {fd : FuncData} (M : TM X.prog X.w X.K X.mg X.base T f fd) (TT : TC X.K X.mg T) (hr : Room 5 X.A) {n : Int} {ns : List Int} {e : Expr} {es : List Expr} {p pos : Pos} (ha : PA X (e :: es) (taOD T N [.int n, .lst [.tup (ns.map .int)]])) (hg : Gl X "Table" := by rfl) (hn : 0 < n := by decide) (hl : isLot ns (some n) = true := by decide) (hs : ns.length ≤ 1000 := by decide)
    (he : starEach (e :: es) X.env = (false, eval e X.env) :: starEach es X.env := by rfl) (hpl : (backTo pos (starEach es X.env)).any (·.1) = false := by rfl) : PE X (.Call (.Name "Table" p) (e :: es) [] pos) (tOD T N .tab) :=
  peI (pe_make M.make M.ok hr hg TT.mg M.b .nil pass0 ha (by decide) he hpl) fun σ H Q ⟨G, l, S, q⟩ => ⟨G, l, S, fun vs G1 H1 e1 S0 as => by
    obtain ⟨v1, hv1, a1⟩ : ∃ v, vs[0]? = some v ∧ AtD T N G1 v (.int n) := by
      have l := as.1
      have lt : 0 < vs.length := by rw [l]; show 0 < 2; decide
      exact ⟨_, List.getElem?_eq_getElem lt, as.2 0 _ _ (List.getElem?_eq_getElem lt) rfl⟩
    obtain ⟨v2, hv2, a2⟩ : ∃ v, vs[1]? = some v ∧ AtD T N G1 v (.lst [.tup (ns.map .int)]) := by
      have l := as.1
      have lt : 1 < vs.length := by rw [l]; show 1 < 2; decide
      exact ⟨_, List.getElem?_eq_getElem lt, as.2 1 _ _ (List.getElem?_eq_getElem lt) rfl⟩
    have ev : vs = [v1, v2] := by
      have l := as.1
      match vs, l with
      | [x, y], _ =>
        cases hv1
        cases hv2
        rfl
    subst ev
    cases a1
    obtain ⟨ll, xs, rfl, hll, axs⟩ := a2.inL
    obtain ⟨u, hu⟩ : ∃ u, xs = [u] := by
      have l := axs.1
      match xs, l with
      | [x], _ => exact ⟨x, rfl⟩
    subst hu
    obtain ⟨t, ys, rfl, ht, ays⟩ := (axs.2 0 u _ rfl rfl).inT
    rw [ays.ints] at ht
    intro x dx nx ndx hne
    have S1 := S0.new (o := .own x) ndx
    have nx1 : (upd H1 dx (.own x)) x = none := by rw [upd_ne (Ne.symm hne)]; exact nx
    have S2 := S1.sink.new (o := .ins T dx []) nx1
    have e2 := S1.exS
    have hll1 := S1.sink.ex _ _ (e2 _ _ hll)
    have hll2 := S2.ex _ _ (e2 _ _ hll)
    obtain ⟨m, rfl⟩ : ∃ m : Nat, n = (m : Int) := ⟨n.toNat, by omega⟩
    refine ⟨_, _, x, dx, ll, m, [(t, ns)], rfl, S2, hll2, ?_, fun p hp => ?_, by omega, ⟨List.cons_ne_nil _ _, by show 1 ≤ 64; decide, fun p hp => ?_⟩, fun G' H' dl L eG S' hdl hL => ⟨rfl, ?_⟩⟩
    · exact ne_of_none hll1 nx1
    · rw [List.mem_singleton.mp hp]
      exact e2 _ _ ht
    · rw [List.mem_singleton.mp hp]
      exact ⟨hl, hs⟩
    · obtain ⟨G3, e3, hx, S3⟩ := S'.intoG
      exact q _ G3 _ (e1.trans ((e2.trans eG).trans e3)) S3 (.tab hx)⟩
/-- an own exception -/
theorem od_exc {X : Cx} {nm : Str} (TE : TN X.K X.mg nm N) {e : Expr} {d : OD} {p pos : Pos} (he : PE X e (tOD T N d)) (hg : Gl X nm := by rfl) (hs : starEach [e] X.env = (false, eval e X.env) :: starEach [] X.env := by rfl) (hdb : (nm == ("__debug__" : Str)) = false := by decide) : PE X (.Call (.Name nm p) [e] [] pos) (tOD T N .exc) :=
  peI (pe_exc1 PySem.F.excBase_ValueError TE.ex TE.g TE.k hg he hs hdb) fun σ H Q ⟨G, l, S, q⟩ => ⟨G, l, S, fun v G1 H1 e1 S1 _ a na => by
    obtain ⟨G2, e2, ha, S2⟩ := (S1.new (o := ExO (.ref N) a) na).intoG
    exact q _ G2 _ (e1.trans e2) S2 (.exc ha)⟩
end
end TW
set_option Elab.async false
set_option linter.all false
set_option maxRecDepth 100000
set_option maxHeartbeats 1000000
namespace TW
open PySem PySem.Spec PyProof.Rows L2
section
variable {P : Program} {w : World} {K : PySem.W.Frag} {mg : Str → Option Value} {base : Heap} {C T N : Addr}
/-! _law_far_odd, _law_odd -/
theorem AtsD.set {G : Hp} {xs : List V} {ds : List OD} (h : AtsD T N G xs ds) {r : Nat} {v : V} {d : OD} (a : AtD T N G v d) : AtsD T N G (xs.set r v) (ds.set r d) := ⟨by rw [List.length_set, List.length_set, h.1], fun i y e h1 h2 => by
  rw [List.getElem?_set] at h1 h2
  rw [h.1] at h1
  by_cases c : r = i
  · rw [if_pos c] at h1 h2
    by_cases c2 : r < ds.length
    · rw [if_pos c2] at h1 h2
      cases h1
      cases h2
      exact a
    · rw [if_neg c2] at h2
      cases h2
  · rw [if_neg c] at h1 h2
    exact h.2 i y e h1 h2⟩
theorem AtsD.of_ints {G : Hp} : ∀ ns : List Int, AtsD T N G (ns.map V.int) (ns.map OD.int)
  | [] => .nil
  | n :: ns => .cons (.int n) (AtsD.of_ints ns)
theorem odd_pick {G : Hp} {xs : List V} {ds : List OD} {r : Nat} (h : AtsD T N G xs ds) (hr : r < ds.length) : ∃ v d, xs[r]? = some v ∧ AtD T N G v d := by
  have lt : r < xs.length := by rw [h.1]; exact hr
  obtain ⟨d, _, a⟩ := h.get (List.getElem?_eq_getElem lt)
  exact ⟨_, d, List.getElem?_eq_getElem lt, a⟩
/-- one member of the row made odd, at times -/
def tChg (T N : Addr) : TS := fun D σ H => ∃ (G : Hp) (l : List (Addr × HO)) (p row : Addr) (o : HO) (k : Nat) (ns : List Int) (v1 v2 v3 : Option V), σ = [some (.ref p), v1, v2, v3, some (.ref row)] ∧ Has G H ((row, .lst (ns.map V.int)) :: (p, o) :: l) ∧ WellO k o ∧ k < 10 ^ 8 + 100 ∧ ns.length ≤ 40 ∧
  ∀ (G' H' : Hp) (o' : HO) (xs : List V) (ds : List OD), Ex G G' → Has G' H' ((row, .lst xs) :: (p, o') :: l) → WellO (k + 3) o' → AtsD T N G' xs ds → xs.length ≤ 40 → D.nx [some (.ref p), v1, v2, v3, some (.ref row)] H'
theorem sc_law_far_odd : FnScope ["well", "manner", "out", "k", "row"] ["well", "manner"] (defScope s__law_far_odd) := ⟨rfl, rfl, rfl, by decide +kernel, rfl, by decide +kernel, by decide +kernel⟩
def spFarOdd (T N : Addr) : Sp := fun vs H Q _ => ∃ (G : Hp) (l : List (Addr × HO)) (p : Addr) (o : HO) (k : Nat) (i : Int), vs = [.ref p, .int i] ∧ Has G H ((p, o) :: l) ∧ WellO k o ∧ k < 10 ^ 8 ∧
  ∀ (G' H' : Hp) (o' : HO) (v : V) (d : OD), Ex G G' → Has G' H' ((p, o') :: l) → WellO (k + 20) o' → AtD T N G' v d → Q v H'
theorem ok_far_odd (D : Dfn K mg "_law_far_odd" s__law_far_odd ["well", "manner"]) (z : Z mg) (O_dip : Ok P w K mg base 1 "_law_dip" ["well", "upto"] spDipW) : Ok P w K mg base 2 "_law_far_odd" ["well", "manner"] (spFarOdd T N) := D.ok fun f fd F => by
  refine F.ok sc_law_far_odd (fun vs H Q E h => ?_) (fun cdv A outer s H vs Q E hr h => ?_)
  · obtain ⟨G, l, p, o, k, i, rfl, _⟩ := h
    rfl
  · obtain ⟨G, l, p, o, k, i, rfl, S, wo, hk, q⟩ := h
    refine ⟨_, (pss_cons (ps_set (i := 2) sc_law_far_odd.nd rfl (Or.inl rfl) (pe_ix ix_list (od_lst (T := T) (N := N) (od_cons od_int (od_cons od_str (od_cons (od_tup (od_cons od_int (od_cons od_str od_nil))) (od_cons od_non od_nil))))) (pe_o O_dip (hr.mono (by decide)) (pa_cons (pv 0) (pa_cons pe_int pa_nil))) (fun _ _ => rfl)))
        (pss_cons (ps_for PassesOwn.never rfl (pi_range1 (by rfl) z.range (pa_cons (pe_op op_add pe_int (pe_o O_dip (hr.mono (by decide)) (pa_cons (pv 0) (pa_cons pe_int pa_nil)))) pa_nil)) (pg_name (i := 3) sc_law_far_odd.nd rfl (Or.inl rfl))
        (pss_one (ps_set (i := 2) sc_law_far_odd.nd rfl (Or.inl rfl) (pe_ifExp (pt_cmpR op_eq (pe_o O_dip (hr.mono (by decide)) (pa_cons (pv 0) (pa_cons pe_int pa_nil))) pe_int (nomark _)) (pe_lst (pa_cons (pv 2) pa_nil)) (pe_tup (pa_cons (pv 2) pa_nil))))))
        (pss_cons (ps_if (pt_cmpR op_eq (pv 1) pe_int (nomark _)) (pss_one (ps_ret (pv 2))) pss_nil)
        (pss_cons (ps_set (i := 4) sc_law_far_odd.nd rfl (Or.inl rfl) (pe_listRg rfl (by rfl) z.list (prg_1 (by rfl) z.range (pe_o O_dip (hr.mono (by decide)) (pa_cons (pv 0) (pa_cons pe_int pa_nil))))))
        (pss_cons (PS.imp (t' := tChg T N) (ps_if (PW.pt (pw_and (pt_cmpR (op_neD hr.units) (pv 4) (pe_lst pa_nil) (nomark _)) (pw_and1 (pt_cmpR op_eq (pe_o O_dip (hr.mono (by decide)) (pa_cons (pv 0) (pa_cons pe_int pa_nil))) pe_int (nomark _))))) (pss_one (ps_asg (pe_ix ix_list (od_lst (T := T) (N := N) (od_cons od_bl (od_cons od_neg (od_cons od_str (od_cons od_non (od_cons od_int od_nil)))))) (pe_o O_dip (hr.mono (by decide)) (pa_cons (pv 0) (pa_cons pe_int pa_nil))) (fun _ _ => rfl)) (pg_sub (pv 4) (pe_o O_dip (hr.mono (by decide)) (pa_cons (pv 0) (pa_cons (pe_callB call_len_seq (by rfl) z.len PySem.boot_len (pa_cons (pv 4) pa_nil)) pa_nil))) set_list))) pss_nil) (fun D σ H h => by
            obtain ⟨G, l, p, row, o, k, ns, v1, v2, v3, rfl, S, wo, hk, lns, q⟩ := h
            refine ⟨_, rfl, sz (by show 0 ≤ 100000; decide), fun e ne => ?_⟩
            have S1 := S.new (o := .lst []) ne
            generalize upd H e (.lst []) = H1 at S1
            refine ⟨.list (ns.map .int), .list [], .lst (Evl.sq_of (S1.get 1 rfl)) (dpAll_ints ns), .lst (Evl.sq_of (S1.get 0 rfl)) .nil, shaped_ints ns, rfl, _, rfl, ?_⟩
            rw [eqv_nil]
            have S2 := S1.tail
            refine ite2 (fun hc => ?_) (fun _ => q G H1 o _ _ (Evl.Ex.refl _) S2 (wo.up (by omega)) (AtsD.of_ints ns) (by rw [List.length_map]; exact lns))
            have hpos : 0 < ns.length := by
              cases ns with
              | nil => simp at hc
              | cons n ns => show 0 < ns.length + 1; omega
            refine ⟨_, rfl, p, 2, o, k, rfl, S2.get 1 rfl, wo, by omega, by decide, by decide, fun r o1 hr1 w1 => ⟨rfl, _, rfl, ?_⟩⟩
            have S3 : Has G _ ((row, .lst (ns.map V.int)) :: (p, o1) :: l) := S2.set 1 rfl
            generalize upd H1 p o1 = H3 at S3
            refine ite2 (fun _ => ?_) (fun _ => q G H3 o1 _ _ (Evl.Ex.refl _) S3 (w1.up (by omega)) (AtsD.of_ints ns) (by rw [List.length_map]; exact lns))
            refine ⟨G, _, S3, fun v0 G4 H4 e4 S4 a0 => ?_⟩
            obtain ⟨la, xs, rfl, hla, axs⟩ := a0.inL
            refine ⟨_, rfl, p, 5, o1, _, rfl, S4.get 1 rfl, w1, by omega, by decide, by decide, fun r2 o2 hr2 w2 => ?_⟩
            have S5 : Has G4 _ ((row, .lst (ns.map V.int)) :: (p, o2) :: l) := S4.set 1 rfl
            generalize upd H4 p o2 = H5 at S5
            obtain ⟨v, d, hv, ad⟩ := odd_pick axs (show r2 < 5 from hr2)
            refine ⟨la, xs, r2, v, rfl, rfl, Evl.sq_of (S5.ex _ _ hla), atI_nat hv, ?_⟩
            have lnm : (ns.map V.int).length = ns.length := List.length_map _
            refine ⟨_, rfl, _, rfl, _, rfl, row, _, rfl, .inl (Evl.sq_of (S5.get 0 rfl)), p, ns.length, o2, _, by rw [lnm]; rfl, S5.get 1 rfl, w2, by omega, hpos, Int.lt_of_le_of_lt (show (ns.length : Int) ≤ 40 by omega) (by decide), fun r3 o3 hr3 w3 => ?_⟩
            have S6 : Has G4 _ ((row, .lst (ns.map V.int)) :: (p, o3) :: l) := S5.set 1 rfl
            generalize upd H5 p o3 = H6 at S6
            refine ⟨row, _, r3, r3, rfl, rfl, S6.get 0 rfl, Evl.ixN_nat (by rw [lnm]; exact hr3), ?_⟩
            exact q G4 _ o3 _ _ e4 (S6.set 0 rfl) (w3.up (by omega)) ((AtsD.of_ints ns).set ad) (by rw [List.length_set, lnm]; exact lns)))
        (pss_one (ps_ret (pe_ifExp (pt_cmpR op_gt (pe_o O_dip (hr.mono (by decide)) (pa_cons (pv 0) (pa_cons pe_int pa_nil))) pe_int (nomark _)) (pe_callTy call_tuple_of (by rfl) z.tuple (by decide +kernel) (pa_cons (pv 4) pa_nil)) (pv 4))))))))), ?_⟩
    have pick : ∀ {G : Hp} {xs : List V} {ds : List OD} {r : Nat}, AtsD T N G xs ds → r < ds.length → ∃ v d, xs[r]? = some v ∧ AtD T N G v d := fun {G xs ds r} h hr => by
      have lt : r < xs.length := by rw [h.1]; exact hr
      obtain ⟨d, _, a⟩ := h.get (List.getElem?_eq_getElem lt)
      exact ⟨_, d, List.getElem?_eq_getElem lt, a⟩
    refine ⟨G, _, S, fun v0 G1 H1 e1 S1 a0 => ?_⟩
    obtain ⟨la, xs, rfl, hla, axs⟩ := a0.inL
    refine ⟨_, rfl, p, 4, o, k, rfl, S1.get 0 rfl, wo, by omega, by decide, by decide, fun r o1 hr1 w1 => ?_⟩
    have S2 : Has G1 _ ((p, o1) :: l) := S1.set 0 rfl
    generalize upd H1 p o1 = H2 at S2
    obtain ⟨v1, d1, hx, ad1⟩ := pick axs (show r < 4 from hr1)
    refine ⟨la, xs, r, v1, rfl, rfl, Evl.sq_of (S2.ex _ _ hla), atI_nat hx, ?_⟩
    -- nested
    refine ⟨_, rfl, p, 5, o1, _, rfl, S2.get 0 rfl, w1, by omega, by decide, by decide, fun r2 o2 hr2 w2 => ?_⟩
    have S3 : Has G1 _ ((p, o2) :: l) := S2.set 0 rfl
    generalize upd H2 p o2 = H3 at S3
    refine ⟨_, _, rfl, rfl, _, rfl, by omega, by omega, ?_⟩
    rw [show ((1 : Int) + (r2 : Int)).toNat = r2 + 1 by omega]
    refine for_range (lo := 0) (n := r2 + 1) (fun i' σ H' => ∃ (G' : Hp) (v : V) (d : OD) (v3 : Option V) (o' : HO), σ = [some (.ref p), some (.int i), some v, v3, none] ∧ Ex G1 G' ∧ Has G' H' ((p, o') :: l) ∧ WellO (k + 2 + i') o' ∧ AtD T N G' v d)
      ⟨G1, v1, d1, none, o2, rfl, Evl.Ex.refl _, S3, w2, ad1⟩ ?_ ?_
    · rintro j σ H4 hj ⟨G4, v, d, v3, o4, rfl, e4, S4, w4, ad⟩
      refine ⟨_, rfl, p, 2, o4, _, rfl, S4.get 0 rfl, w4, by omega, by decide, by decide, fun r3 o5 hr3 w5 => ⟨rfl, _, rfl, ?_⟩⟩
      have S5 : Has G4 _ ((p, o5) :: l) := S4.set 0 rfl
      generalize upd H4 p o5 = H5 at S5
      refine ite2 (fun _ => ?_) (fun _ => ?_)
      · refine ⟨_, rfl, sz (by show 1 ≤ 100000; decide), fun q1 nq => ?_⟩
        obtain ⟨G6, e6, hq1, S6⟩ := (S5.new (o := .lst [v]) nq).intoG
        exact ⟨G6, .ref q1, .lst [d], _, o5, rfl, e4.trans e6, S6, w5.up (by omega), (AtsD.cons (ad.ex e6) .nil).mkL hq1⟩
      · refine ⟨_, rfl, sz (by show 1 ≤ 100000; decide), fun q1 nq => ?_⟩
        obtain ⟨G6, e6, hq1, S6⟩ := (S5.new (o := .tup [v]) nq).intoG
        exact ⟨G6, .ref q1, .tup [d], _, o5, rfl, e4.trans e6, S6, w5.up (by omega), (AtsD.cons (ad.ex e6) .nil).mkT hq1 (by show 1 ≤ 1000; decide)⟩
    · rintro σ H4 ⟨G4, v, d, v3, o4, rfl, e4, S4, w4, ad⟩
      refine ⟨_, rfl, rfl, _, rfl, ?_⟩
      refine ite2 (fun _ => ?_) (fun _ => ?_)
      · exact ⟨_, rfl, q G4 H4 o4 v d (e1.trans e4) S4 (w4.up (by omega)) ad⟩
      -- row
      refine ⟨_, rfl, p, 40, o4, _, rfl, S4.get 0 rfl, w4, by omega, by decide, by decide, fun r4 o5 hr4 w5 => ?_⟩
      have S5 : Has G4 _ ((p, o5) :: l) := S4.set 0 rfl
      generalize upd H4 p o5 = H5 at S5
      refine ⟨_, rfl, RgOk.of_le (by omega) (by omega) (by omega) (by omega), fun D nD => ?_⟩
      obtain ⟨ns, hns, lns⟩ : ∃ ns : List Int, rgV 0 (r4 : Int) = ns.map V.int ∧ ns.length ≤ 40 := by
        refine ⟨(List.range r4).map fun k : Nat => (k : Int), ?_, by rw [List.length_map, List.length_range]; omega⟩
        unfold rgV
        rw [show ((r4 : Int) - 0).toNat = r4 by omega, List.map_map]
        exact List.map_congr_left fun k _ => congrArg V.int (Int.zero_add _)
      rw [hns]
      have S6 := S5.new (o := .lst (ns.map V.int)) nD
      generalize upd H5 D (.lst (ns.map V.int)) = H6 at S6
      refine ⟨G4, l, p, D, o5, _, ns, _, _, _, rfl, S6, w5, by omega, lns, fun G7 H7 o7 xs7 ds7 e7 S7 w7 a7 l7 => ?_⟩
      refine ⟨_, rfl, p, 3, o7, _, rfl, S7.get 1 rfl, w7, by omega, by decide, by decide, fun r8 o8 hr8 w8 => ⟨_, _, rfl, rfl, _, rfl, ?_⟩⟩
      have S8 : Has G7 _ ((D, .lst xs7) :: (p, o8) :: l) := S7.set 1 rfl
      generalize upd H7 p o8 = H8 at S8
      obtain ⟨G9, e9, hD9, S9⟩ := S8.intoG
      have e19 := ((e1.trans e4).trans e7).trans e9
      refine ite2 (fun _ => ?_) (fun _ => ?_)
      · refine ⟨_, rfl, D, xs7, rfl, .inl ⟨Evl.sq_of (S9.ex _ _ hD9), fun t nt => ?_⟩⟩
        obtain ⟨G10, e10, ht, S10⟩ := (S9.new (o := .tup xs7) nt).intoG
        exact q G10 _ o8 _ (.tup ds7) (e19.trans e10) S10 (w8.up (by omega)) (((a7.ex e9).ex e10).mkT ht (by omega))
      · exact ⟨_, rfl, q G9 _ o8 _ (.lst ds7) e19 S9 (w8.up (by omega)) ((a7.ex e9).mkL hD9)⟩
theorem sc_law_odd : FnScope ["well", "manner", "row"] ["well"] (defScope s__law_odd) := ⟨rfl, rfl, rfl, by decide +kernel, rfl, by decide +kernel, by decide +kernel⟩
def spOdd (T N : Addr) : Sp := fun vs H Q _ => ∃ (G : Hp) (l : List (Addr × HO)) (p : Addr) (o : HO) (k : Nat), vs = [.ref p] ∧ Has G H ((p, o) :: l) ∧ WellO k o ∧ k < 10 ^ 7 ∧
  ∀ (G' H' : Hp) (o' : HO) (v : V) (d : OD), Ex G G' → Has G' H' ((p, o') :: l) → WellO (k + 40) o' → AtD T N G' v d → Q v H'
theorem ok_odd {ft : Addr} {ftd : FuncData} (D : Dfn K mg "_law_odd" s__law_odd ["well"]) (z : Z mg) (TT : TC K mg T) (M : TM P w K mg base T ft ftd) (TE : TN K mg "NoLot" N) (O_dip : Ok P w K mg base 1 "_law_dip" ["well", "upto"] spDipW) (O_far : Ok P w K mg base 2 "_law_far_odd" ["well", "manner"] (spFarOdd T N)) : Ok P w K mg base 6 "_law_odd" ["well"] (spOdd T N) := D.ok fun f fd F => by
  refine F.ok sc_law_odd (fun vs H Q E h => ?_) (fun cdv A outer s H vs Q E hr h => ?_)
  · obtain ⟨G, l, p, o, k, rfl, _⟩ := h
    rfl
  · obtain ⟨G, l, p, o, k, rfl, S, wo, hk, q⟩ := h
    have hrT := hr
    refine ⟨_, (pss_cons (ps_set (i := 1) sc_law_odd.nd rfl (Or.inl rfl) (pe_o O_dip (hr.mono (by decide)) (pa_cons (pv 0) (pa_cons pe_int pa_nil))))
        (pss_cons (ps_if (pt_cmpR op_eq (pv 1) pe_int (nomark _)) (pss_one (ps_ret (pe_cmpR op_eq (pe_o O_dip (hr.mono (by decide)) (pa_cons (pv 0) (pa_cons pe_int pa_nil))) pe_int (nomark _)))) pss_nil)
        (pss_cons (ps_if (pt_cmpR op_eq (pv 1) pe_int (nomark _)) (pss_one (ps_ret (pe_op op_sub (pe_o O_dip (hr.mono (by decide)) (pa_cons (pv 0) (pa_cons (pe_op op_pow pe_int pe_int) pa_nil))) (pe_op op_mul (pe_o O_dip (hr.mono (by decide)) (pa_cons (pv 0) (pa_cons pe_int pa_nil))) (pe_op op_sub (pe_op op_pow pe_int pe_int) pe_int))))) pss_nil)
        (pss_cons (ps_if (pt_cmpR op_eq (pv 1) pe_int (nomark _)) (pss_one (ps_ret (pe_ix ix_list (od_lst (T := T) (N := N) (od_cons od_neg (od_cons od_neg (od_cons od_int (od_cons od_int (od_cons od_int (od_cons od_int (od_cons od_int (od_cons od_int (od_cons od_int (od_cons od_int (od_cons od_int (od_cons od_neg od_nil))))))))))))) (pe_o O_dip (hr.mono (by decide)) (pa_cons (pv 0) (pa_cons pe_int pa_nil))) (fun _ _ => rfl)))) pss_nil)
        (pss_cons (ps_if (pt_cmpR op_eq (pv 1) pe_int (nomark _)) (pss_cons (ps_set (i := 2) sc_law_odd.nd rfl (Or.inl rfl) (od_lst (T := T) (N := N) (od_cons od_non (od_cons od_bl (od_cons od_bl (od_cons od_str (od_cons od_str (od_cons od_str (od_cons od_str (od_cons od_str (od_cons od_str (od_cons od_str (od_cons od_str (od_cons od_str (od_cons od_str (od_cons od_str (od_cons od_str (od_cons od_str od_nil))))))))))))))))))
        (pss_one (ps_ret (pe_ix ix_list (pv 2) (pe_o O_dip (hr.mono (by decide)) (pa_cons (pv 0) (pa_cons pe_int pa_nil))) (fun _ _ => rfl))))) pss_nil)
        (pss_cons (ps_if (pt_cmpR op_eq (pv 1) pe_int (nomark _)) (pss_cons (ps_set (i := 2) sc_law_odd.nd rfl (Or.inl rfl) (od_lst (T := T) (N := N) (od_cons (od_tup od_nil) (od_cons (od_tup (od_cons od_int od_nil)) (od_cons (od_tup (od_cons od_int (od_cons od_int od_nil))) (od_cons (od_tup (od_cons od_int (od_cons od_int od_nil))) (od_cons (od_tup (od_cons od_bl od_nil)) (od_cons (od_tup (od_cons od_bl (od_cons od_bl od_nil))) (od_cons (od_tup (od_cons od_non od_nil)) (od_cons (od_tup (od_cons od_str od_nil)) (od_cons (od_tup (od_cons (od_tup od_nil) od_nil)) (od_cons (od_tup (od_cons od_int (od_cons od_str od_nil))) (od_cons (od_tup (od_cons od_int (od_cons od_str od_nil))) od_nil)))))))))))))
        (pss_cons (ps_set (i := 2) sc_law_odd.nd rfl (Or.inl rfl) (pe_op op_cat (pv 2) (od_lst (T := T) (N := N) (od_cons (od_tup (od_cons od_neg od_nil)) (od_cons (od_tup (od_cons od_neg (od_cons od_str od_nil))) (od_cons (od_tup (od_cons od_str (od_cons od_int od_nil))) (od_cons (od_tup (od_cons (od_tup (od_cons od_int (od_cons od_str od_nil))) od_nil)) (od_cons (od_tup (od_cons (od_tup (od_cons od_int (od_cons od_str od_nil))) (od_cons (od_tup (od_cons od_int (od_cons od_str od_nil))) od_nil))) (od_cons (od_tup (od_cons od_int (od_cons od_int (od_cons od_int od_nil)))) (od_cons (od_tup (od_cons od_int (od_cons od_bl od_nil))) od_nil))))))))))
        (pss_cons (ps_set (i := 2) sc_law_odd.nd rfl (Or.inl rfl) (pe_op op_cat (pv 2) (od_lst (T := T) (N := N) (od_cons (od_tup (od_cons (od_lst (od_cons od_int (od_cons od_str od_nil))) od_nil)) (od_cons (od_tup (od_cons od_int (od_cons od_int (od_cons od_bl od_nil)))) (od_cons (od_tup (od_cons (od_tup (od_cons od_int (od_cons od_str od_nil))) (od_cons (od_tup (od_cons od_int (od_cons od_str od_nil))) (od_cons (od_tup (od_cons od_int (od_cons od_str od_nil))) od_nil)))) (od_cons (od_tup (od_cons od_int (od_cons od_str (od_cons od_int od_nil)))) (od_cons (od_tup (od_cons (od_lst (od_cons od_int od_nil)) od_nil)) od_nil))))))))
        (pss_one (ps_ret (pe_ix ix_list (pe_op op_cat (pv 2) (od_lst (T := T) (N := N) (od_cons (od_tup (od_cons (od_tup (od_cons (od_tup (od_cons od_int (od_cons od_str od_nil))) od_nil)) od_nil)) (od_cons (od_tup (od_cons od_int (od_cons od_int (od_cons od_int od_nil)))) od_nil)))) (pe_o O_dip (hr.mono (by decide)) (pa_cons (pv 0) (pa_cons pe_int pa_nil))) (fun _ _ => rfl))))))) pss_nil)
        (pss_cons (ps_if (pt_cmpR op_gt (pv 1) pe_int (nomark _)) (pss_one (ps_ret (pe_o O_far (hr.mono (by decide)) (pa_cons (pv 0) (pa_cons (pv 1) pa_nil))))) pss_nil)
        (pss_cons (ps_set (i := 2) sc_law_odd.nd rfl (Or.inl rfl) (od_lst (T := T) (N := N) (od_cons (od_lst od_nil) (od_cons (od_lst (od_cons od_int od_nil)) (od_cons (od_lst (od_cons (od_tup od_nil) od_nil)) (od_cons (od_lst (od_cons (od_tup (od_cons od_int od_nil)) od_nil)) (od_cons (od_lst (od_cons (od_lst od_nil) od_nil)) (od_cons (od_lst (od_cons od_non od_nil)) (od_cons (od_lst (od_cons od_bl od_nil)) (od_cons (od_lst (od_cons od_int (od_cons od_int od_nil))) (od_cons (od_lst (od_cons od_str od_nil)) (od_cons (od_lst (od_cons od_int (od_cons od_str od_nil))) (od_cons (od_lst (od_cons (od_tup (od_cons od_int (od_cons od_int (od_cons od_int od_nil)))) od_nil)) (od_cons (od_lst (od_cons (od_tup (od_cons (od_tup (od_cons od_int (od_cons od_str od_nil))) od_nil)) od_nil)) od_nil))))))))))))))
        (pss_cons (ps_set (i := 2) sc_law_odd.nd rfl (Or.inl rfl) (pe_op op_cat (pv 2) (od_lst (T := T) (N := N) (od_cons (od_tab (ns := []) M TT hrT (od_cons od_int (od_cons (od_lst (od_cons (od_tup od_nil) od_nil)) od_nil))) (od_cons (od_tab (ns := [5]) M TT hrT (od_cons od_int (od_cons (od_lst (od_cons (od_tup (od_cons od_int od_nil)) od_nil)) od_nil))) (od_cons (od_lst (od_cons (od_tab (ns := [0]) M TT hrT (od_cons od_int (od_cons (od_lst (od_cons (od_tup (od_cons od_int od_nil)) od_nil)) od_nil))) od_nil)) (od_cons (od_tup (od_cons (od_tab (ns := [2]) M TT hrT (od_cons od_int (od_cons (od_lst (od_cons (od_tup (od_cons od_int od_nil)) od_nil)) od_nil))) od_nil)) (od_cons (od_exc TE od_str) od_nil))))))))
        (pss_one (ps_ret (pe_ix ix_list (pe_op op_cat (pv 2) (od_lst (T := T) (N := N) (od_cons (od_lst (od_cons (od_lst (od_cons (od_tup (od_cons od_int od_nil)) od_nil)) od_nil)) (od_cons (od_lst (od_cons (od_tup (od_cons od_int (od_cons od_str od_nil))) od_nil)) (od_cons (od_lst (od_cons od_neg od_nil)) od_nil))))) (pe_o O_dip (hr.mono (by decide)) (pa_cons (pv 0) (pa_cons pe_int pa_nil))) (fun _ _ => rfl))))))))))))), ?_⟩
    refine ⟨_, rfl, p, 8, o, k, rfl, S.get 0 rfl, wo, by omega, by decide, by decide, fun r o1 hr1 w1 => ?_⟩
    have S1 : Has G _ ((p, o1) :: l) := S.set 0 rfl
    generalize upd H p o1 = H1 at S1
    -- 5: a truth
    refine ⟨_, rfl, rfl, _, rfl, ?_⟩
    refine ite2 (fun _ => ?_) (fun _ => ?_)
    · refine ⟨_, rfl, p, 2, o1, _, rfl, S1.get 0 rfl, w1, by omega, by decide, by decide, fun r2 o2 hr2 w2 => ⟨rfl, ?_⟩⟩
      exact q G _ o2 _ (.bl _) (Evl.Ex.refl _) (S1.set 0 rfl) (w2.up (by omega)) (.bl _)
    -- 0: a long number
    refine ⟨_, rfl, rfl, _, rfl, ?_⟩
    refine ite2 (fun _ => ?_) (fun _ => ?_)
    · refine ⟨_, rfl, _, _, rfl, rfl, ⟨by decide, by decide, by decide⟩, p, 10 ^ 40, o1, _, congrArg (fun i : Int => [V.ref p, V.int i]) (by decide +kernel : (10 : Int) ^ (40 : Int).toNat = ((10 ^ 40 : Nat) : Int)), S1.get 0 rfl, w1, by omega, by decide, by decide, fun r2 o2 hr2 w2 => ?_⟩
      have S2 : Has G _ ((p, o2) :: l) := S1.set 0 rfl
      generalize upd H1 p o2 = H2 at S2
      refine ⟨_, rfl, p, 2, o2, _, rfl, S2.get 0 rfl, w2, by omega, by decide, by decide, fun r3 o3 hr3 w3 => ?_⟩
      have S3 : Has G _ ((p, o3) :: l) := S2.set 0 rfl
      generalize upd H2 p o3 = H3 at S3
      refine ⟨_, _, rfl, rfl, ⟨by decide, by decide, by decide⟩, _, _, rfl, rfl, _, _, rfl, rfl, .inl ⟨by omega, by omega⟩, _, _, rfl, rfl, ?_⟩
      exact q G H3 o3 _ (.int _) (Evl.Ex.refl _) S3 (w3.up (by omega)) (.int _)
    -- 1: a number
    refine ⟨_, rfl, rfl, _, rfl, ?_⟩
    refine ite2 (fun _ => ?_) (fun _ => ?_)
    · refine ⟨G, _, S1, fun v0 G4 H4 e4 S4 a0 => ?_⟩
      obtain ⟨la, xs, rfl, hla, axs⟩ := a0.inL
      refine ⟨_, rfl, p, 12, o1, _, rfl, S4.get 0 rfl, w1, by omega, by decide, by decide, fun r2 o2 hr2 w2 => ?_⟩
      have S5 : Has G4 _ ((p, o2) :: l) := S4.set 0 rfl
      generalize upd H4 p o2 = H5 at S5
      obtain ⟨v, d, hv, ad⟩ := odd_pick axs (show r2 < 12 from hr2)
      refine ⟨la, xs, r2, v, rfl, rfl, Evl.sq_of (S5.ex _ _ hla), atI_nat hv, ?_⟩
      exact q G4 H5 o2 _ d e4 S5 (w2.up (by omega)) ad
    -- 2: a word
    refine ⟨_, rfl, rfl, _, rfl, ?_⟩
    refine ite2 (fun _ => ?_) (fun _ => ?_)
    · refine ⟨G, _, S1, fun v0 G4 H4 e4 S4 a0 => ?_⟩
      obtain ⟨la, xs, rfl, hla, axs⟩ := a0.inL
      refine ⟨_, rfl, _, rfl, p, 16, o1, _, rfl, S4.get 0 rfl, w1, by omega, by decide, by decide, fun r2 o2 hr2 w2 => ?_⟩
      have S5 : Has G4 _ ((p, o2) :: l) := S4.set 0 rfl
      generalize upd H4 p o2 = H5 at S5
      obtain ⟨v, d, hv, ad⟩ := odd_pick axs (show r2 < 16 from hr2)
      refine ⟨la, xs, r2, v, rfl, rfl, Evl.sq_of (S5.ex _ _ hla), atI_nat hv, ?_⟩
      exact q G4 H5 o2 _ d e4 S5 (w2.up (by omega)) ad
    -- rows put together
    have cat : ∀ {G H : Hp} {v1 v2 : V} {d1 d2 : List OD} {Q : VK}, Has G H ((p, o1) :: l) → AtD T N G v1 (.lst d1) → AtD T N G v2 (.lst d2) → d1.length + d2.length ≤ 1000 → (∀ v G' H', Ex G G' → Has G' H' ((p, o1) :: l) → AtD T N G' v (.lst (d1 ++ d2)) → Q v H') → rCat v1 v2 H Q := fun {G H v1 v2 d1 d2 Q} S a1 a2 le c => by
      obtain ⟨x1, xs1, rfl, h1, b1⟩ := a1.inL
      obtain ⟨x2, xs2, rfl, h2, b2⟩ := a2.inL
      refine ⟨x1, x2, xs1, xs2, rfl, rfl, S.ex _ _ h1, S.ex _ _ h2, sz (by rw [b1.1, b2.1]; omega), fun t nt => ?_⟩
      obtain ⟨G3, e3, ht, S3⟩ := (S.new (o := .lst (xs1 ++ xs2)) nt).intoG
      exact c _ G3 _ e3 S3 (((b1.append b2).ex e3).mkL ht)
    -- 3: tuples
    refine ⟨_, rfl, rfl, _, rfl, ?_⟩
    refine ite2 (fun _ => ?_) (fun _ => ?_)
    · refine ⟨G, _, S1, fun v0 G4 H4 e4 S4 a0 => ?_⟩
      refine ⟨_, rfl, G4, _, S4, fun v1 G5 H5 e5 S5 a1 => ?_⟩
      refine cat S5 (a0.ex e5) a1 (by decide) fun v2 G6 H6 e6 S6 a2 => ?_
      refine ⟨_, rfl, G6, _, S6, fun v3 G7 H7 e7 S7 a3 => ?_⟩
      refine cat S7 (a2.ex e7) a3 (by decide) fun v4 G8 H8 e8 S8 a4 => ?_
      refine ⟨_, rfl, G8, _, S8, fun v5 G9 H9 e9 S9 a5 => ?_⟩
      refine cat S9 (a4.ex e9) a5 (by decide) fun v6 G10 H10 e10 S10 a6 => ?_
      obtain ⟨la, xs, rfl, hla, axs⟩ := a6.inL
      refine ⟨_, rfl, p, 25, o1, _, rfl, S10.get 0 rfl, w1, by omega, by decide, by decide, fun r2 o2 hr2 w2 => ?_⟩
      have S11 : Has G10 _ ((p, o2) :: l) := S10.set 0 rfl
      generalize upd H10 p o2 = H11 at S11
      obtain ⟨v, d, hv, ad⟩ := odd_pick axs (show r2 < 25 from hr2)
      refine ⟨la, xs, r2, v, rfl, rfl, Evl.sq_of (S11.ex _ _ hla), atI_nat hv, ?_⟩
      exact q G10 H11 o2 _ d (((((e4.trans e5).trans e6).trans e7).trans e8).trans (e9.trans e10)) S11 (w2.up (by omega)) ad
    -- 6, 7: far ones
    refine ⟨_, rfl, _, _, rfl, rfl, _, rfl, ?_⟩
    refine ite2 (fun _ => ?_) (fun _ => ?_)
    · exact ⟨_, rfl, _, rfl, G, l, p, o1, _, _, rfl, S1, w1, by omega, fun G2 H2 o2 v d e2 S2 w2 a2 => q G2 H2 o2 v d e2 S2 (w2.up (by omega)) a2⟩
    -- 4: lists, tables, an exception
    refine ⟨G, _, S1, fun v0 G4 H4 e4 S4 a0 => ?_⟩
    refine ⟨_, rfl, G4, _, S4, fun v1 G5 H5 e5 S5 a1 => ?_⟩
    refine cat S5 (a0.ex e5) a1 (by decide) fun v2 G6 H6 e6 S6 a2 => ?_
    refine ⟨_, rfl, G6, _, S6, fun v3 G7 H7 e7 S7 a3 => ?_⟩
    refine cat S7 (a2.ex e7) a3 (by decide) fun v4 G8 H8 e8 S8 a4 => ?_
    obtain ⟨la, xs, rfl, hla, axs⟩ := a4.inL
    refine ⟨_, rfl, p, 20, o1, _, rfl, S8.get 0 rfl, w1, by omega, by decide, by decide, fun r2 o2 hr2 w2 => ?_⟩
    have S11 : Has G8 _ ((p, o2) :: l) := S8.set 0 rfl
    generalize upd H8 p o2 = H11 at S11
    obtain ⟨v, d, hv, ad⟩ := odd_pick axs (show r2 < 20 from hr2)
    refine ⟨la, xs, r2, v, rfl, rfl, Evl.sq_of (S11.ex _ _ hla), atI_nat hv, ?_⟩
    exact q G8 H11 o2 _ d (((e4.trans e5).trans e6).trans (e7.trans e8)) S11 (w2.up (by omega)) ad
end
end TW
set_option Elab.async false
set_option linter.all false
set_option maxRecDepth 100000
set_option maxHeartbeats 1000000
/-! type(v) of an odd value, and what it is -/
namespace TW
open PySem PySem.Spec PyProof.Rows L2
def vTy (T N : Addr) : OD → V
  | .non => .ty "NoneType"
  | .bl _ => .ty "bool"
  | .int _ => .ty "int"
  | .str _ => .ty "str"
  | .lst _ => .ty "list"
  | .tup _ => .ty "tuple"
  | .tab => .ref T
  | .exc => .ref N
def nameD : OD → Option String
  | .non => some "NoneType"
  | .bl _ => some "bool"
  | .int _ => some "int"
  | .str _ => some "str"
  | .lst _ => some "list"
  | .tup _ => some "tuple"
  | .tab => none
  | .exc => none
theorem vTy_name {T N : Addr} {d : OD} {m : String} (h : nameD d = some m) : vTy T N d = .ty m := by
  cases d <;> first
    | (cases h; rfl)
    | cases h
theorem vTy_none {T N : Addr} {d : OD} (h : nameD d = none) : ∃ a, vTy T N d = .ref a := by
  cases d <;> first
    | exact ⟨_, rfl⟩
    | cases h
section
variable {X : Cx} {T N : Addr}
theorem call_typeD : CallR X (.type "type") (fun xs H Q => ∃ (x : V) (d : OD), xs = [x] ∧ AtD T N H x d ∧ Q (vTy T N d) H) := by
  intro pins s σ H xs us Q I r h
  obtain ⟨x, d, rfl, ad, q⟩ := h
  have lift : ∀ {n : String}, TyB X.K H x n → vTy T N d = .ty n → wpAny (model X.prog X.w) X.A (call (.type "type") us) (EP X pins σ Q) X.xe s := fun {n} t e => by
    obtain ⟨u, rfl, rx⟩ := vals1 r
    exact call_type_of (t.is I rx) t.nb ⟨.ty n, H, I, rfl, by rw [← e]; exact q⟩
  cases ad with
  | non => exact lift .non rfl
  | bl b => exact lift (.bl b) rfl
  | int i => exact lift (.int i) rfl
  | str y => exact lift (.str y) rfl
  | lst h l p => exact lift (.lst (Evl.sq_of h)) rfl
  | tup h l p n => exact lift (.tup (Evl.st_of h)) rfl
  | @tab a dx fs h =>
    obtain ⟨u, rfl, ru⟩ := vals1 r
    obtain rfl : u = Value.ref a := ru
    obtain ⟨mA, J, _⟩ := ins_get I.hok h
    obtain ⟨od, J, _⟩ := J.look
    obtain ⟨ho, hc, _⟩ := J
    obtain ⟨hh, g, dd, t, os⟩ := s
    exact call_type_obj ho (by rw [hc]; rfl) (by rw [hc]; exact ⟨.ref T, H, I, rfl, q⟩)
  | @exc a h =>
    obtain ⟨u, rfl, ru⟩ := vals1 r
    obtain rfl : u = Value.ref a := ru
    obtain ⟨⟨oe, vs, ho, hz, hd, _⟩, _, _⟩ := I.hok a _ h
    have hc : oe.cls = .ref N := hz.1
    obtain ⟨hh, g, dd, t, os⟩ := s
    exact call_type_obj ho (by rw [hc]; rfl) (by rw [hc]; exact ⟨.ref N, H, I, rfl, q⟩)
theorem op_isTyD : OpR X (compareOp .Is) (fun x y H Q => ∃ (d : OD) (m : String), x = vTy T N d ∧ y = .ty m ∧ Q (.bl (decide (nameD d = some m))) H) := by
  intro pins s σ H x y v u Q I rx ry h
  obtain ⟨d, m, rfl, rfl, q⟩ := h
  cases e : nameD d with
  | none =>
    obtain ⟨a, ea⟩ := vTy_none (T := T) (N := N) e
    rw [ea] at rx
    cases (show v = Value.ref a from rx)
    cases (show u = Value.type m from ry)
    rw [e, decide_eq_false (fun z => by cases z)] at q
    exact wpAny_is_other rfl (fun z => nomatch z) ⟨.bl false, H, I, rfl, q⟩
  | some n =>
    rw [vTy_name e] at rx
    refine op_isTy pins s σ H (.ty n) (.ty m) v u Q I rx ry ⟨n, m, rfl, rfl, ?_⟩
    rw [e] at q
    have ee : decide (some n = some m) = decide (n = m) := by
      rw [decide_eq_decide]
      exact ⟨fun z => Option.some.inj z, fun z => congrArg some z⟩
    rw [ee] at q
    exact q
theorem op_isNotTyD : OpR X (compareOp .IsNot) (fun x y H Q => ∃ (d : OD) (m : String), x = vTy T N d ∧ y = .ty m ∧ Q (.bl (!decide (nameD d = some m))) H) := by
  intro pins s σ H x y v u Q I rx ry h
  obtain ⟨d, m, rfl, rfl, q⟩ := h
  cases e : nameD d with
  | none =>
    obtain ⟨a, ea⟩ := vTy_none (T := T) (N := N) e
    rw [ea] at rx
    cases (show v = Value.ref a from rx)
    cases (show u = Value.type m from ry)
    rw [e, decide_eq_false (fun z => by cases z)] at q
    exact wpAny_isNot_other rfl (fun z => nomatch z) ⟨.bl true, H, I, rfl, q⟩
  | some n =>
    rw [vTy_name e] at rx
    refine op_isNotTy pins s σ H (.ty n) (.ty m) v u Q I rx ry ⟨n, m, rfl, rfl, ?_⟩
    rw [e] at q
    have ee : decide (some n = some m) = decide (n = m) := by
      rw [decide_eq_decide]
      exact ⟨fun z => Option.some.inj z, fun z => congrArg some z⟩
    rw [ee] at q
    exact q
end
end TW
set_option Elab.async false
set_option linter.all false
set_option maxRecDepth 100000
set_option maxHeartbeats 1000000
namespace TW
open PySem PySem.Spec PyProof.Rows L2
/-! the checks, asked of odd values -/
def intD : OD → Int → Bool
  | .int i, l => decide (l ≤ i)
  | _, _ => false
def thingD : OD → Option Int → Bool
  | .int i, t => decide (0 ≤ i) && inThings i t
  | _, _ => false
def intsD : List OD → Option (List Int)
  | [] => some []
  | .int i :: r => (intsD r).map (i :: ·)
  | _ :: _ => none
def isLotD : OD → Option Int → Bool
  | .tup ds, t => match intsD ds with
    | some ns => isLot ns t
    | none => false
  | _, _ => false
theorem intsD_map : ∀ {ds : List OD} {ns : List Int}, intsD ds = some ns → ds = ns.map OD.int
  | [], ns, h => by
    cases h
    rfl
  | d :: ds, ns, h => by
    cases d with
    | int i =>
      cases e : intsD ds with
      | none =>
        have h : (intsD ds).map (i :: ·) = some ns := h
        rw [e] at h
        cases h
      | some ms =>
        have h : (intsD ds).map (i :: ·) = some ns := h
        rw [e] at h
        cases h
        rw [intsD_map e]
        rfl
    | _ => cases h
theorem intsD_of : ∀ (ds : List OD) (t : Option Int), (ds.all fun d => thingD d t) = true → ∃ ns, intsD ds = some ns
  | [], _, _ => ⟨[], rfl⟩
  | d :: ds, t, h => by
    rw [List.all_cons, Bool.and_eq_true] at h
    obtain ⟨ns, e⟩ := intsD_of ds t h.2
    cases d with
    | int i => exact ⟨i :: ns, by show (intsD ds).map (i :: ·) = _; rw [e]; rfl⟩
    | _ => exact absurd h.1 (by simp [thingD])
theorem all_ints (ns : List Int) (t : Option Int) : ((ns.map OD.int).all fun d => thingD d t) = ns.all fun n => decide (0 ≤ n) && inThings n t := by
  rw [List.all_map]
  rfl
/-- all are things, and they ascend -/
theorem isLotD_tup (ds : List OD) (t : Option Int) : (∀ ns, intsD ds = some ns → ((ds.all fun d => thingD d t) && asc ns) = isLotD (.tup ds) t) ∧ (intsD ds = none → (ds.all fun d => thingD d t) = false ∧ isLotD (.tup ds) t = false) := by
  constructor
  · intro ns e
    show _ = (match intsD ds with | some ns => isLot ns t | none => false)
    rw [e, intsD_map e, all_ints]
    rfl
  · intro e
    constructor
    · rw [Bool.eq_false_iff]
      intro h
      obtain ⟨ns, e2⟩ := intsD_of ds t h
      rw [e] at e2
      cases e2
    · show (match intsD ds with | some ns => isLot ns t | none => false) = false
      rw [e]
section
variable {P : Program} {w : World} {K : PySem.W.Frag} {mg : Str → Option Value} {base : Heap} {T N : Addr}
def spIsIntO (T N : Addr) : Sp := fun vs H Q _ => ∃ (x : V) (d : OD) (l : Int), vs = [x, .int l] ∧ AtD T N H x d ∧ Q (.bl (intD d l)) H
theorem ok_is_integerO (D : Dfn K mg "is_integer" s_is_integer ["value", "least"]) (z : Z mg) : Ok P w K mg base 1 "is_integer" ["value", "least"] (spIsIntO T N) := D.ok fun f fd F => by
  refine F.ok sc_is_integer (fun vs H Q E h => ?_) (fun cdv A outer s H vs Q E hr h => ?_)
  · obtain ⟨x, d, l, rfl, _⟩ := h
    rfl
  · obtain ⟨x, d, l, rfl, ad, q⟩ := h
    refine ⟨_, (pss_one (ps_ret (pe_and (pe_cmpR (op_isTyD (T := T) (N := N)) (pe_callTy (call_typeD (T := T) (N := N)) (by rfl) z.type (by decide +kernel) (pa_cons (pv 0) pa_nil)) (pe_tyn (n := "int") (by rfl) z.int (by decide +kernel)) (nomark _)) (pe_one (pe_cmpR op_ge (pv 0) (pv 1) (nomark _)))))), ?_⟩
    refine ⟨_, rfl, x, d, rfl, ad, d, "int", rfl, rfl, _, rfl, ?_⟩
    cases ad with
    | int i => exact ⟨_, rfl, _, rfl, _, _, rfl, rfl, q⟩
    | _ => exact q
def spIsThingO (T N : Addr) : Sp := fun vs H Q _ => ∃ (x : V) (d : OD) (t : Option Int), vs = [x, thV t] ∧ AtD T N H x d ∧ Q (.bl (thingD d t)) H
theorem ok_is_thingO (D : Dfn K mg "is_thing" s_is_thing ["value", "things"]) (O_is_integer : Ok P w K mg base 1 "is_integer" ["value", "least"] (spIsIntO T N)) : Ok P w K mg base 2 "is_thing" ["value", "things"] (spIsThingO T N) := D.ok fun f fd F => by
  refine F.ok sc_is_thing (fun vs H Q E h => ?_) (fun cdv A outer s H vs Q E hr h => ?_)
  · obtain ⟨x, d, t, rfl, _⟩ := h
    rfl
  · obtain ⟨x, d, t, rfl, ad, q⟩ := h
    refine ⟨_, (pss_one (ps_ret (pe_and (pe_o O_is_integer hr (pa_cons (pv 0) (pa_cons pe_int pa_nil))) (pe_one (pe_or (pe_cmpR op_isN (pv 1) pe_non (nomark _)) (pe_one (pe_cmpR op_lt (pv 0) (pv 1) (nomark _)))))))), ?_⟩
    refine ⟨_, rfl, x, d, _, rfl, ad, _, rfl, ?_⟩
    cases ad with
    | int i =>
      have q : Q (.bl (decide (0 ≤ i) && inThings i t)) H := q
      show if decide (0 ≤ i) = true then _ else _
      cases h0 : decide (0 ≤ i) with
      | false =>
        rw [h0] at q
        exact q
      | true =>
        rw [h0] at q
        cases t with
        | none => exact ⟨_, rfl, rfl, _, rfl, q⟩
        | some n => exact ⟨_, rfl, rfl, _, rfl, _, rfl, _, rfl, _, _, rfl, rfl, q⟩
    | _ => exact q
def spIsLotO (T N : Addr) : Sp := fun vs H Q _ => ∃ (x : V) (d : OD) (t : Option Int), vs = [x, thV t] ∧ AtD T N H x d ∧ (∀ ds, d = .tup ds → ds.length ≤ 1000) ∧ ∀ H', Ex H H' → Q (.bl (isLotD d t)) H'
theorem ok_is_lotO (D : Dfn K mg "is_lot" s_is_lot ["value", "things"]) (z : Z mg) (O_is_thing : Ok P w K mg base 2 "is_thing" ["value", "things"] (spIsThingO T N)) (O_is_ascending : Ok P w K mg base 1 "is_ascending" ["values"] (spIsAsc K)) : Ok P w K mg base 3 "is_lot" ["value", "things"] (spIsLotO T N) := D.ok fun f fd F => by
  refine F.ok sc_is_lot (fun vs H Q E h => ?_) (fun cdv A outer s H vs Q E hr h => ?_)
  · obtain ⟨x, d, t, rfl, _⟩ := h
    rfl
  · obtain ⟨x, d, t, rfl, ad, len, q⟩ := h
    refine ⟨_, (pss_cons (ps_if (pt_cmpR (op_isNotTyD (T := T) (N := N)) (pe_callTy (call_typeD (T := T) (N := N)) (by rfl) z.type (by decide +kernel) (pa_cons (pv 0) pa_nil)) (pe_tyn (n := "tuple") (by rfl) z.tuple (by decide +kernel)) (nomark _)) (pss_one (ps_ret pe_bl)) pss_nil)
      (pss_one (ps_ret (pe_and (pe_callB (cr_all rfl) (by rfl) z.all (by decide +kernel) (pa_cons (pe_lc (own := [("thing", 2)]) (g := gName 2) rfl sc_is_lot.nd (pi_tup (pv 0)) (blkOk_by (N := ["value", "things", "thing"]) (own := [("thing", 2)]) (sc := defScope s_is_lot) (by decide +kernel)) (fun _ _ _ _ _ => pg_name (i := 2) sc_is_lot.nd rfl (Or.inl rfl)) (fun _ _ _ _ _ => pts_nil) (fun _ _ _ _ _ => (pe_o O_is_thing (hr.mono (by decide)) (pa_cons (pv 2) (pa_cons (pv 1) pa_nil))))) pa_nil)) (pe_one (pe_o O_is_ascending (hr.mono (by decide)) (pa_cons (pv 0) pa_nil))))))), ?_⟩
    refine ⟨_, rfl, x, d, rfl, ad, d, "tuple", rfl, rfl, _, rfl, ?_⟩
    cases d with
    | tup ds =>
      have le := len ds rfl
      obtain ⟨a, xs, rfl, ha, axs⟩ := ad.inT
      refine ⟨_, rfl, a, rfl, ⟨_, Evl.st_of ha⟩, fun Dl hD => ?_⟩
      refine lc_tup (K := K) (a := a) (xs := xs) (fun i H' => Has H H' [(Dl, .lst (((ds.map fun d => thingD d t).take i).map V.bl))]) (Has.nil.new hD) (fun i H' _ S => Evl.st_of (S.ex _ _ ha)) ?_ ?_
      · rintro i v H1 hi S1
        obtain ⟨d, hd, av⟩ := axs.get hi
        have hlt := (List.getElem?_eq_some_iff.mp hd).1
        refine ⟨rfl, _, rfl, _, rfl, v, d, t, rfl, av.ex S1.ex, _, S1.get 0 rfl, szl (by rw [List.length_map, List.length_take, List.length_map]; omega), ?_⟩
        rw [take_snoc (show (ds.map fun d => thingD d t)[i]? = some (thingD d t) by rw [List.getElem?_map, hd]; rfl), List.map_append]
        exact S1.set 0 rfl
      · rintro H1 S1
        have lx : xs.length = (ds.map fun d => thingD d t).length := by rw [List.length_map]; exact axs.1
        rw [lx, List.take_length] at S1
        refine ⟨Dl, _, rfl, Evl.sq_of (S1.get 0 rfl), _, rfl, ?_⟩
        rw [List.all_map, show (id ∘ fun d => thingD d t) = fun d => thingD d t from rfl]
        obtain ⟨k1, k2⟩ := isLotD_tup ds t
        cases e : intsD ds with
        | none =>
          obtain ⟨e1, e2⟩ := k2 e
          rw [e1]
          have := q H1 S1.ex
          rw [e2] at this
          exact this
        | some ns =>
          have k := k1 ns e
          have q' : ∀ H', Ex H H' → Q (.bl ((ds.all fun d => thingD d t) && asc ns)) H' := fun H' e => by
            rw [k]
            exact q H' e
          cases c : (ds.all fun d => thingD d t) with
          | false =>
            have := q' H1 S1.ex
            rw [c] at this
            exact this
          | true =>
            have em := intsD_map e
            subst em
            refine ⟨_, rfl, a, ns, rfl, ?_, by rw [List.length_map] at le; exact le, fun H2 e2 => ?_⟩
            · rw [← axs.ints]
              exact Evl.st_of (S1.ex _ _ ha)
            · have := q' H2 (S1.ex.trans e2)
              rw [c] at this
              exact this
    | _ => exact q H (Evl.Ex.refl _)
end
end TW
set_option Elab.async false
set_option linter.all false
set_option maxRecDepth 100000
set_option maxHeartbeats 1000000
/-! isinstance of odd values and built-in classes -/
namespace TW
open PySem PySem.Spec PyProof.Rows L2
def isL : OD → Bool
  | .lst _ => true
  | _ => false
def isT : OD → Bool
  | .tup _ => true
  | _ => false
def isB : OD → Bool
  | .bl _ => true
  | _ => false
def isI : OD → Bool
  | .bl _ => true
  | .int _ => true
  | _ => false
/-- no table and no exception is a list, a tuple, a truth or a number -/
structure NotB (K : PySem.W.Frag) (T N : Addr) : Prop where
  tl : PySem.W.kitOne K (.ref T) (.type "list") = some false
  tt : PySem.W.kitOne K (.ref T) (.type "tuple") = some false
  tb : PySem.W.kitOne K (.ref T) (.type "bool") = some false
  ti : PySem.W.kitOne K (.ref T) (.type "int") = some false
  nl : PySem.W.kitOne K (.ref N) (.type "list") = some false
  nt : PySem.W.kitOne K (.ref N) (.type "tuple") = some false
  nb : PySem.W.kitOne K (.ref N) (.type "bool") = some false
  ni : PySem.W.kitOne K (.ref N) (.type "int") = some false
section
variable {K : PySem.W.Frag} {T N : Addr}
theorem NotB.isL (h : NotB K T N) (d : OD) : PySem.W.kitOne K (tyD T N d) (.type "list") = some (isL d) := by
  cases d with
  | tab => exact h.tl
  | exc => exact h.nl
  | _ => first | exact kit_ty (r := false) (by decide +kernel) | exact kit_ty (r := true) (by decide +kernel)
theorem NotB.isT (h : NotB K T N) (d : OD) : PySem.W.kitOne K (tyD T N d) (.type "tuple") = some (isT d) := by
  cases d with
  | tab => exact h.tt
  | exc => exact h.nt
  | _ => first | exact kit_ty (r := false) (by decide +kernel) | exact kit_ty (r := true) (by decide +kernel)
theorem NotB.isB (h : NotB K T N) (d : OD) : PySem.W.kitOne K (tyD T N d) (.type "bool") = some (isB d) := by
  cases d with
  | tab => exact h.tb
  | exc => exact h.nb
  | _ => first | exact kit_ty (r := false) (by decide +kernel) | exact kit_ty (r := true) (by decide +kernel)
theorem NotB.isI (h : NotB K T N) (d : OD) : PySem.W.kitOne K (tyD T N d) (.type "int") = some (isI d) := by
  cases d with
  | tab => exact h.ti
  | exc => exact h.ni
  | _ => first | exact kit_ty (r := false) (by decide +kernel) | exact kit_ty (r := true) (by decide +kernel)
theorem NotB.isLT (h : NotB K T N) (d : OD) : PySem.W.kitAny K (tyD T N d) [.type "list", .type "tuple"] = some (TW.isL d || TW.isT d) := by
  refine kitAny_cons (h.isL d) (fun e => ?_) fun e => by rw [e]; rfl
  rw [e, Bool.false_or]
  refine kitAny_cons (h.isT d) (fun e => ?_) fun e => e
  rw [e]
  rfl
end
section
variable {X : Cx} {T N : Addr}
theorem call_isDT (TI : C8.InsC X.K T) (NE : ExcC X.K N) : CallR X (.builtin "isinstance") (fun xs H Q => ∃ (x : V) (tp : Addr) (cs : List V) (d : OD) (us : List Value) (b : Bool), xs = [x, .ref tp] ∧ H tp = some (.tup cs) ∧ Paired ClsV cs us ∧ AtD T N H x d ∧ PySem.W.kitAny X.K (tyD T N d) us = some b ∧ Q (.bl b) H) := by
  intro pins s σ H xs us Q I r h
  obtain ⟨x, tp, cs, d, ws, b, rfl, hT, k, ty, e, q⟩ := h
  obtain ⟨u1, u2, rfl, r1, r2⟩ := vals2 r
  cases (show u2 = Value.ref tp from r2)
  obtain ⟨P, Z, p, hx⟩ := kit_odd TI NE I r1 ty
  obtain ⟨_, its, rv, o, h1, h2, n, h3⟩ := (show ObjOk X.prog X.w H s.heap tp (.tup cs) from I.hok tp _ hT)
  have e3 := ClsV.all k rv
  subst e3
  obtain ⟨oc, od, dt, sl⟩ := o
  simp only at h2 h3
  subst h2 h3
  exact PySem.W.kia_tup Z I.kIn p h1 e hx fun tk => ⟨.bl b, H, I.tok tk, rfl, q⟩
end
end TW
set_option Elab.async false
set_option linter.all false
set_option maxRecDepth 100000
set_option maxHeartbeats 2000000
namespace TW
open PySem PySem.Spec PyProof.Rows L2
/-- nested so deep at most, no row longer than 100 -/
def okD : Nat → OD → Prop
  | 0, d => isL d = false ∧ isT d = false
  | m + 1, .lst ds => ds.length ≤ 100 ∧ ∀ e ∈ ds, okD m e
  | m + 1, .tup ds => ds.length ≤ 100 ∧ ∀ e ∈ ds, okD m e
  | _ + 1, _ => True
def rowD : OD → List OD
  | .lst ds => ds
  | .tup ds => ds
  | _ => []
theorem cut_mid {xs : List V} {r : Nat} (h : r ≤ xs.length) : cutV xs (some (r : Int)) (some ((r + 1 : Nat) : Int)) = (xs.drop r).take (min (r + 1) xs.length - r) := by
  unfold cutV
  rw [HT.sIx_nat, HT.sIx_nat, Nat.min_eq_left h]
theorem cut_toN {xs : List V} {r : Nat} : cutV xs none (some (r : Int)) = xs.take (min r xs.length) := by
  unfold cutV
  rw [HT.sIx_nat, HT.sIx_none, List.drop_zero, Nat.sub_zero]
theorem cut_onN {xs : List V} {r : Nat} : cutV xs (some (r : Int)) none = xs.drop (min r xs.length) := by
  unfold cutV
  rw [HT.sIx_nat, HT.sIx_none]
  exact List.take_of_length_le (by rw [List.length_drop]; exact Nat.le_refl _)
section
variable {T N : Addr} {G : Hp} {xs : List V} {ds : List OD}
theorem AtsD.take (h : AtsD T N G xs ds) (r : Nat) : AtsD T N G (xs.take r) (ds.take r) := ⟨by rw [List.length_take, List.length_take, h.1], fun i x d h1 h2 => by
  rw [List.getElem?_take] at h1 h2
  split at h1
  · rename_i c
    rw [if_pos c] at h2
    exact h.2 i x d h1 h2
  · cases h1⟩
theorem AtsD.drop (h : AtsD T N G xs ds) (r : Nat) : AtsD T N G (xs.drop r) (ds.drop r) := ⟨by rw [List.length_drop, List.length_drop, h.1], fun i x d h1 h2 => by
  rw [List.getElem?_drop] at h1 h2
  exact h.2 _ x d h1 h2⟩
end
/-- the row bent in the manner i, else as it was -/
def tBend (T N : Addr) (i : Nat) : TS := fun D σ H => ∃ (G : Hp) (l : List (Addr × HO)) (p row : Addr) (o : HO) (k m a : Nat) (x : V) (xs : List V) (ds : List OD), σ = [some (.ref p), some x, some (.int m), some (.ref row), some (.int a)] ∧ Has G H ((row, .lst xs) :: (p, o) :: l) ∧ WellO k o ∧ k < 10 ^ 7 ∧ AtsD T N G xs ds ∧ xs.length ≤ 10000 ∧ (m = i → a ≤ xs.length) ∧
  ∀ (G' H' : Hp) (o' : HO) (row' : Addr) (xs' : List V) (ds' : List OD), Ex G G' → Has G' H' ((row', .lst xs') :: (p, o') :: l) → WellO (k + 50) o' → AtsD T N G' xs' ds' → xs'.length ≤ 2 * xs.length + 2 → (m = i ∨ (xs' = xs ∧ ds' = ds)) → D.nx [some (.ref p), some x, some (.int m), some (.ref row'), some (.int a)] H'
/-- one member of the row bent in its turn -/
def tBendR (T N : Addr) (n : Nat) : TS := fun D σ H => ∃ (j : Nat) (G : Hp) (l : List (Addr × HO)) (p row : Addr) (o : HO) (k m a : Nat) (x : V) (xs : List V) (ds : List OD), n = j + 1 ∧ σ = [some (.ref p), some x, some (.int m), some (.ref row), some (.int a)] ∧ Has G H ((row, .lst xs) :: (p, o) :: l) ∧ WellO k o ∧ k + 300 * j < 10 ^ 6 ∧ AtsD T N G xs ds ∧ xs.length ≤ 10000 ∧ (4 < m → ∀ e ∈ ds, okD j e) ∧
  ∀ (G' H' : Hp) (o' : HO) (xs' : List V) (ds' : List OD), Ex G G' → Has G' H' ((row, .lst xs') :: (p, o') :: l) → WellO (k + 300 * (j + 1)) o' → AtsD T N G' xs' ds' → xs'.length = xs.length → D.nx [some (.ref p), some x, some (.int m), some (.ref row), some (.int a)] H'
section
variable {P : Program} {w : World} {K : PySem.W.Frag} {mg : Str → Option Value} {base : Heap} {T N : Addr}
abbrev NBE : List Str := ["well", "kept", "manner", "row", "at"]
theorem sc_law_bent : FnScope NBE ["well", "kept"] (defScope s__law_bent) := ⟨rfl, rfl, rfl, by decide +kernel, rfl, by decide +kernel, by decide +kernel⟩
def spBent (T N : Addr) (m : Nat) : Sp := fun vs H Q _ => ∃ (G : Hp) (l : List (Addr × HO)) (p : Addr) (o : HO) (k : Nat) (x : V) (d : OD), vs = [.ref p, x] ∧ Has G H ((p, o) :: l) ∧ WellO k o ∧ k + 300 * m < 10 ^ 6 ∧ AtD T N G x d ∧ okD m d ∧
  ∀ (G' H' : Hp) (o' : HO) (v : V) (d' : OD), Ex G G' → Has G' H' ((p, o') :: l) → WellO (k + 300 * (m + 1)) o' → AtD T N G' v d' → Q v H'
theorem bent_body {f : Addr} {fd : FuncData} (F : Fun K "_law_bent" "_law_bent" s__law_bent f fd) (z : Z mg) (TI : C8.InsC K T) (NE : ExcC K N) (NB : NotB K T N) (O_dip : Ok P w K mg base 1 "_law_dip" ["well", "upto"] spDipW) (O_odd : Ok P w K mg base 6 "_law_odd" ["well"] (spOdd T N)) (n : Nat) (O_bent : Ok P w K mg base (n + 6) "_law_bent" ["well", "kept"] (match n with | 0 => fun _ _ _ _ => False | m + 1 => spBent T N m)) : FnOk P w K mg base CX0 (n + 7) f fd ["well", "kept"] (spBent T N n) := by
  refine F.ok sc_law_bent (fun vs H Q E h => ?_) (fun cdv A outer s H vs Q E hr h => ?_)
  · obtain ⟨G, l, p, o, k, x, d, rfl, _⟩ := h
    rfl
  · obtain ⟨G, l, p, o, k, x, d, rfl, S, wo, hk, ad, okd, q⟩ := h
    have isa := call_isD (X := (cxOf CX0 P w K mg base NBE "_law_bent" (defScope s__law_bent) f cdv A outer s H E).nox) TI NE
    have isa2 := call_isDT (X := (cxOf CX0 P w K mg base NBE "_law_bent" (defScope s__law_bent) f cdv A outer s H E).nox) TI NE
    refine ⟨_, (pss_cons (ps_set (i := 2) sc_law_bent.nd rfl (Or.inl rfl) (pe_o O_dip (hr.mono (by omega)) (pa_cons (pv 0) (pa_cons pe_int pa_nil))))
      (pss_cons (ps_if (PW.pt (pw_or (pt_not (pt_val (pe_callB isa2 (by rfl) z.isinstance (by decide +kernel) (pa_cons (pv 1) (pa_cons (pe_tup (pa_cons (pe_tyn (n := "list") (by rfl) z.list (by decide +kernel)) (pa_cons (pe_tyn (n := "tuple") (by rfl) z.tuple (by decide +kernel)) pa_nil))) pa_nil))))) (pw_or1 (pt_cmpR op_eq (pv 2) pe_int (nomark _))))) (pss_one (ps_ret (pe_o O_odd (hr.mono (by omega)) (pa_cons (pv 0) pa_nil)))) pss_nil)
      (pss_cons (ps_set (i := 3) sc_law_bent.nd rfl (Or.inl rfl) (pe_callTy call_list_of (by rfl) z.list (by decide +kernel) (pa_cons (pv 1) pa_nil)))
      (pss_cons (ps_if (pt_cmpR op_eq (pv 2) pe_int (nomark _)) (pss_one (ps_ret (pe_ifExp (pt_val (pe_callB isa (by rfl) z.isinstance (by decide +kernel) (pa_cons (pv 1) (pa_cons (pe_tyn (n := "list") (by rfl) z.list (by decide +kernel)) pa_nil)))) (pe_callTy call_tuple_of (by rfl) z.tuple (by decide +kernel) (pa_cons (pv 3) pa_nil)) (pv 3)))) pss_nil)
      (pss_cons (ps_set (i := 4) sc_law_bent.nd rfl (Or.inl rfl) (pe_o O_dip (hr.mono (by omega)) (pa_cons (pv 0) (pa_cons (pe_op op_add (pe_callB call_len_seq (by rfl) z.len PySem.boot_len (pa_cons (pv 3) pa_nil)) pe_int) pa_nil))))
      (pss_cons (PS.imp (t' := tBend T N 1) (ps_if (pt_cmpR op_eq (pv 2) pe_int (nomark _)) (pss_one (ps_expr (pe_bm PySem.F.plainAttrs_list PySem.F.slot_list_insert PySem.F.type_list_insert mt_insert (pv 3) (pa_cons (pv 4) (pa_cons (pe_o O_odd (hr.mono (by omega)) (pa_cons (pv 0) pa_nil)) pa_nil))))) pss_nil) (fun D σ H h => by
          obtain ⟨G, l, p, row, o, k, m, a, x, xs, ds, rfl, S, wo, hk, ax, lx, ha, q⟩ := h
          refine ⟨_, rfl, rfl, _, rfl, ?_⟩
          refine ite2 (fun hc => ?_) (fun _ => q G H o row xs ds (Evl.Ex.refl _) S (wo.up (by omega)) ax (by omega) (.inr ⟨rfl, rfl⟩))
          have hm : m = 1 := by
            have := V.int.inj (of_decide_eq_true hc)
            omega
          have ha := ha hm
          refine ⟨_, rfl, .inl ⟨rfl, _, Evl.sq_of (S.get 0 rfl)⟩, _, rfl, _, rfl, G, _, p, o, k, rfl, S.swap, wo, by omega, fun G1 H1 o1 v d e1 S1' w1 ad => ?_⟩
          have S1 := S1'.swap
          refine ⟨row, xs, a, v, rfl, rfl, S1.get 0 rfl, by have : sizeLine = 16777216 := sizeLine_eq; omega, by omega, by omega, ?_⟩
          rw [show ((a : Nat) : Int).toNat = a by omega]
          exact q G1 _ o1 row _ (ds.take a ++ [d] ++ ds.drop a) e1 (S1.set 0 rfl) (w1.up (by omega)) ((((ax.ex e1).take a).append (.cons ad .nil)).append ((ax.ex e1).drop a)) (by rw [List.length_append, List.length_append, List.length_take, List.length_drop]; show _ + 1 + _ ≤ _; omega) (.inl hm)))
      (pss_cons (PS.imp (t' := tBend T N 2) (ps_if (pt_cmpR op_eq (pv 2) pe_int (nomark _)) (pss_one (ps_set (i := 3) sc_law_bent.nd rfl (Or.inl rfl) (pe_op op_cat (pe_slice sl_list (pv 3) po_none (po_some (pv 4))) (pe_slice sl_list (pv 3) (po_some (pe_op op_add (pv 4) pe_int)) po_none)))) pss_nil) (fun D σ H h => by
          obtain ⟨G, l, p, row, o, k, m, a, x, xs, ds, rfl, S, wo, hk, ax, lx, ha, q⟩ := h
          refine ⟨_, rfl, rfl, _, rfl, ?_⟩
          refine ite2 (fun hc => ?_) (fun _ => q G H o row xs ds (Evl.Ex.refl _) S (wo.up (by omega)) ax (by omega) (.inr ⟨rfl, rfl⟩))
          have hm : m = 2 := by
            have := V.int.inj (of_decide_eq_true hc)
            omega
          refine ⟨_, rfl, _, rfl, (a : Int), rfl, row, xs, rfl, Evl.sq_of (S.get 0 rfl), fun q1 n1 => ?_⟩
          rw [cut_toN]
          have S1 := S.new (o := .lst (xs.take (min a xs.length))) n1
          generalize upd H q1 (.lst (xs.take (min a xs.length))) = H1 at S1
          refine ⟨_, rfl, _, rfl, _, _, rfl, rfl, ((a + 1 : Nat) : Int), by rw [Int.natCast_add]; rfl, row, xs, rfl, Evl.sq_of (S1.get 1 rfl), fun q2 n2 => ?_⟩
          rw [cut_onN]
          have S2 := S1.new (o := .lst (xs.drop (min (a + 1) xs.length))) n2
          generalize upd H1 q2 (.lst (xs.drop (min (a + 1) xs.length))) = H2 at S2
          refine ⟨q1, q2, _, _, rfl, rfl, S2.get 1 rfl, S2.get 0 rfl, sz (by rw [List.length_take, List.length_drop]; omega), fun c nc => ?_⟩
          have S3 := (((S2.new (o := .lst (xs.take (min a xs.length) ++ xs.drop (min (a + 1) xs.length))) nc).drop2).drop2).drop2
          exact q G _ o c _ _ (Evl.Ex.refl _) S3 (wo.up (by omega)) ((ax.take _).append (ax.drop _)) (by rw [List.length_append, List.length_take, List.length_drop]; omega) (.inl hm)))
      (pss_cons (PS.imp (t' := tBend T N 3) (ps_if (pt_cmpR op_eq (pv 2) pe_int (nomark _)) (pss_one (ps_set (i := 3) sc_law_bent.nd rfl (Or.inl rfl) (pe_op op_cat (pe_op op_cat (pe_slice sl_list (pv 3) po_none (po_some (pv 4))) (pe_slice sl_list (pv 3) (po_some (pv 4)) (po_some (pe_op op_add (pv 4) pe_int)))) (pe_slice sl_list (pv 3) (po_some (pv 4)) po_none)))) pss_nil) (fun D σ H h => by
          obtain ⟨G, l, p, row, o, k, m, a, x, xs, ds, rfl, S, wo, hk, ax, lx, ha, q⟩ := h
          refine ⟨_, rfl, rfl, _, rfl, ?_⟩
          refine ite2 (fun hc => ?_) (fun _ => q G H o row xs ds (Evl.Ex.refl _) S (wo.up (by omega)) ax (by omega) (.inr ⟨rfl, rfl⟩))
          have hm : m = 3 := by
            have := V.int.inj (of_decide_eq_true hc)
            omega
          have ha := ha hm
          refine ⟨_, rfl, _, rfl, (a : Int), rfl, row, xs, rfl, Evl.sq_of (S.get 0 rfl), fun q1 n1 => ?_⟩
          rw [cut_toN]
          have S1 := S.new (o := .lst (xs.take (min a xs.length))) n1
          generalize upd H q1 (.lst (xs.take (min a xs.length))) = H1 at S1
          refine ⟨_, rfl, _, rfl, (a : Int), rfl, _, rfl, _, _, rfl, rfl, ((a + 1 : Nat) : Int), by rw [Int.natCast_add]; rfl, row, xs, rfl, Evl.sq_of (S1.get 1 rfl), fun q2 n2 => ?_⟩
          rw [cut_mid ha]
          have S2 := S1.new (o := .lst ((xs.drop a).take (min (a + 1) xs.length - a))) n2
          generalize upd H1 q2 (.lst ((xs.drop a).take (min (a + 1) xs.length - a))) = H2 at S2
          refine ⟨q1, q2, _, _, rfl, rfl, S2.get 1 rfl, S2.get 0 rfl, sz (by rw [List.length_take, List.length_take, List.length_drop]; omega), fun c nc => ?_⟩
          have S3 := ((S2.new (o := .lst (xs.take (min a xs.length) ++ (xs.drop a).take (min (a + 1) xs.length - a))) nc).drop2).drop2
          generalize upd H2 c (.lst (xs.take (min a xs.length) ++ (xs.drop a).take (min (a + 1) xs.length - a))) = H3 at S3
          refine ⟨_, rfl, _, rfl, (a : Int), rfl, row, xs, rfl, Evl.sq_of (S3.get 1 rfl), fun q3 n3 => ?_⟩
          rw [cut_onN]
          have S4 := S3.new (o := .lst (xs.drop (min a xs.length))) n3
          generalize upd H3 q3 (.lst (xs.drop (min a xs.length))) = H4 at S4
          refine ⟨c, q3, _, _, rfl, rfl, S4.get 1 rfl, S4.get 0 rfl, sz (by rw [List.length_append, List.length_take, List.length_take, List.length_drop, List.length_drop]; omega), fun c2 nc2 => ?_⟩
          have S5 := (((S4.new (o := .lst ((xs.take (min a xs.length) ++ (xs.drop a).take (min (a + 1) xs.length - a)) ++ xs.drop (min a xs.length))) nc2).drop2).drop2).drop2
          exact q G _ o c2 _ _ (Evl.Ex.refl _) S5 (wo.up (by omega)) (((ax.take _).append ((ax.drop _).take _)).append (ax.drop _)) (by rw [List.length_append, List.length_append, List.length_take, List.length_take, List.length_drop, List.length_drop]; omega) (.inl hm)))
      (pss_cons (PS.imp (t' := tBend T N 4) (ps_if (pt_cmpR op_eq (pv 2) pe_int (nomark _)) (pss_one (ps_set (i := 3) sc_law_bent.nd rfl (Or.inl rfl) (pe_op op_cat (pe_slice sl_list (pv 3) (po_some (pv 4)) po_none) (pe_slice sl_list (pv 3) po_none (po_some (pv 4)))))) pss_nil) (fun D σ H h => by
          obtain ⟨G, l, p, row, o, k, m, a, x, xs, ds, rfl, S, wo, hk, ax, lx, ha, q⟩ := h
          refine ⟨_, rfl, rfl, _, rfl, ?_⟩
          refine ite2 (fun hc => ?_) (fun _ => q G H o row xs ds (Evl.Ex.refl _) S (wo.up (by omega)) ax (by omega) (.inr ⟨rfl, rfl⟩))
          have hm : m = 4 := by
            have := V.int.inj (of_decide_eq_true hc)
            omega
          refine ⟨_, rfl, _, rfl, (a : Int), rfl, row, xs, rfl, Evl.sq_of (S.get 0 rfl), fun q1 n1 => ?_⟩
          rw [cut_onN]
          have S1 := S.new (o := .lst (xs.drop (min a xs.length))) n1
          generalize upd H q1 (.lst (xs.drop (min a xs.length))) = H1 at S1
          refine ⟨_, rfl, _, rfl, (a : Int), rfl, row, xs, rfl, Evl.sq_of (S1.get 1 rfl), fun q2 n2 => ?_⟩
          rw [cut_toN]
          have S2 := S1.new (o := .lst (xs.take (min a xs.length))) n2
          generalize upd H1 q2 (.lst (xs.take (min a xs.length))) = H2 at S2
          refine ⟨q1, q2, _, _, rfl, rfl, S2.get 1 rfl, S2.get 0 rfl, sz (by rw [List.length_take, List.length_drop]; omega), fun c nc => ?_⟩
          have S3 := (((S2.new (o := .lst (xs.drop (min a xs.length) ++ xs.take (min a xs.length))) nc).drop2).drop2).drop2
          exact q G _ o c _ _ (Evl.Ex.refl _) S3 (wo.up (by omega)) ((ax.drop _).append (ax.take _)) (by rw [List.length_append, List.length_take, List.length_drop]; omega) (.inl hm)))
      (pss_cons (PS.imp (t' := tBendR T N n) (ps_if (PW.pt (pw_and (pt_cmpR op_gt (pv 2) pe_int (nomark _)) (pw_and1 (pt_cmpR op_lt (pv 4) (pe_callB call_len_seq (by rfl) z.len PySem.boot_len (pa_cons (pv 3) pa_nil)) (nomark _))))) (pss_one (ps_asg (pe_o O_bent (hr.mono (by omega)) (pa_cons (pv 0) (pa_cons (pe_ix ix_list (pv 3) (pv 4) (fun _ _ => rfl)) pa_nil))) (pg_sub (pv 3) (pv 4) set_list))) pss_nil) (fun D σ H h => by
          obtain ⟨j, G, l, p, row, o, k, m, a, x, xs, ds, rfl, rfl, S, wo, hk, ax, lx, hok, q⟩ := h
          refine ⟨_, rfl, _, _, rfl, rfl, _, rfl, ?_⟩
          refine ite2 (fun hc => ?_) (fun _ => q G H o xs ds (Evl.Ex.refl _) S (wo.up (by omega)) ax rfl)
          have hm : 4 < m := by
            have := of_decide_eq_true hc
            omega
          refine ⟨_, rfl, _, rfl, row, xs, rfl, .inl (Evl.sq_of (S.get 0 rfl)), _, _, rfl, rfl, _, rfl, ?_⟩
          refine ite2 (fun hc => ?_) (fun _ => q G H o xs ds (Evl.Ex.refl _) S (wo.up (by omega)) ax rfl)
          have hlt : a < xs.length := by
            have := of_decide_eq_true hc
            omega
          have hv : xs[a]? = some xs[a] := List.getElem?_eq_getElem hlt
          generalize xs[a] = v at hv
          obtain ⟨dv, hdv, adv⟩ := ax.get hv
          refine ⟨_, rfl, _, rfl, _, rfl, row, xs, a, v, rfl, rfl, Evl.sq_of (S.get 0 rfl), atI_nat hv, ?_⟩
          refine ⟨G, _, p, o, k, v, dv, rfl, S.swap, wo, hk, adv, hok hm dv (List.mem_of_getElem? hdv), fun G1 H1 o1 v1 d1 e1 S1' w1 a1 => ?_⟩
          have S1 := S1'.swap
          refine ⟨_, rfl, _, rfl, row, _, a, a, rfl, rfl, S1.get 0 rfl, Evl.ixN_nat hlt, ?_⟩
          exact q G1 _ o1 _ _ e1 (S1.set 0 rfl) w1 ((ax.ex e1).set a1) (List.length_set ..)))
      (pss_cons (ps_if (pt_val (pe_callB isa (by rfl) z.isinstance (by decide +kernel) (pa_cons (pv 1) (pa_cons (pe_tyn (n := "tuple") (by rfl) z.tuple (by decide +kernel)) pa_nil)))) (pss_one (ps_ret (pe_callTy call_tuple_of (by rfl) z.tuple (by decide +kernel) (pa_cons (pv 3) pa_nil)))) pss_nil)
      (pss_one (ps_ret (pv 3)))))))))))))), ?_⟩
    refine ⟨_, rfl, p, 9, o, k, rfl, S.get 0 rfl, wo, by omega, by decide, by decide, fun m o1 hm1 w1 => ?_⟩
    have S1 : Has G _ ((p, o1) :: l) := S.set 0 rfl
    generalize upd H p o1 = H1 at S1
    refine ⟨_, rfl, sz (by show 2 ≤ 100000; decide), fun tp ntp => ?_⟩
    have S2 := S1.new (o := .tup [.ty "list", .ty "tuple"]) ntp
    generalize upd H1 tp (.tup [.ty "list", .ty "tuple"]) = H2 at S2
    have S3 := S2.tail
    refine ⟨x, tp, _, d, _, _, rfl, S2.get 0 rfl, .cons (.ty _) (.cons (.ty _) .nil), ad.ex S2.ex, NB.isLT d, _, rfl, ?_⟩
    have oddly : ∀ v : V, v = .ref p → spOdd T N [v] H2 Q E0 := fun v e => by
      subst e
      exact ⟨G, l, p, o1, _, rfl, S3, w1, by omega, fun G' H' o' v d' e S' w' a' => q G' H' o' v d' e S' (w'.up (by omega)) a'⟩
    cases hd : (isL d || isT d) with
    | false => exact ⟨_, rfl, oddly _ rfl⟩
    | true =>
      refine ⟨_, rfl, rfl, _, rfl, ?_⟩
      refine ite2 (fun _ => ⟨_, rfl, oddly _ rfl⟩) (fun _ => ?_)
      obtain ⟨a0, xs, ds, rfl, ax, hsq, hokn⟩ : ∃ (a0 : Addr) (xs : List V) (ds : List OD), x = .ref a0 ∧ AtsD T N G xs ds ∧ (G a0 = some (.lst xs) ∨ G a0 = some (.tup xs)) ∧ ∃ j, n = j + 1 ∧ ds.length ≤ 100 ∧ ∀ e ∈ ds, okD j e := by
        cases ad with
        | lst h l' p' =>
          cases n with
          | zero => exact absurd okd.1 (by simp [isL])
          | succ j => exact ⟨_, _, _, rfl, ⟨l', p'⟩, .inl h, j, rfl, okd⟩
        | tup h l' p' _ =>
          cases n with
          | zero => exact absurd okd.2 (by simp [isT])
          | succ j => exact ⟨_, _, _, rfl, ⟨l', p'⟩, .inr h, j, rfl, okd⟩
        | _ => exact absurd hd (by simp [isL, isT])
      obtain ⟨j, rfl, lds, hokj⟩ := hokn
      have lxs : xs.length ≤ 100 := by rw [ax.1]; exact lds
      refine ⟨_, rfl, a0, xs, rfl, hsq.imp (fun h => Evl.sq_of (S3.ex _ _ h)) (fun h => Evl.st_of (S3.ex _ _ h)), fun row nrow => ?_⟩
      have S4 := S3.new (o := .lst xs) nrow
      generalize upd H2 row (.lst xs) = H4 at S4
      have asT : ∀ {G' H' : Hp} {o' : HO} {row : Addr} {xs' : List V} {ds' : List OD} {c : Nat}, Ex G G' → Has G' H' ((row, .lst xs') :: (p, o') :: l) → WellO c o' → c ≤ k + 300 * (j + 1 + 1) → AtsD T N G' xs' ds' → xs'.length ≤ 1000 → ∀ t : Addr, H' t = none → Q (.ref t) (upd H' t (.tup xs')) := fun {G' H' o' row xs' ds' c} e S w hc a le t nt => by
        obtain ⟨G2, e2, ht, S2⟩ := ((S.tail).new (o := .tup xs') nt).intoG
        exact q G2 _ o' _ (.tup ds') (e.trans e2) S2 (w.up hc) ((a.ex e2).mkT ht le)
      have asL : ∀ {G' H' : Hp} {o' : HO} {row : Addr} {xs' : List V} {ds' : List OD} {c : Nat}, Ex G G' → Has G' H' ((row, .lst xs') :: (p, o') :: l) → WellO c o' → c ≤ k + 300 * (j + 1 + 1) → AtsD T N G' xs' ds' → Q (.ref row) H' := fun {G' H' o' row xs' ds' c} e S w hc a => by
        obtain ⟨G2, e2, ht, S2⟩ := S.intoG
        exact q G2 _ o' _ (.lst ds') (e.trans e2) S2 (w.up hc) ((a.ex e2).mkL ht)
      -- 8: the other kind
      refine ⟨_, rfl, rfl, _, rfl, ?_⟩
      refine ite2 (fun _ => ?_) (fun _ => ?_)
      · refine ⟨_, rfl, _, .ty "list", d, .type "list", _, rfl, .ty _, ad.ex S4.ex, NB.isL d, _, rfl, ?_⟩
        refine ite2 (fun _ => ?_) (fun _ => ?_)
        · exact ⟨_, rfl, row, xs, rfl, .inl ⟨Evl.sq_of (S4.get 0 rfl), asT (Evl.Ex.refl _) S4 w1 (by omega) ax (by omega)⟩⟩
        · exact ⟨_, rfl, asL (Evl.Ex.refl _) S4 w1 (by omega) ax⟩
      -- at
      refine ⟨_, rfl, _, rfl, row, xs, rfl, .inl (Evl.sq_of (S4.get 0 rfl)), _, _, rfl, rfl, p, xs.length + 1, o1, _, by rw [show ((xs.length + 1 : Nat) : Int) = (xs.length : Int) + 1 by omega]; rfl, S4.get 1 rfl, w1, by omega, by omega, Int.lt_of_le_of_lt (show ((xs.length + 1 : Nat) : Int) ≤ 101 by omega) (by decide), fun a o2 ha w2 => ?_⟩
      have S5 : Has G _ ((row, .lst xs) :: (p, o2) :: l) := S4.set 1 rfl
      generalize upd H4 p o2 = H5 at S5
      simp only [List.set_cons_succ, List.set_cons_zero]
      refine ⟨G, l, p, row, o2, _, m, a, .ref a0, xs, ds, rfl, S5, w2, by omega, ax, by omega, fun _ => by omega, fun G6 H6 o6 row6 xs6 ds6 e6 S6 w6 a6 l6 c6 => ?_⟩
      refine ⟨G6, l, p, row6, o6, _, m, a, .ref a0, xs6, ds6, rfl, S6, w6, by omega, a6, by omega, fun hm => ?_, fun G7 H7 o7 row7 xs7 ds7 e7 S7 w7 a7 l7 c7 => ?_⟩
      · rcases c6 with c | c
        · omega
        · rw [c.1]
          omega
      refine ⟨G7, l, p, row7, o7, _, m, a, .ref a0, xs7, ds7, rfl, S7, w7, by omega, a7, by omega, fun hm => ?_, fun G8 H8 o8 row8 xs8 ds8 e8 S8 w8 a8 l8 c8 => ?_⟩
      · rcases c6 with c | c
        · omega
        · rcases c7 with c' | c'
          · omega
          · rw [c'.1, c.1]
            omega
      refine ⟨G8, l, p, row8, o8, _, m, a, .ref a0, xs8, ds8, rfl, S8, w8, by omega, a8, by omega, fun hm => ?_, fun G9 H9 o9 row9 xs9 ds9 e9 S9 w9 a9 l9 c9 => ?_⟩
      · rcases c6 with c | c
        · omega
        · rcases c7 with c' | c'
          · omega
          · rcases c8 with c2 | c2
            · omega
            · rw [c2.1, c'.1, c.1]
              omega
      have e69 := ((e6.trans e7).trans e8).trans e9
      have l90 : xs9.length ≤ 1000 := by
        have m6 : m = 1 ∨ xs6.length = xs.length := c6.imp id fun h => by rw [h.1]
        have m7 : m = 2 ∨ xs7.length = xs6.length := c7.imp id fun h => by rw [h.1]
        have m8 : m = 3 ∨ xs8.length = xs7.length := c8.imp id fun h => by rw [h.1]
        have m9 : m = 4 ∨ xs9.length = xs8.length := c9.imp id fun h => by rw [h.1]
        omega
      refine ⟨j, G9, l, p, row9, o9, _, m, a, .ref a0, xs9, ds9, rfl, rfl, S9, w9, by omega, a9, by omega, fun hm => ?_, fun G10 H10 o10 xs10 ds10 e10 S10 w10 a10 l10 => ?_⟩
      · have h6 : ds6 = ds := by
          rcases c6 with c | c
          · omega
          · exact c.2
        have h7 : ds7 = ds6 := by
          rcases c7 with c | c
          · omega
          · exact c.2
        have h8 : ds8 = ds7 := by
          rcases c8 with c | c
          · omega
          · exact c.2
        have h9 : ds9 = ds8 := by
          rcases c9 with c | c
          · omega
          · exact c.2
        rw [h9, h8, h7, h6]
        exact hokj
      have e010 := e69.trans e10
      refine ⟨_, rfl, _, .ty "tuple", d, .type "tuple", _, rfl, .ty _, (ad.ex e010).ex S10.ex, NB.isT d, _, rfl, ?_⟩
      refine ite2 (fun _ => ?_) (fun _ => ?_)
      · exact ⟨_, rfl, row9, xs10, rfl, .inl ⟨Evl.sq_of (S10.get 0 rfl), asT e010 S10 w10 (by omega) a10 (by rw [l10]; exact l90)⟩⟩
      · exact ⟨_, rfl, asL e010 S10 w10 (by omega) a10⟩
theorem ok_bent (D : Dfn K mg "_law_bent" s__law_bent ["well", "kept"]) (z : Z mg) (TI : C8.InsC K T) (NE : ExcC K N) (NB : NotB K T N) (O_dip : Ok P w K mg base 1 "_law_dip" ["well", "upto"] spDipW) (O_odd : Ok P w K mg base 6 "_law_odd" ["well"] (spOdd T N)) : ∀ n, Ok P w K mg base (n + 7) "_law_bent" ["well", "kept"] (spBent T N n) := by
  obtain ⟨f, fd, F, g, b⟩ := D
  have body := fun n h => bent_body (P := P) (w := w) (base := base) (T := T) (N := N) F z TI NE NB O_dip O_odd n ⟨f, fd, h, g, F.kp, b⟩
  have all : ∀ n, FnOk P w K mg base CX0 (n + 7) f fd ["well", "kept"] (spBent T N n) := by
    intro n
    induction n with
    | zero => exact body 0 (FnOk.never.mono (by omega))
    | succ m ih => exact body (m + 1) ih
  exact fun n => ⟨f, fd, all n, g, F.kp, b⟩
end
end TW
set_option Elab.async false
set_option linter.all false
set_option maxRecDepth 100000
set_option maxHeartbeats 1000000
namespace TW
open PySem PySem.Spec PyProof.Rows L2
def isN : OD → Bool
  | .int _ => true
  | _ => false
theorem isN_eq (d : OD) : isN d = (isI d && !isB d) := by cases d <;> rfl
theorem ints_isN : ∀ {ds : List OD}, (ds.all isN) = true → ∃ ns, intsD ds = some ns
  | [], _ => ⟨[], rfl⟩
  | d :: ds, h => by
    rw [List.all_cons, Bool.and_eq_true] at h
    obtain ⟨ns, e⟩ := ints_isN h.2
    cases d with
    | int i => exact ⟨i :: ns, by show (intsD ds).map (i :: ·) = _; rw [e]; rfl⟩
    | _ => exact absurd h.1 (by simp [isN])
theorem isN_ints (ns : List Int) : ((ns.map OD.int).all isN) = true := by
  rw [List.all_map]
  exact List.all_eq_true.mpr fun _ _ => rfl
theorem lot_not {ds : List OD} (t : Option Int) (h : (ds.all isN) = false) : isLotD (.tup ds) t = false := by
  cases e : intsD ds with
  | none => exact ((isLotD_tup ds t).2 e).2
  | some ns =>
    rw [intsD_map e, isN_ints] at h
    cases h
section
variable {P : Program} {w : World} {K : PySem.W.Frag} {mg : Str → Option Value} {base : Heap} {T N : Addr}
/-! _law_number, _law_rising, _law_a_lot of odd values -/
theorem sc_law_number : FnScope ["value"] ["value"] (defScope s__law_number) := ⟨rfl, rfl, rfl, by decide +kernel, rfl, by decide +kernel, by decide +kernel⟩
def spNumberO (T N : Addr) : Sp := fun vs H Q _ => ∃ (x : V) (d : OD), vs = [x] ∧ AtD T N H x d ∧ Q (.bl (isN d)) H
theorem ok_numberO (D : Dfn K mg "_law_number" s__law_number ["value"]) (z : Z mg) (TI : C8.InsC K T) (NE : ExcC K N) (NB : NotB K T N) : Ok P w K mg base 1 "_law_number" ["value"] (spNumberO T N) := D.ok fun f fd F => by
  refine F.ok sc_law_number (fun vs H Q E h => ?_) (fun cdv A outer s H vs Q E hr h => ?_)
  · obtain ⟨x, d, rfl, _⟩ := h
    rfl
  · obtain ⟨x, d, rfl, ad, q⟩ := h
    have isa := call_isD (X := (cxOf CX0 P w K mg base ["value"] "_law_number" (defScope s__law_number) f cdv A outer s H E).nox) TI NE
    refine ⟨_, (pss_one (ps_ret (pe_and (pe_callB isa (by rfl) z.isinstance (by decide +kernel) (pa_cons (pv 0) (pa_cons (pe_tyn (n := "int") (by rfl) z.int (by decide +kernel)) pa_nil))) (pe_one (pe_not (pe_callB isa (by rfl) z.isinstance (by decide +kernel) (pa_cons (pv 0) (pa_cons (pe_tyn (n := "bool") (by rfl) z.bool (by decide +kernel)) pa_nil)))))))), ?_⟩
    refine ⟨_, rfl, x, .ty "int", d, .type "int", _, rfl, .ty _, ad, NB.isI d, _, rfl, ?_⟩
    rw [isN_eq] at q
    cases hi : isI d with
    | false =>
      rw [hi] at q
      exact q
    | true =>
      rw [hi] at q
      exact ⟨_, rfl, x, .ty "bool", d, .type "bool", _, rfl, .ty _, ad, NB.isB d, _, rfl, q⟩
theorem sc_law_rising : FnScope ["row", "k"] ["row"] (defScope s__law_rising) := ⟨rfl, rfl, rfl, by decide +kernel, rfl, by decide +kernel, by decide +kernel⟩
def spRisingG (K : PySem.W.Frag) : Sp := fun vs H Q _ => ∃ (a : Addr) (ns : List Int), vs = [.ref a] ∧ SqT K H a (ns.map V.int) ∧ ns.length ≤ 1000 ∧ ∀ H', Ex H H' → Q (.bl (asc ns)) H'
theorem ok_risingG (D : Dfn K mg "_law_rising" s__law_rising ["row"]) (z : Z mg) : Ok P w K mg base 1 "_law_rising" ["row"] (spRisingG K) := D.ok fun f fd F => by
  refine F.ok sc_law_rising (fun vs H Q E h => ?_) (fun cdv A outer s H vs Q E hr h => ?_)
  · obtain ⟨a, ns, rfl, _⟩ := h
    rfl
  · obtain ⟨a, ns, rfl, hT, hl, q⟩ := h
    refine ⟨_, (pss_one (ps_ret (pe_callB (cr_all rfl) (by rfl) z.all (by decide +kernel) (pa_cons (pe_lc (own := [("k", 1)]) (g := gName 1) rfl sc_law_rising.nd (pi_range1 (by rfl) z.range (pa_cons (pe_op op_sub (pe_callB call_len_seq (by rfl) z.len PySem.boot_len (pa_cons (pv 0) pa_nil)) pe_int) pa_nil)) (blkOk_by (N := ["row", "k"]) (own := [("k", 1)]) (sc := defScope s__law_rising) (by decide +kernel)) (fun _ _ _ _ _ => pg_name (i := 1) sc_law_rising.nd rfl (Or.inl rfl)) (fun _ _ _ _ _ => pts_nil)
      (fun _ _ _ _ _ => (pe_cmpR op_lt (pe_ix (ix_any (K := K)) (pv 0) (pv 1) (fun _ _ => rfl)) (pe_ix (ix_any (K := K)) (pv 0) (pe_op op_add (pv 1) pe_int) (fun _ _ => rfl)) (nomark _)))) pa_nil)))), ?_⟩
    have lm : (ns.map V.int).length = ns.length := List.length_map _
    refine ⟨_, rfl, a, _, rfl, .inr hT, _, _, rfl, rfl, _, rfl, by omega, by omega, fun Dl nD => ?_⟩
    rw [show (((ns.map V.int).length : Int) - 1).toNat = ns.length - 1 by omega]
    have la : (adj ns).length = ns.length - 1 := by
      rw [adj_len, List.length_map, List.length_map, List.length_drop]
      omega
    refine lc_range (lo := 0) (n := ns.length - 1) (fun i H' => Has H H' [(Dl, .lst (((adj ns).take i).map V.bl))]) (Has.nil.new nD) ?_ ?_
    · rintro i H1 hi S1
      rw [Int.zero_add]
      have h1 : ns[i]? = some (ns[i]'(by omega)) := List.getElem?_eq_getElem _
      have h2 : ns[i + 1]? = some (ns[i + 1]'(by omega)) := List.getElem?_eq_getElem _
      generalize ns[i]'(by omega) = u at h1
      generalize ns[i + 1]'(by omega) = v at h2
      have m1 : (ns.map V.int)[i]? = some (V.int u) := by rw [List.getElem?_map, h1]; rfl
      have m2 : (ns.map V.int)[i + 1]? = some (V.int v) := by rw [List.getElem?_map, h2]; rfl
      have sq := Evl.ex_t S1.ex hT
      refine ⟨rfl, _, rfl, _, rfl, .inr ⟨a, _, i, _, rfl, rfl, sq, atI_nat m1, ?_⟩⟩
      refine ⟨_, rfl, _, rfl, _, _, rfl, rfl, .inr ⟨a, _, ((i + 1 : Nat) : Int), _, rfl, by show V.int ((i : Int) + 1) = _; rw [Int.natCast_add]; rfl, sq, atI_nat m2, ?_⟩⟩
      refine ⟨_, _, rfl, rfl, _, S1.get 0 rfl, szl (by rw [List.length_map, List.length_take]; omega), ?_⟩
      have ha : (adj ns)[i]? = some (decide (u < v)) := by
        unfold adj
        rw [List.getElem?_zipWith, h1, List.getElem?_drop, Nat.add_comm 1 i, h2]
      rw [take_snoc ha, List.map_append]
      exact S1.set 0 rfl
    · rintro H1 S1
      rw [← la, List.take_length] at S1
      refine ⟨Dl, adj ns, rfl, Evl.sq_of (S1.get 0 rfl), ?_⟩
      rw [adj_asc]
      exact q H1 S1.ex
theorem sc_law_a_lot : FnScope ["value", "wide", "k"] ["value", "wide"] (defScope s__law_a_lot) := ⟨rfl, rfl, rfl, by decide +kernel, rfl, by decide +kernel, by decide +kernel⟩
def spALotO (T N : Addr) : Sp := fun vs H Q _ => ∃ (x : V) (d : OD) (n : Int), vs = [x, .int n] ∧ AtD T N H x d ∧ (∀ ds, d = .tup ds → ds.length ≤ 1000) ∧ ∀ H', Ex H H' → Q (.bl (isLotD d (some n))) H'
theorem ok_a_lotO (D : Dfn K mg "_law_a_lot" s__law_a_lot ["value", "wide"]) (z : Z mg) (TI : C8.InsC K T) (NE : ExcC K N) (NB : NotB K T N) (O_number : Ok P w K mg base 1 "_law_number" ["value"] (spNumberO T N)) (O_rising : Ok P w K mg base 1 "_law_rising" ["row"] (spRisingG K)) : Ok P w K mg base 2 "_law_a_lot" ["value", "wide"] (spALotO T N) := D.ok fun f fd F => by
  refine F.ok sc_law_a_lot (fun vs H Q E h => ?_) (fun cdv A outer s H vs Q E hr h => ?_)
  · obtain ⟨x, d, n, rfl, _⟩ := h
    rfl
  · obtain ⟨x, d, n, rfl, ad, len, q⟩ := h
    have isa := call_isD (X := (cxOf CX0 P w K mg base ["value", "wide", "k"] "_law_a_lot" (defScope s__law_a_lot) f cdv A outer s H E).nox) TI NE
    refine ⟨_, (pss_cons (ps_if (PW.pt (pw_or (pt_not (pt_val (pe_callB isa (by rfl) z.isinstance (by decide +kernel) (pa_cons (pv 0) (pa_cons (pe_tyn (n := "tuple") (by rfl) z.tuple (by decide +kernel)) pa_nil))))) (pw_or1 (pt_not (pt_val (pe_callB (cr_all rfl) (by rfl) z.all (by decide +kernel) (pa_cons (pe_lc (own := [("k", 2)]) (g := gName 2) rfl sc_law_a_lot.nd (pi_tup (pv 0)) (blkOk_by (N := ["value", "wide", "k"]) (own := [("k", 2)]) (sc := defScope s__law_a_lot) (by decide +kernel)) (fun _ _ _ _ _ => pg_name (i := 2) sc_law_a_lot.nd rfl (Or.inl rfl)) (fun _ _ _ _ _ => pts_nil) (fun _ _ _ _ _ => (pe_o O_number (hr.mono (by decide)) (pa_cons (pv 2) pa_nil)))) pa_nil))))))) (pss_one (ps_ret pe_bl)) pss_nil)
      (pss_one (ps_ret (pe_and (pe_callB (cr_all rfl) (by rfl) z.all (by decide +kernel) (pa_cons (pe_lc (own := [("k", 2)]) (g := gName 2) rfl sc_law_a_lot.nd (pi_tup (pv 0)) (blkOk_by (N := ["value", "wide", "k"]) (own := [("k", 2)]) (sc := defScope s__law_a_lot) (by decide +kernel)) (fun _ _ _ _ _ => pg_name (i := 2) sc_law_a_lot.nd rfl (Or.inl rfl)) (fun _ _ _ _ _ => pts_nil) (fun _ _ _ _ _ => (pe_and (pe_cmpR op_le pe_int (pv 2) (nomark _)) (pe_one (pe_cmpR op_lt (pv 2) (pv 1) (nomark _)))))) pa_nil)) (pe_one (pe_o O_rising (hr.mono (by decide)) (pa_cons (pv 0) pa_nil))))))), ?_⟩
    refine ⟨_, rfl, x, .ty "tuple", d, .type "tuple", _, rfl, .ty _, ad, NB.isT d, _, rfl, ?_⟩
    cases d with
    | tup ds =>
      have le := len ds rfl
      obtain ⟨a, xs, rfl, ha, axs⟩ := ad.inT
      have lx : xs.length = ds.length := axs.1
      refine ⟨_, rfl, a, rfl, ⟨_, Evl.st_of ha⟩, fun Dl hD => ?_⟩
      refine lc_tup (K := K) (a := a) (xs := xs) (fun i H' => Has H H' [(Dl, .lst (((ds.map isN).take i).map V.bl))]) (Has.nil.new hD) (fun i H' _ S => Evl.st_of (S.ex _ _ ha)) ?_ ?_
      · rintro i v H1 hi S1
        obtain ⟨d, hd, av⟩ := axs.get hi
        have hlt := (List.getElem?_eq_some_iff.mp hd).1
        refine ⟨rfl, _, rfl, v, d, rfl, av.ex S1.ex, _, S1.get 0 rfl, szl (by rw [List.length_map, List.length_take, List.length_map]; omega), ?_⟩
        rw [take_snoc (show (ds.map isN)[i]? = some (isN d) by rw [List.getElem?_map, hd]; rfl), List.map_append]
        exact S1.set 0 rfl
      · rintro H1 S1
        rw [lx, ← List.length_map (f := isN), List.take_length] at S1
        refine ⟨Dl, _, rfl, Evl.sq_of (S1.get 0 rfl), _, rfl, ?_⟩
        rw [List.all_map, show (id ∘ isN) = isN from rfl]
        cases c : ds.all isN with
        | false =>
          have := q H1 S1.ex
          rw [lot_not (some n) c] at this
          exact this
        | true =>
          obtain ⟨ns, e⟩ := ints_isN c
          have em := intsD_map e
          have ex := (em ▸ axs : AtsD T N H xs (ns.map OD.int)).ints
          have ln : ns.length = ds.length := by rw [em, List.length_map]
          have q' : ∀ H', Ex H H' → Q (.bl ((ns.all fun k => decide (0 ≤ k) && inThings k (some n)) && asc ns)) H' := fun H' e' => by
            have := q H' e'
            have k := (isLotD_tup ds (some n)).1 ns e
            rw [← k, em, all_ints] at this
            exact this
          refine ⟨_, rfl, a, rfl, ⟨_, Evl.st_of (S1.ex _ _ ha)⟩, fun D2 hD2 => ?_⟩
          refine lc_tup (K := K) (a := a) (xs := xs) (fun i H' => Has H H' [(D2, .lst (((ns.map fun k => decide (0 ≤ k) && inThings k (some n)).take i).map V.bl))]) (S1.new hD2).drop2 (fun i H' _ S => Evl.st_of (S.ex _ _ ha)) ?_ ?_
          · rintro i v H2 hi S2
            rw [ex] at hi
            obtain ⟨k, hk, rfl⟩ := map_get hi
            have hlt := (List.getElem?_eq_some_iff.mp hk).1
            refine ⟨rfl, ?_⟩
            have fin : ∀ b : Bool, b = (decide (0 ≤ k) && inThings k (some n)) → ∃ acc, H2 D2 = some (.lst acc) ∧ acc.length < sizeLine ∧ Has H (upd H2 D2 (.lst (acc ++ [V.bl b]))) [(D2, .lst (((ns.map fun k => decide (0 ≤ k) && inThings k (some n)).take (i + 1)).map V.bl))] := fun b hb => by
              refine ⟨_, S2.get 0 rfl, szl (by rw [List.length_map, List.length_take, List.length_map]; omega), ?_⟩
              rw [take_snoc (show (ns.map fun k => decide (0 ≤ k) && inThings k (some n))[i]? = some (decide (0 ≤ k) && inThings k (some n)) by rw [List.getElem?_map, hk]; rfl), List.map_append, hb]
              exact S2.set 0 rfl
            refine ⟨_, rfl, _, _, rfl, rfl, _, rfl, ?_⟩
            cases h0 : decide (0 ≤ k) with
            | false => exact fin false (by rw [h0]; rfl)
            | true => exact ⟨_, rfl, _, rfl, _, _, rfl, rfl, fin _ (by rw [h0]; rfl)⟩
          · rintro H2 S2
            rw [lx, ← ln, ← List.length_map (f := fun k => decide (0 ≤ k) && inThings k (some n)), List.take_length] at S2
            refine ⟨D2, _, rfl, Evl.sq_of (S2.get 0 rfl), _, rfl, ?_⟩
            rw [List.all_map, show (id ∘ fun k => decide (0 ≤ k) && inThings k (some n)) = fun k => decide (0 ≤ k) && inThings k (some n) from rfl]
            cases c2 : ns.all fun k => decide (0 ≤ k) && inThings k (some n) with
            | false =>
              have := q' H2 S2.ex
              rw [c2] at this
              exact this
            | true =>
              refine ⟨_, rfl, a, ns, rfl, by rw [← ex]; exact Evl.st_of (S2.ex _ _ ha), by omega, fun H3 e3 => ?_⟩
              have := q' H3 (S2.ex.trans e3)
              rw [c2] at this
              exact this
    | _ => exact q H (Evl.Ex.refl _)
/-! _law_nested -/
theorem sc_law_nested : FnScope ["well", "out", "k"] ["well"] (defScope s__law_nested) := ⟨rfl, rfl, rfl, by decide +kernel, rfl, by decide +kernel, by decide +kernel⟩
def spNested (T N : Addr) : Sp := fun vs H Q _ => ∃ (G : Hp) (l : List (Addr × HO)) (p : Addr) (o : HO) (k : Nat), vs = [.ref p] ∧ Has G H ((p, o) :: l) ∧ WellO k o ∧ k < 10 ^ 8 ∧
  ∀ (G' H' : Hp) (o' : HO) (v : V) (d : OD), Ex G G' → Has G' H' ((p, o') :: l) → WellO (k + 20) o' → AtD T N G' v d → Q v H'
theorem ok_nested (D : Dfn K mg "_law_nested" s__law_nested ["well"]) (z : Z mg) (O_dip : Ok P w K mg base 1 "_law_dip" ["well", "upto"] spDipW) : Ok P w K mg base 2 "_law_nested" ["well"] (spNested T N) := D.ok fun f fd F => by
  refine F.ok sc_law_nested (fun vs H Q E h => ?_) (fun cdv A outer s H vs Q E hr h => ?_)
  · obtain ⟨G, l, p, o, k, rfl, _⟩ := h
    rfl
  · obtain ⟨G, l, p, o, k, rfl, S, wo, hk, q⟩ := h
    refine ⟨_, (pss_cons (ps_set (i := 1) sc_law_nested.nd rfl (Or.inl rfl) (pe_ix ix_list (od_lst (T := T) (N := N) (od_cons (od_tup (od_cons od_int od_nil)) (od_cons (od_tup (od_cons od_int (od_cons od_str od_nil))) (od_cons (od_lst od_nil) (od_cons (od_tup od_nil) od_nil))))) (pe_o O_dip (hr.mono (by decide)) (pa_cons (pv 0) (pa_cons pe_int pa_nil))) (fun _ _ => rfl)))
      (pss_cons (ps_for PassesOwn.never rfl (pi_range1 (by rfl) z.range (pa_cons pe_int pa_nil)) (pg_name (i := 2) sc_law_nested.nd rfl (Or.inl rfl))
        (pss_one (ps_set (i := 1) sc_law_nested.nd rfl (Or.inl rfl) (pe_ifExp (pt_cmpR op_eq (pe_o O_dip (hr.mono (by decide)) (pa_cons (pv 0) (pa_cons pe_int pa_nil))) pe_int (nomark _)) (pe_lst (pa_cons (pv 1) pa_nil)) (pe_tup (pa_cons (pv 1) pa_nil))))))
      (pss_one (ps_ret (pv 1))))), ?_⟩
    refine ⟨G, _, S, fun v0 G1 H1 e1 S1 a0 => ?_⟩
    obtain ⟨la, xs, rfl, hla, axs⟩ := a0.inL
    refine ⟨_, rfl, p, 4, o, k, rfl, S1.get 0 rfl, wo, by omega, by decide, by decide, fun r o1 hr1 w1 => ?_⟩
    have S2 : Has G1 _ ((p, o1) :: l) := S1.set 0 rfl
    generalize upd H1 p o1 = H2 at S2
    obtain ⟨v1, d1, hx, ad1⟩ := odd_pick axs (show r < 4 from hr1)
    refine ⟨la, xs, r, v1, rfl, rfl, Evl.sq_of (S2.ex _ _ hla), atI_nat hx, ?_⟩
    refine ⟨9, rfl, by decide, by decide, ?_⟩
    refine for_range (lo := 0) (n := 9) (fun i' σ H' => ∃ (G' : Hp) (v : V) (d : OD) (v3 : Option V) (o' : HO), σ = [some (.ref p), some v, v3] ∧ Ex G1 G' ∧ Has G' H' ((p, o') :: l) ∧ WellO (k + 1 + i') o' ∧ AtD T N G' v d)
      ⟨G1, v1, d1, none, o1, rfl, Evl.Ex.refl _, S2, w1, ad1⟩ ?_ ?_
    · rintro j σ H4 hj ⟨G4, v, d, v3, o4, rfl, e4, S4, w4, ad⟩
      refine ⟨_, rfl, p, 3, o4, _, rfl, S4.get 0 rfl, w4, by omega, by decide, by decide, fun r3 o5 hr3 w5 => ⟨rfl, _, rfl, ?_⟩⟩
      have S5 : Has G4 _ ((p, o5) :: l) := S4.set 0 rfl
      generalize upd H4 p o5 = H5 at S5
      refine ite2 (fun _ => ?_) (fun _ => ?_)
      · refine ⟨_, rfl, sz (by show 1 ≤ 100000; decide), fun q1 nq => ?_⟩
        obtain ⟨G6, e6, hq1, S6⟩ := (S5.new (o := .lst [v]) nq).intoG
        exact ⟨G6, .ref q1, .lst [d], _, o5, rfl, e4.trans e6, S6, w5.up (by omega), (AtsD.cons (ad.ex e6) .nil).mkL hq1⟩
      · refine ⟨_, rfl, sz (by show 1 ≤ 100000; decide), fun q1 nq => ?_⟩
        obtain ⟨G6, e6, hq1, S6⟩ := (S5.new (o := .tup [v]) nq).intoG
        exact ⟨G6, .ref q1, .tup [d], _, o5, rfl, e4.trans e6, S6, w5.up (by omega), (AtsD.cons (ad.ex e6) .nil).mkT hq1 (by show 1 ≤ 1000; decide)⟩
    · rintro σ H4 ⟨G4, v, d, v3, o4, rfl, e4, S4, w4, ad⟩
      exact ⟨_, rfl, q G4 H4 o4 v d (e1.trans e4) S4 (w4.up (by omega)) ad⟩
end
end TW
set_option Elab.async false
set_option linter.all false
set_option maxRecDepth 100000
set_option maxHeartbeats 1000000
namespace TW
open PySem PySem.Spec PyProof.Rows L2
/-- whether an odd value is a lot that the table has -/
def inD : OD → Nat → Lots → Bool
  | .tup ds, n, L => match intsD ds with
    | some ns => isLot ns (some (n : Int)) && decide (ns ∈ L.map (·.2))
    | none => false
  | _, _, _ => false
theorem inD_some {ds : List OD} {ns : List Int} (e : intsD ds = some ns) (n : Nat) (L : Lots) : inD (.tup ds) n L = (isLot ns (some (n : Int)) && decide (ns ∈ L.map (·.2))) := by
  show (match intsD ds with | some ns => isLot ns (some (n : Int)) && decide (ns ∈ L.map fun p : Addr × List Int => p.2) | none => false) = _
  rw [e]
theorem inD_none {ds : List OD} (e : intsD ds = none) (n : Nat) (L : Lots) : inD (.tup ds) n L = false := by
  show (match intsD ds with | some ns => isLot ns (some (n : Int)) && decide (ns ∈ L.map fun p : Addr × List Int => p.2) | none => false) = _
  rw [e]
theorem isLotD_some {ds : List OD} {ns : List Int} (e : intsD ds = some ns) (t : Option Int) : isLotD (.tup ds) t = isLot ns t := by
  show (match intsD ds with | some ns => isLot ns t | none => false) = _
  rw [e]
theorem isLotD_none {ds : List OD} (e : intsD ds = none) (t : Option Int) : isLotD (.tup ds) t = false := by
  show (match intsD ds with | some ns => isLot ns t | none => false) = _
  rw [e]
theorem any_tups (ls : List (List Int)) (ns : List Int) : ((ls.map tupD).any fun z => PyData.eqv z (tupD ns)) = decide (ns ∈ ls) := by
  rw [List.any_map, Bool.eq_iff_iff, List.any_eq_true, decide_eq_true_eq]
  constructor
  · rintro ⟨l, hl, h⟩
    have h : PyData.eqv (tupD l) (tupD ns) = true := h
    rw [eqv_tupD, decide_eq_true_eq] at h
    exact h ▸ hl
  · intro h
    refine ⟨ns, h, ?_⟩
    show PyData.eqv (tupD ns) (tupD ns) = true
    rw [eqv_tupD]
    exact decide_eq_true rfl
theorem shaped_tupO (ns : List Int) : SeqAt.shaped (tupD ns) = true := by
  unfold SeqAt.shaped
  rw [Bool.and_eq_true, decide_eq_true_eq]
  refine ⟨lay_ints ns, ?_⟩
  have := depth_tupD ns
  omega
/-- no odd value but a table is of the class C -/
structure NotU (K : PySem.W.Frag) (C N : Addr) : Prop where
  non : PySem.W.kitOne K (.type "NoneType") (.ref C) = some false
  bl : PySem.W.kitOne K (.type "bool") (.ref C) = some false
  int : PySem.W.kitOne K (.type "int") (.ref C) = some false
  str : PySem.W.kitOne K (.type "str") (.ref C) = some false
  lst : PySem.W.kitOne K (.type "list") (.ref C) = some false
  tup : PySem.W.kitOne K (.type "tuple") (.ref C) = some false
  exc : PySem.W.kitOne K (.ref N) (.ref C) = some false
def isTab : OD → Bool
  | .tab => true
  | _ => false
theorem NotU.all {K : PySem.W.Frag} {C N : Addr} (h : NotU K C N) (me : PySem.W.kitOne K (.ref C) (.ref C) = some true) (d : OD) : PySem.W.kitOne K (tyD C N d) (.ref C) = some (isTab d) := by
  cases d with
  | non => exact h.non
  | bl b => exact h.bl
  | int i => exact h.int
  | str x => exact h.str
  | lst ds => exact h.lst
  | tup ds => exact h.tup
  | tab => exact me
  | exc => exact h.exc
section
variable {P : Program} {w : World} {K : PySem.W.Frag} {mg : Str → Option Value} {base : Heap} {C N : Addr}
/-! Table.__contains__ and Table.__eq__ of odd values -/
def spContainsO (C N : Addr) : Sp := fun vs H Q _ => ∃ (a : Addr) (n : Nat) (L : Lots) (v : V) (d : OD), vs = [.ref a, v] ∧ TabAt C H a n L ∧ AtD C N H v d ∧ (∀ ds, d = .tup ds → ds.length ≤ 1000) ∧ ∀ H', Ex H H' → Q (.bl (inD d n L)) H'
theorem ok_containsO {f : Addr} {fd : FuncData} (F : Fun K "__contains__" "Table.__contains__" s_Table_contains f fd) (T : TC K mg C) (O_is_lot : Ok P w K mg base 3 "is_lot" ["value", "things"] (spIsLotO C N)) : FnOk P w K mg base CX0 4 f fd ["self", "value"] (spContainsO C N) := by
  refine F.ok sc_Table_contains (fun vs H Q E h => ?_) (fun cdv A outer sh H vs Q E hr h => ?_)
  · obtain ⟨a, n, L, v, d, rfl, _⟩ := h
    rfl
  · obtain ⟨a, n, L, v, d, rfl, ⟨dx, l, h1, h2, h3⟩, ad, len, q⟩ := h
    have hu65 : (A.deeper (envOfC "Table.__contains__" (defScope s_Table_contains) sh.heap.objs.size f cdv)).units + 65 < cLine := by
      have := hr.un
      omega
    refine ⟨_, (pss_one (ps_ret (pe_and (pe_o O_is_lot hr (pa_cons (pv 1) (pa_cons (pe_fld (pv 0) rfl) pa_nil))) (pe_one (pe_cmpR (op_inDT (K := K) hu65) (pv 1) (pe_fld (pv 0) rfl) (by rfl)))))), ?_⟩
    refine ⟨_, rfl, _, rfl, a, C, dx, _, _, rfl, h1, T.cl, T.nT, tf_things n l, v, d, some (n : Int), rfl, ad, len, fun H1 e1 => ?_⟩
    have no : isLotD d (some (n : Int)) = false → inD d n L = false := fun h => by
      cases d with
      | tup ds =>
        cases e : intsD ds with
        | none => exact inD_none e n L
        | some ns =>
          rw [isLotD_some e] at h
          rw [inD_some e, h]
          rfl
      | _ => rfl
    cases c : isLotD d (some (n : Int)) with
    | false =>
      have := q H1 e1
      rw [no c] at this
      exact ⟨_, rfl, this⟩
    | true =>
      cases d with
      | tup ds =>
        cases e : intsD ds with
        | none =>
          rw [isLotD_none e] at c
          cases c
        | some ns =>
          rw [isLotD_some e] at c
          obtain ⟨pa, xs, rfl, ha, axs⟩ := ad.inT
          have em := intsD_map e
          subst em
          rw [axs.ints] at ha
          have q' : Q (.bl (decide (ns ∈ L.map (·.2)))) H1 := by
            have := q H1 e1
            rw [inD_some e, c, Bool.true_and] at this
            exact this
          refine ⟨_, rfl, _, rfl, _, rfl, a, C, dx, _, _, rfl, e1 _ _ h1, T.cl, T.nL, tf_lots n l, tupD ns, (L.map (·.2)).map tupD, ((at_lot ha).ex e1).dp, (At.mkT (e1 _ _ h2) ((lots_at h3).ex e1)).dp, shaped_tupO ns, shaped_tups _, ?_⟩
          rw [any_tups]
          exact q'
      | _ => cases c
def spTabEqO (C N : Addr) : Sp := fun vs H Q _ => ∃ (a : Addr) (y : V) (n : Nat) (L : Lots) (d : OD), vs = [.ref a, y] ∧ TabAt C H a n L ∧ AtD C N H y d ∧ isTab d = false ∧ Q (.bl false) H
theorem ok_tabEqO {f : Addr} {fd : FuncData} (F : Fun K "__eq__" "Table.__eq__" s_Table_eq f fd) (z : Z mg) (W : TC K mg C) (NE : ExcC K N) (NU : NotU K C N) : FnOk P w K mg base CX0 1 f fd ["self", "other"] (spTabEqO C N) := by
  refine F.ok sc_Table_eq (fun vs H Q E h => ?_) (fun cdv A outer sh H vs Q E hr h => ?_)
  · obtain ⟨a, y, n, L, d, rfl, _⟩ := h
    rfl
  · obtain ⟨a, y, n, L, d, rfl, tab, ad, nd, q⟩ := h
    refine ⟨_, (pss_one (ps_ret (pe_and (pe_callB (call_isD (X := (cxOf CX0 P w K mg base ["self", "other"] "Table.__eq__" (defScope s_Table_eq) f cdv A outer sh H E).nox) W.ins NE) (by rfl) z.isinstance (by decide +kernel) (pa_cons (pv 1) (pa_cons (pe_glob (by rfl) W.mg (show RelV (.ref C) (.ref C) from rfl)) pa_nil))) (pe_and (pe_cmpR op_eq (pe_fld (pv 0) rfl) (pe_fld (pv 1) rfl) (nomark _)) (pe_one (pe_cmpR (op_eqD hr.units) (pe_fld (pv 0) rfl) (pe_fld (pv 1) rfl) (nomark _))))))), ?_⟩
    have k := NU.all W.ins.me d
    rw [nd] at k
    exact ⟨_, rfl, y, .ref C, d, .ref C, false, rfl, .own C, ad, k, _, rfl, q⟩
end
end TW
set_option Elab.async false
set_option linter.all false
set_option maxRecDepth 100000
set_option maxHeartbeats 1000000
namespace TW
open PySem PySem.Spec PyProof.Rows L2
/-- a table unlike the one of these masks -/
def UnT (C : Addr) (G : Hp) (n : Nat) (ms : List Int) (v : V) : Prop := ∃ (x : Addr) (m : Nat) (L' : Lots), v = .ref x ∧ TabAt C G x m L' ∧ (n ≠ m ∨ ∀ L, TabOf n ms L → L.map (·.2) ≠ L'.map (·.2))
theorem UnT.ex {C : Addr} {G G' : Hp} {n : Nat} {ms : List Int} {v : V} (h : UnT C G n ms v) (e : Ex G G') : UnT C G' n ms v := by
  obtain ⟨x, m, L', h1, h2, h3⟩ := h
  exact ⟨x, m, L', h1, h2.ex e, h3⟩
theorem tab_unlike {n : Nat} {ms ms' : List Int} {L' : Lots} (h' : TabOf n ms' L') (r : ∀ m ∈ ms, Rg n m) (r' : ∀ m ∈ ms', Rg n m) (d : (∃ m ∈ ms, m ∉ ms') ∨ ∃ m ∈ ms', m ∉ ms) : ∀ L, TabOf n ms L → L.map (·.2) ≠ L'.map (·.2) := fun L h e => by
  rcases d with ⟨m, hm, no⟩ | ⟨m, hm, no⟩
  · have h1 := h.2.1 m hm
    rw [e] at h1
    obtain ⟨p, hp, e2⟩ := List.mem_map.mp h1
    obtain ⟨m', hm', e3⟩ := h'.1 p hp
    have := lot_inj (r m hm).1 (r m hm).2 (r' m' hm').1 (r' m' hm').2 (e2.symm.trans e3)
    exact no (this ▸ hm')
  · have h1 := h'.2.1 m hm
    rw [← e] at h1
    obtain ⟨p, hp, e2⟩ := List.mem_map.mp h1
    obtain ⟨m', hm', e3⟩ := h.1 p hp
    have := lot_inj (r' m hm).1 (r' m hm).2 (r m' hm').1 (r m' hm').2 (e2.symm.trans e3)
    exact no (this ▸ hm')
theorem pow6 {n : Nat} (h : n ≤ 6) : (2 : Int) ^ n ≤ 64 := by
  have : n = 0 ∨ n = 1 ∨ n = 2 ∨ n = 3 ∨ n = 4 ∨ n = 5 ∨ n = 6 := by omega
  rcases this with rfl | rfl | rfl | rfl | rfl | rfl | rfl <;> decide
theorem len_rg {n : Nat} {ms : List Int} (nd : ms.Nodup) (r : ∀ m ∈ ms, Rg n m) (h : n ≤ 6) : ms.length ≤ 64 := by
  have l := nodup_lenG (ys := (List.range 64).map fun k : Nat => (k : Int)) nd fun m hm => by
    have a := (r m hm).1
    have b := (r m hm).2
    have c := pow6 h
    exact List.mem_map.mpr ⟨m.toNat, List.mem_range.mpr (by omega), by omega⟩
  rw [List.length_map, List.length_range] at l
  exact l
theorem len_more {n : Nat} {ms : List Int} {e : Int} (h : masksOk n ms) (hn : n ≤ 6) (re : Rg n e) (no : e ∉ ms) : ms.length + 1 ≤ 64 := by
  have := len_rg (ms := e :: ms) (List.nodup_cons.mpr ⟨no, up_nodup h.1⟩) (fun m hm => by
    rcases List.mem_cons.mp hm with rfl | hm
    · exact re
    · exact h.2.2 m hm) hn
  exact this
/-- with masks that are not there, two tables more -/
def tSpare (C : Addr) : TS := fun D σ H => ∃ (G : Hp) (l : List (Addr × HO)) (p ma row sp : Addr) (o : HO) (k n : Nat) (ms sps : List Int) (xs : List V) (v5 v6 v7 : Option V), σ = [some (.ref p), some (.int n), some (.ref ma), some (.ref row), some (.ref sp), v5, v6, v7] ∧ Has G H ((row, .lst xs) :: (p, o) :: l) ∧ WellO k o ∧ k < 10 ^ 8 ∧ masksOk n ms ∧ 0 < n ∧ n ≤ 6 ∧ G ma = some (.lst (ms.map V.int)) ∧ G sp = some (.lst (sps.map V.int)) ∧ (∀ e ∈ sps, Rg n e ∧ e ∉ ms) ∧ sps.length ≤ 64 ∧ (∀ v ∈ xs, UnT C G n ms v) ∧ xs.length ≤ 1 ∧
  ∀ (G' H' : Hp) (o' : HO) (row' : Addr) (xs' : List V) (v5' v6' : Option V), Ex G G' → Has G' H' ((row', .lst xs') :: (p, o') :: l) → WellO (k + 2) o' → (∀ v ∈ xs', UnT C G' n ms v) → xs'.length ≤ 3 → D.nx [some (.ref p), some (.int n), some (.ref ma), some (.ref row'), some (.ref sp), v5', v6', v7] H'
def tRowT (C : Addr) : TE := fun σ H Q => ∃ (G : Hp) (l : List (Addr × HO)) (n : Nat) (ma : Addr) (ms : List Int), σ[1]? = some (some (.int n)) ∧ σ[2]? = some (some (.ref ma)) ∧ Has G H l ∧ masksOk n ms ∧ n ≤ 6 ∧ ms.length ≤ 64 ∧ G ma = some (.lst (ms.map V.int)) ∧
  ∀ (G' H' : Hp) (u : Addr) (xs : List V), Ex G G' → Has G' H' ((u, .lst xs) :: l) → (∀ v ∈ xs, UnT C G' n ms v) → xs.length ≤ 1 → Q (.ref u) H'
/-- the masks that are not there -/
def spareL (ms : List Int) (i : Nat) : List Int := ((List.range i).filter fun k : Nat => !decide ((k : Int) ∈ ms)).map fun k : Nat => (k : Int)
theorem spare_up (ms : List Int) (i : Nat) : spareL ms (i + 1) = spareL ms i ++ (if (i : Int) ∈ ms then [] else [(i : Int)]) := by
  unfold spareL
  rw [List.range_succ, List.filter_append, List.map_append]
  congr 1
  by_cases h : (i : Int) ∈ ms
  · rw [if_pos h, List.filter_cons_of_neg (by simp [h])]
    rfl
  · rw [if_neg h, List.filter_cons_of_pos (by simp [h])]
    rfl
theorem spare_len (ms : List Int) (i : Nat) : (spareL ms i).length ≤ i := by
  unfold spareL
  rw [List.length_map]
  exact Nat.le_trans (List.length_filter_le _ _) (by rw [List.length_range]; exact Nat.le_refl _)
section
variable {P : Program} {w : World} {K : PySem.W.Frag} {mg : Str → Option Value} {base : Heap} {C N : Addr}
abbrev NUT : List Str := ["well", "wide", "masks", "row", "spare", "extra_one", "at", "mask"]
theorem sc_law_unlike : FnScope NUT ["well", "wide", "masks"] (defScope s__law_unlike) := ⟨rfl, rfl, rfl, by decide +kernel, rfl, by decide +kernel, by decide +kernel⟩
def spUnlikeT (C : Addr) : Sp := fun vs H Q _ => ∃ (G : Hp) (l : List (Addr × HO)) (p ma : Addr) (o : HO) (k n : Nat) (ms : List Int), vs = [.ref p, .int n, .ref ma] ∧ Has G H ((p, o) :: l) ∧ WellO k o ∧ k < 10 ^ 7 ∧ G ma = some (.lst (ms.map V.int)) ∧ masksOk n ms ∧ 0 < n ∧ n ≤ 6 ∧
  ∀ (G' H' : Hp) (o' : HO) (u : Addr) (xs : List V), Ex G G' → Has G' H' ((u, .lst xs) :: (p, o') :: l) → WellO (k + 3) o' → (∀ v ∈ xs, UnT C G' n ms v) → Q (.ref u) H'
theorem ok_unlikeT (D : Dfn K mg "_law_unlike" s__law_unlike ["well", "wide", "masks"]) (z : Z mg) (O_dip : Ok P w K mg base 1 "_law_dip" ["well", "upto"] spDipW) (O_make : Ok P w K mg base 6 "_law_make_table" ["wide", "masks"] (spMakeTable K C)) : Ok P w K mg base 7 "_law_unlike" ["well", "wide", "masks"] (spUnlikeT C) := D.ok fun f fd F => by
  refine F.ok sc_law_unlike (fun vs H Q E h => ?_) (fun cdv A outer s H vs Q E hr h => ?_)
  · obtain ⟨G, l, p, ma, o, k, n, ms, rfl, _⟩ := h
    rfl
  · obtain ⟨G, l, p, ma, o, k, n, ms, rfl, S, wo, hk, hma, hms, hn0, hn6, q⟩ := h
    refine ⟨_, (pss_cons (ps_set (i := 3) sc_law_unlike.nd rfl (Or.inl rfl) (PE.imp (t' := tRowT C) (pe_ifExp (pt_cmpR op_lt (pv 1) pe_int (nomark _)) (pe_lst (pa_cons (pe_o O_make hr (pa_cons (pe_op op_add (pv 1) pe_int) (pa_cons (pv 2) pa_nil))) pa_nil)) (pe_lst pa_nil)) (fun σ H Q h => by
          obtain ⟨G, l, n, ma, ms, h1, h2, S, hms, hn6, l64, hma, q⟩ := h
          refine ⟨_, h1, _, _, rfl, rfl, _, rfl, ?_⟩
          refine ite2 (fun _ => ?_) (fun _ => ?_)
          · refine ⟨_, h1, _, _, rfl, rfl, _, h2, G, l, ma, n + 1, ms, by show [V.int ((n : Int) + 1), V.ref ma] = _; rw [Int.natCast_add]; rfl, S, Evl.sq_of (S.ex _ _ hma), by omega, by omega, hms.2.1, l64, fun G2 t H2 L e2 S2 tab _ => ?_⟩
            refine ⟨sz (by show 1 ≤ 100000; decide), fun u nu => ?_⟩
            refine q G2 _ u _ e2 (S2.new (o := .lst [.ref t]) nu) (fun v hv => ?_) (Nat.le_refl _)
            rw [List.mem_singleton.mp hv]
            exact ⟨t, n + 1, L, rfl, tab, .inl (by omega)⟩
          · refine ⟨sz (by show 0 ≤ 100000; decide), fun u nu => ?_⟩
            exact q G _ u [] (Evl.Ex.refl _) (S.new nu) (fun v hv => absurd hv List.not_mem_nil) (Nat.zero_le _))))
      (pss_cons (ps_setLc (i := 4) (own := [("mask", 7)]) (g := gName 7) rfl sc_law_unlike.nd rfl rfl (sw_true rfl rfl rfl (by decide +kernel)) (pi_range1 (by rfl) z.range (pa_cons (pe_op op_shlN pe_int (pv 1)) pa_nil)) (blkOk_by (N := NUT) (own := [("mask", 7)]) (sc := defScope s__law_unlike) (by decide +kernel)) (fun _ _ _ _ _ => pg_name (i := 7) sc_law_unlike.nd rfl (Or.inl rfl)) (fun _ _ _ _ _ => pts_one (pt_cmpR (op_notInK (K := K)) (pv 7) (pv 2) (by rfl))) (fun _ _ _ _ _ => (pv 7)))
      (pss_cons (PS.imp (t' := tSpare C) (ps_if (pt_cmpR (op_neD hr.units) (pv 4) (pe_lst pa_nil) (nomark _)) (pss_cons (ps_set (i := 5) sc_law_unlike.nd rfl (Or.inl rfl) (pe_ix ix_list (pv 4) (pe_o O_dip (hr.mono (by decide)) (pa_cons (pv 0) (pa_cons (pe_callB call_len_seq (by rfl) z.len PySem.boot_len (pa_cons (pv 4) pa_nil)) pa_nil))) (fun _ _ => rfl)))
        (pss_cons (ps_set (i := 3) sc_law_unlike.nd rfl (Or.inl rfl) (pe_op op_cat (pv 3) (pe_lst (pa_cons (pe_o O_make hr (pa_cons (pv 1) (pa_cons (pe_op op_cat (pv 2) (pe_lst (pa_cons (pv 5) pa_nil))) pa_nil))) pa_nil))))
        (pss_cons (ps_set (i := 6) sc_law_unlike.nd rfl (Or.inl rfl) (pe_o O_dip (hr.mono (by decide)) (pa_cons (pv 0) (pa_cons (pe_callB call_len_seq (by rfl) z.len PySem.boot_len (pa_cons (pv 2) pa_nil)) pa_nil))))
        (pss_one (ps_set (i := 3) sc_law_unlike.nd rfl (Or.inl rfl) (pe_op op_cat (pv 3) (pe_lst (pa_cons (pe_o O_make hr (pa_cons (pv 1) (pa_cons (pe_op op_cat (pe_op op_cat (pe_slice sl_list (pv 2) po_none (po_some (pv 6))) (pe_lst (pa_cons (pv 5) pa_nil))) (pe_slice sl_list (pv 2) (po_some (pe_op op_add (pv 6) pe_int)) po_none)) pa_nil))) pa_nil)))))))) pss_nil) (fun D σ H h => by
          obtain ⟨G, l, p, ma, row, sp, o, k, n, ms, sps, xs, v5, v6, v7, rfl, S, wo, hk, hms, hn0, hn6, hma, hsp, hsps, lsp, hxs, lxs, q⟩ := h
          refine ⟨_, rfl, sz (by show 0 ≤ 100000; decide), fun e ne => ?_⟩
          have S1' := S.new (o := .lst []) ne
          generalize upd H e (.lst []) = H1 at S1'
          refine ⟨.list (sps.map .int), .list [], .lst (Evl.sq_of (S1'.ex _ _ hsp)) (dpAll_ints sps), .lst (Evl.sq_of (S1'.get 0 rfl)) .nil, shaped_ints sps, rfl, _, rfl, ?_⟩
          rw [eqv_nil]
          have S1 := S1'.tail
          refine ite2 (fun hc => ?_) (fun _ => q G H1 o row xs v5 v6 (Evl.Ex.refl _) S1 (wo.up (by omega)) hxs (by omega))
          have hpos : 0 < sps.length := by
            cases sps with
            | nil => simp at hc
            | cons x sps => show 0 < sps.length + 1; omega
          have lsm : (sps.map V.int).length = sps.length := List.length_map _
          have lmm : (ms.map V.int).length = ms.length := List.length_map _
          -- the spare one
          refine ⟨_, rfl, _, rfl, _, rfl, sp, _, rfl, .inl (Evl.sq_of (S1.ex _ _ hsp)), p, sps.length, o, k, by rw [lsm]; rfl, S1.get 1 rfl, wo, by omega, hpos, Int.lt_of_le_of_lt (show (sps.length : Int) ≤ 64 by omega) (by decide), fun r o1 hr1 w1 => ?_⟩
          have S2 : Has G _ ((row, .lst xs) :: (p, o1) :: l) := S1.set 1 rfl
          generalize upd H1 p o1 = H2 at S2
          have he : sps[r]? = some sps[r] := List.getElem?_eq_getElem hr1
          generalize sps[r] = ex at he
          obtain ⟨rex, nex⟩ := hsps ex (List.mem_of_getElem? he)
          refine ⟨sp, _, r, .int ex, rfl, rfl, Evl.sq_of (S2.ex _ _ hsp), atI_nat (by rw [List.getElem?_map, he]; rfl), ?_⟩
          simp only [List.set_cons_succ, List.set_cons_zero]
          have l64 := len_more hms hn6 rex nex
          -- one more
          refine ⟨_, rfl, _, rfl, _, rfl, _, rfl, sz (by show 1 ≤ 100000; decide), fun l1 nl1 => ?_⟩
          obtain ⟨G3, e3, hl1, S3⟩ := (S2.new (o := .lst [.int ex]) nl1).intoG
          refine ⟨ma, l1, _, _, rfl, rfl, S3.ex _ _ (e3 _ _ hma), S3.ex _ _ hl1, sz (by rw [lmm]; show ms.length + 1 ≤ 100000; omega), fun c1 nc1 => ?_⟩
          obtain ⟨G4, e4, hc1, S4⟩ := (S3.new (o := .lst (ms.map V.int ++ [.int ex])) nc1).intoG
          have e04 := e3.trans e4
          have r1 : ∀ m ∈ ms ++ [ex], Rg n m := fun m hm => by
            rcases List.mem_append.mp hm with h | h
            · exact hms.2.2 m h
            · rw [List.mem_singleton.mp h]
              exact rex
          refine ⟨G4, _, c1, n, ms ++ [ex], rfl, S4, by rw [List.map_append]; exact Evl.sq_of (S4.ex _ _ hc1), hn0, by omega, by simp, by rw [List.length_append]; exact l64, fun G5 t5 H5 L5 e5 S5 tab5 of5 => ?_⟩
          refine ⟨sz (by show 1 ≤ 100000; decide), fun l2 nl2 => ?_⟩
          obtain ⟨G6, e6, hl2, S6⟩ := (S5.new (o := .lst [.ref t5]) nl2).intoG
          refine ⟨row, l2, xs, [.ref t5], rfl, rfl, S6.get 0 rfl, S6.ex _ _ hl2, sz (by show xs.length + 1 ≤ 100000; omega), fun row2 nrow2 => ?_⟩
          have S7 : Has G6 _ ((row2, .lst (xs ++ [.ref t5])) :: (p, o1) :: l) := (S6.new (o := .lst (xs ++ [.ref t5])) nrow2).drop2
          have e06 := (e04.trans e5).trans e6
          have U5 : UnT C G6 n ms (.ref t5) := ⟨t5, n, L5, rfl, tab5.ex e6, .inr (tab_unlike of5 hms.2.2 r1 (.inr ⟨ex, List.mem_append.mpr (.inr (List.mem_singleton.mpr rfl)), nex⟩))⟩
          show tSeq _ _ _ _ _
          generalize upd _ row2 (.lst (xs ++ [V.ref t5])) = H7 at S7
          simp only [List.set_cons_succ, List.set_cons_zero]
          -- at
          have lms : 0 < ms.length := by
            cases ms with
            | nil => exact absurd rfl hms.2.1
            | cons x ms => show 0 < ms.length + 1; omega
          refine ⟨_, rfl, _, rfl, ma, _, rfl, .inl (Evl.sq_of (S7.ex _ _ (e06 _ _ hma))), p, ms.length, o1, _, by rw [lmm]; rfl, S7.get 1 rfl, w1, by omega, lms, Int.lt_of_le_of_lt (show (ms.length : Int) ≤ 64 by omega) (by decide), fun a o2 ha w2 => ?_⟩
          have S8 : Has G6 _ ((row2, .lst (xs ++ [.ref t5])) :: (p, o2) :: l) := S7.set 1 rfl
          generalize upd H7 p o2 = H8 at S8
          have hma8 := e06 _ _ hma
          simp only [List.set_cons_succ, List.set_cons_zero]
          -- one in another's place
          refine ⟨_, rfl, _, rfl, _, rfl, _, rfl, (a : Int), rfl, ma, _, rfl, Evl.sq_of (S8.ex _ _ hma8), fun q1 n1 => ?_⟩
          rw [cut_toN, lmm, Nat.min_eq_left (by omega)]
          obtain ⟨G9, e9, hq1, S9⟩ := (S8.new (o := .lst ((ms.map V.int).take a)) n1).intoG
          refine ⟨_, rfl, sz (by show 1 ≤ 100000; decide), fun l3 nl3 => ?_⟩
          obtain ⟨G10, e10, hl3, S10⟩ := (S9.new (o := .lst [.int ex]) nl3).intoG
          refine ⟨q1, l3, _, _, rfl, rfl, S10.ex _ _ (e10 _ _ hq1), S10.ex _ _ hl3, sz (by rw [List.length_take, lmm]; show _ + 1 ≤ 100000; omega), fun c2 nc2 => ?_⟩
          obtain ⟨G11, e11, hc2, S11⟩ := (S10.new (o := .lst ((ms.map V.int).take a ++ [.int ex])) nc2).intoG
          refine ⟨_, rfl, _, rfl, _, _, rfl, rfl, ((a + 1 : Nat) : Int), by rw [Int.natCast_add]; rfl, ma, _, rfl, Evl.sq_of (S11.ex _ _ (((e9.trans e10).trans e11) _ _ hma8)), fun q2 n2 => ?_⟩
          rw [cut_onN, lmm, Nat.min_eq_left (by omega)]
          obtain ⟨G12, e12, hq2, S12⟩ := (S11.new (o := .lst ((ms.map V.int).drop (a + 1))) n2).intoG
          refine ⟨c2, q2, _, _, rfl, rfl, S12.ex _ _ (e12 _ _ hc2), S12.ex _ _ hq2, sz (by rw [List.length_append, List.length_take, List.length_drop, lmm]; show _ + 1 + _ ≤ 100000; omega), fun c3 nc3 => ?_⟩
          obtain ⟨G13, e13, hc3, S13⟩ := (S12.new (o := .lst (((ms.map V.int).take a ++ [.int ex]) ++ (ms.map V.int).drop (a + 1))) nc3).intoG
          have e613 := (((e9.trans e10).trans e11).trans e12).trans e13
          have r2 : ∀ m ∈ (ms.take a ++ [ex]) ++ ms.drop (a + 1), Rg n m := fun m hm => by
            rcases List.mem_append.mp hm with h | h
            · rcases List.mem_append.mp h with h | h
              · exact hms.2.2 m (List.mem_of_mem_take h)
              · rw [List.mem_singleton.mp h]
                exact rex
            · exact hms.2.2 m (List.mem_of_mem_drop h)
          refine ⟨G13, _, c3, n, (ms.take a ++ [ex]) ++ ms.drop (a + 1), rfl, S13, by rw [List.map_append, List.map_append, List.map_take, List.map_drop]; exact Evl.sq_of (S13.ex _ _ hc3), hn0, by omega, by simp, by rw [List.length_append, List.length_append, List.length_take, List.length_drop]; show _ + 1 + _ ≤ 64; omega, fun G14 t14 H14 L14 e14 S14 tab14 of14 => ?_⟩
          refine ⟨sz (by show 1 ≤ 100000; decide), fun l4 nl4 => ?_⟩
          obtain ⟨G15, e15, hl4, S15⟩ := (S14.new (o := .lst [.ref t14]) nl4).intoG
          refine ⟨row2, l4, _, [.ref t14], rfl, rfl, S15.get 0 rfl, S15.ex _ _ hl4, sz (by rw [List.length_append]; show xs.length + 1 + 1 ≤ 100000; omega), fun row3 nrow3 => ?_⟩
          have S16 : Has G15 _ ((row3, .lst ((xs ++ [.ref t5]) ++ [.ref t14])) :: (p, o2) :: l) := (S15.new (o := .lst ((xs ++ [.ref t5]) ++ [.ref t14])) nrow3).drop2
          have e615 := (e613.trans e14).trans e15
          have U14 : UnT C G15 n ms (.ref t14) := ⟨t14, n, L14, rfl, tab14.ex e15, .inr (tab_unlike of14 hms.2.2 r2 (.inr ⟨ex, List.mem_append.mpr (.inl (List.mem_append.mpr (.inr (List.mem_singleton.mpr rfl)))), nex⟩))⟩
          refine q G15 _ o2 row3 _ _ _ (e06.trans e615) S16 (w2.up (by omega)) (fun v hv => ?_) (by rw [List.length_append, List.length_append]; show xs.length + 1 + 1 ≤ 3; omega)
          rcases List.mem_append.mp hv with h | h
          · rcases List.mem_append.mp h with h | h
            · exact (hxs v h).ex (e06.trans e615)
            · rw [List.mem_singleton.mp h]
              exact U5.ex e615
          · rw [List.mem_singleton.mp h]
            exact U14))
      (pss_cons (ps_if (pt_cmpR op_gt (pe_callB call_len_seq (by rfl) z.len PySem.boot_len (pa_cons (pv 2) pa_nil)) pe_int (nomark _)) (pss_cons (ps_set (i := 6) sc_law_unlike.nd rfl (Or.inl rfl) (pe_o O_dip (hr.mono (by decide)) (pa_cons (pv 0) (pa_cons (pe_callB call_len_seq (by rfl) z.len PySem.boot_len (pa_cons (pv 2) pa_nil)) pa_nil))))
        (pss_one (ps_set (i := 3) sc_law_unlike.nd rfl (Or.inl rfl) (pe_op op_cat (pv 3) (pe_lst (pa_cons (pe_o O_make hr (pa_cons (pv 1) (pa_cons (pe_op op_cat (pe_slice sl_list (pv 2) po_none (po_some (pv 6))) (pe_slice sl_list (pv 2) (po_some (pe_op op_add (pv 6) pe_int)) po_none)) pa_nil))) pa_nil)))))) pss_nil)
      (pss_one (ps_ret (pv 3))))))), ?_⟩
    have lmm : (ms.map V.int).length = ms.length := List.length_map _
    have l64 := len_rg (up_nodup hms.1) hms.2.2 hn6
    refine ⟨G, _, n, ma, ms, rfl, rfl, S, hms, hn6, l64, hma, fun G1 H1 row xs e1 S1 hxs lxs => ?_⟩
    have hma1 := e1 _ _ hma
    -- spare ones
    have p64 : 2 ^ n ≤ 64 := Nat.pow_le_pow_right (n := 2) (by decide) hn6
    have epow : (1 : Int) * 2 ^ n = ((2 ^ n : Nat) : Int) := by
      push_cast
      omega
    have pp : (0 : Int) ≤ 2 ^ n := by
      have := Int.natCast_nonneg (2 ^ n)
      push_cast at this
      exact this
    have p64' := pow6 hn6
    refine ⟨_, rfl, _, n, rfl, rfl, _root_.L2.shl_ok (n := 9) (by decide) (by omega), _, rfl, ?_, ?_, fun D nD => ?_⟩
    · show -(2 ^ 62) ≤ (1 : Int) * 2 ^ n
      omega
    · show (1 : Int) * 2 ^ n < 2 ^ 62
      omega
    rw [show ((1 : Int) * 2 ^ n).toNat = 2 ^ n by rw [epow]; exact Int.toNat_natCast _]
    refine lc_range (lo := 0) (n := 2 ^ n) (fun i H' => Has G1 H' ((D, .lst ((spareL ms i).map V.int)) :: (row, .lst xs) :: (p, o) :: l)) (S1.new nD) ?_ ?_
    · rintro i H2 hi S2
      rw [Int.zero_add]
      have ls := spare_len ms i
      refine ⟨rfl, _, rfl, _, rfl, ma, _, rfl, .inl (Evl.sq_of (S2.ex _ _ hma1)), rfl, flat_ints ms, _, rfl, ?_⟩
      rw [if_pos rfl, show inV (V.int (i : Int)) (ms.map V.int) = decide ((i : Int) ∈ ms) from inV_int (i : Int) ms]
      by_cases c : (i : Int) ∈ ms
      · rw [decide_eq_true c]
        show Has G1 H2 _
        rw [spare_up, if_pos c, List.append_nil]
        exact S2
      · rw [decide_eq_false c]
        refine ⟨_, rfl, _, S2.get 0 rfl, szl (by rw [List.length_map]; omega), ?_⟩
        rw [spare_up, if_neg c, List.map_append]
        exact S2.set 0 rfl
    rintro H2 S2'
    obtain ⟨G2, e2, hD, S2⟩ := S2'.intoG
    simp only [List.set_cons_succ, List.set_cons_zero]
    have e02 := e1.trans e2
    refine ⟨G2, l, p, ma, row, D, o, k, n, ms, spareL ms (2 ^ n), xs, _, _, _, rfl, S2, wo, by omega, hms, hn0, hn6, e02 _ _ hma, hD, fun e he => ?_, by have := spare_len ms (2 ^ n); omega, fun v hv => (hxs v hv).ex e2, lxs, fun G3 H3 o3 row3 xs3 v5 v6 e3 S3 w3 hxs3 lxs3 => ?_⟩
    · unfold spareL at he
      obtain ⟨j, hj, rfl⟩ := List.mem_map.mp he
      obtain ⟨h1, h2⟩ := List.mem_filter.mp hj
      have h1 := List.mem_range.mp h1
      refine ⟨⟨Int.natCast_nonneg _, ?_⟩, fun h => by simp [h] at h2⟩
      have : ((j : Nat) : Int) < ((2 ^ n : Nat) : Int) := by exact_mod_cast h1
      rw [← epow] at this
      omega
    have e03 := e02.trans e3
    have hma3 := e03 _ _ hma
    -- one less
    refine ⟨_, rfl, ma, _, rfl, .inl (Evl.sq_of (S3.ex _ _ hma3)), _, _, rfl, rfl, _, rfl, ?_⟩
    refine ite2 (fun hc => ?_) (fun _ => ⟨_, rfl, q G3 H3 o3 row3 xs3 e03 S3 (w3.up (by omega)) hxs3⟩)
    have l2 : 1 < ms.length := by
      have := of_decide_eq_true hc
      rw [lmm] at this
      omega
    refine ⟨_, rfl, _, rfl, ma, _, rfl, .inl (Evl.sq_of (S3.ex _ _ hma3)), p, ms.length, o3, _, by rw [lmm]; rfl, S3.get 1 rfl, w3, by omega, by omega, Int.lt_of_le_of_lt (show (ms.length : Int) ≤ 64 by omega) (by decide), fun a o4 ha w4 => ?_⟩
    have S4 : Has G3 _ ((row3, .lst xs3) :: (p, o4) :: l) := S3.set 1 rfl
    generalize upd H3 p o4 = H4 at S4
    simp only [List.set_cons_succ, List.set_cons_zero]
    refine ⟨_, rfl, _, rfl, _, rfl, _, rfl, (a : Int), rfl, ma, _, rfl, Evl.sq_of (S4.ex _ _ hma3), fun q1 n1 => ?_⟩
    rw [cut_toN, lmm, Nat.min_eq_left (by omega)]
    obtain ⟨G5, e5, hq1, S5⟩ := (S4.new (o := .lst ((ms.map V.int).take a)) n1).intoG
    refine ⟨_, rfl, _, rfl, _, _, rfl, rfl, ((a + 1 : Nat) : Int), by rw [Int.natCast_add]; rfl, ma, _, rfl, Evl.sq_of (S5.ex _ _ (e5 _ _ hma3)), fun q2 n2 => ?_⟩
    rw [cut_onN, lmm, Nat.min_eq_left (by omega)]
    obtain ⟨G6, e6, hq2, S6⟩ := (S5.new (o := .lst ((ms.map V.int).drop (a + 1))) n2).intoG
    refine ⟨q1, q2, _, _, rfl, rfl, S6.ex _ _ (e6 _ _ hq1), S6.ex _ _ hq2, sz (by rw [List.length_take, List.length_drop, lmm]; omega), fun c nc => ?_⟩
    obtain ⟨G7, e7, hc7, S7⟩ := (S6.new (o := .lst ((ms.map V.int).take a ++ (ms.map V.int).drop (a + 1))) nc).intoG
    have e37 := (e5.trans e6).trans e7
    have sub : ∀ m ∈ ms.take a ++ ms.drop (a + 1), m ∈ ms := fun m hm => (List.mem_append.mp hm).elim List.mem_of_mem_take List.mem_of_mem_drop
    have hlen : (ms.take a ++ ms.drop (a + 1)).length + 1 = ms.length := by
      rw [List.length_append, List.length_take, List.length_drop]
      omega
    refine ⟨G7, _, c, n, ms.take a ++ ms.drop (a + 1), rfl, S7, by rw [List.map_append, List.map_take, List.map_drop]; exact Evl.sq_of (S7.ex _ _ hc7), hn0, by omega, fun e0 => by rw [e0] at hlen; simp at hlen; omega, by omega, fun G8 t8 H8 L8 e8 S8 tab8 of8 => ?_⟩
    refine ⟨sz (by show 1 ≤ 100000; decide), fun l9 nl9 => ?_⟩
    obtain ⟨G9, e9, hl9, S9⟩ := (S8.new (o := .lst [.ref t8]) nl9).intoG
    refine ⟨row3, l9, _, [.ref t8], rfl, rfl, S9.get 0 rfl, S9.ex _ _ hl9, sz (by show xs3.length + 1 ≤ 100000; omega), fun row4 nrow4 => ?_⟩
    have S10 : Has G9 _ ((row4, .lst (xs3 ++ [.ref t8])) :: (p, o4) :: l) := (S9.new (o := .lst (xs3 ++ [.ref t8])) nrow4).drop2
    have hma' : ms[a]? = some ms[a] := List.getElem?_eq_getElem ha
    generalize ms[a] = mx at hma'
    have nd := up_nodup hms.1
    have gone : mx ∉ ms.take a ++ ms.drop (a + 1) := fun h => by
      have sp : ms = ms.take a ++ mx :: ms.drop (a + 1) := by
        obtain ⟨lt, e⟩ := List.getElem?_eq_some_iff.mp hma'
        rw [← e, List.getElem_cons_drop, List.take_append_drop]
      rw [sp] at nd
      have nd2 : (mx :: (ms.take a ++ ms.drop (a + 1))).Nodup := List.perm_middle.nodup_iff.mp nd
      exact (List.nodup_cons.mp nd2).1 h
    have U8 : UnT C G9 n ms (.ref t8) := ⟨t8, n, L8, rfl, tab8.ex e9, .inr (tab_unlike of8 hms.2.2 (fun m hm => hms.2.2 m (sub m hm)) (.inl ⟨mx, List.mem_of_getElem? hma', gone⟩))⟩
    have e39 := (e37.trans e8).trans e9
    refine ⟨_, rfl, q G9 _ o4 row4 _ (e03.trans e39) S10 (w4.up (by omega)) fun v hv => ?_⟩
    rcases List.mem_append.mp hv with h | h
    · exact (hxs3 v h).ex e39
    · rw [List.mem_singleton.mp h]
      exact U8
end
end TW
set_option Elab.async false
set_option linter.all false
set_option maxRecDepth 100000
set_option maxHeartbeats 2000000
/-! list(o), o of an own class with its own __len__ whose __iter__ hands out iter(its tuple) -/
namespace TW
open PySem PySem.Spec PyProof.Rows L2
/-- at it an iterator over the tuple at t, i items taken -/
def TiN (t it : Addr) (i : Nat) : HO := .ext fun h => h.IsTupleIter it t i
theorem tiN_ok {P : Program} {w : World} {H : Hp} {h : Heap} {t it : Addr} {i : Nat} (st : h.IsTupleIter it t i) : ObjOk P w H h it (TiN t it i) :=
  ⟨st, (by obtain ⟨o, e, _⟩ := st; exact ⟨o, e⟩), fun _ _ z k => (by obtain ⟨o, e, r⟩ := z; exact ⟨o, k _ e, r⟩)⟩
theorem upd_comm {H : Hp} {a b : Addr} {o u : HO} (n : a ≠ b) : upd (upd H a o) b u = upd (upd H b u) a o := by
  funext c
  by_cases h1 : c = b
  · subst h1
    rw [upd_same, upd_ne (Ne.symm n), upd_same]
  · rw [upd_ne h1]
    by_cases h2 : c = a
    · subst h2
      rw [upd_same, upd_same]
    · rw [upd_ne h2, upd_ne h2, upd_ne h1]
section
variable {X : Cx} {pins : List (Addr × Obj)} {σ : L2.St}
theorem tup_loop {A1 : Around} {Rs : Result → Shared → Prop} {l it S : Addr} {zs : List V} {H0 : Hp} (hh : A1.in1.handled = none) (n1 : H0 it = none) (n2 : H0 S = none) (ne : it ≠ S) (hz : SqT X.K H0 l zs) (hsz : X.s_0.heap.objs.size ≤ it)
    (hdone : ∀ s, Inv X pins σ (upd H0 S (.lst zs)) s → Rs (.ok (.ret .none)) s) :
    ∀ (k i : Nat) (s : Shared), zs.length - i = k → i ≤ zs.length → Inv X pins σ (upd (upd H0 it (TiN l it i)) S (.lst (zs.take i))) s → codeAny (model X.prog X.w) A1 (.builtin "list.extend.loop" ⟨[.ref S, .ref it, .none], []⟩) Rs s := by
  have ex : ∀ (i : Nat) (ys : List V), Evl.Ex H0 (upd (upd H0 it (TiN l it i)) S (.lst ys)) := fun i ys => (Evl.Ex.new n1).trans (Evl.Ex.new (by rw [upd_ne (Ne.symm ne)]; exact n2))
  intro k
  induction k with
  | zero =>
    intro i s hk hi I
    have e : i = zs.length := by omega
    subst e
    refine codeAny_builtin PySem.F.entry_extend_loop ?_
    rw [Around.under_plainId PySem.F.plain_extend_loop _]
    show wpAny _ A1.in1 (pyNext (.ref it) >>= _) _ _ s
    obtain ⟨its, rv, p, _⟩ := I.tuple (Evl.ex_t (ex _ _) hz)
    have hit : upd (upd H0 it (TiN l it zs.length)) S (.lst (zs.take zs.length)) it = some (TiN l it zs.length) := by rw [upd_ne ne, upd_same]
    have st : s.heap.IsTupleIter it l zs.length := (I.hok it _ hit).1
    have hl := rv.length
    refine wpAny_bind (wpAny_pyNext_tuple_end hh st (show s.heap.IsTuple l its.toArray from p) (by simp; omega) fun h' eb => wpAny_pure (hdone _ ?_))
    have fp := ItX.inv_fp I hit hsz
    have I2 := ItX.inv_drop I hit
    obtain ⟨f0, f1, f2, f3, f4, f5⟩ := fp
    have I3 := I2.turned (t' := s.toks) (fun b o hb e => eb b o hb e) f0 f1 f3 f4 f5
    have eH : ItX.dropH (upd (upd H0 it (TiN l it zs.length)) S (.lst (zs.take zs.length))) it = upd H0 S (.lst zs) := by
      rw [List.take_of_length_le (Nat.le_refl _), upd_comm ne, ItX.dropH_upd (by rw [upd_ne ne]; exact n1)]
    rw [eH] at I3
    exact I3
  | succ k ih =>
    intro i s hk hi I
    have hlt : i < zs.length := by omega
    refine codeAny_builtin PySem.F.entry_extend_loop ?_
    rw [Around.under_plainId PySem.F.plain_extend_loop _]
    show wpAny _ A1.in1 (pyNext (.ref it) >>= _) _ _ s
    obtain ⟨its, rv, p, hsl⟩ := I.tuple (Evl.ex_t (ex _ _) hz)
    have hit : upd (upd H0 it (TiN l it i)) S (.lst (zs.take i)) it = some (TiN l it i) := by rw [upd_ne ne, upd_same]
    have st : s.heap.IsTupleIter it l i := (I.hok it _ hit).1
    have hz' : zs[i]? = some zs[i] := List.getElem?_eq_getElem hlt
    obtain ⟨u, hu, ru⟩ := rv.get hz'
    refine wpAny_bind (wpAny_pyNext_tuple_item st (show s.heap.IsTuple l its.toArray from p) (x := u) (by simpa using hu) fun h' st' sb => ?_)
    have mu : Mut (upd (upd H0 it (TiN l it i)) S (.lst (zs.take i)) it) := by rw [hit]; exact True.intro
    have I2 := I.write (x := it) (e := it) (t' := s.toks) (h' := h') mu (.inl rfl) (fun b o nb z => (sb.2 b nb).trans z) (let ⟨o, e, _⟩ := st'; ⟨o, e⟩) (tiN_ok st')
    show wpAny _ A1.in1 (updateSeq S (·.push u) >>= _) _ _ _
    rw [upd_comm (Ne.symm ne), upd_upd] at I2
    obtain ⟨z, its2, c, r2, hl2, e2⟩ := I2.lstM (l := S) upd_same
    have i3 : i < sizeLine := by omega
    have hl3 : its2.length = i := by rw [← hl2, List.length_take]; omega
    refine wpAny_bind (wpAny_updateSeq e2 rfl (wpAny_pure ⟨plainId_quiet PySem.F.plain_extend_loop _, ?_⟩) (by rw [List.size_toArray]; omega) (by show (its2.toArray.push u).size ≤ sizeLine + 1; rw [Array.size_push, List.size_toArray]; omega))
    have I3 := I2.lset (l := S) (f := (·.push u)) (its' := its2 ++ [u]) (ys := zs.take i ++ [zs[i]]) (t' := s.toks) upd_same e2 (by simp) (r2.append (.cons ru .nil)) (by rw [List.length_append, List.length_take, List.length_singleton]; omega)
    rw [upd_upd, ← take_snoc hz'] at I3
    exact ih (i + 1) _ (by omega) hlt I3
/-- list(o) -/
def rListT (K : PySem.W.Frag) (C : Addr) (f : Str) (spL : Sp) : List V → Hp → VK → Prop := fun xs H Q => ∃ a dx fs l zs, xs = [V.ref a] ∧ H a = some (.ins C dx fs) ∧ fs.lookup f = some (.ref l) ∧ H l = some (.tup zs) ∧
  (∀ H', Evl.Ex H H' → spL [.ref a] H' (fun z H'' => ∃ n : Int, z = .int n ∧ 0 ≤ n ∧ n ≤ 100000 ∧ H'' = H') E0) ∧ ∀ S, H S = none → Q (.ref S) (upd H S (.lst zs))
theorem call_listOwnT {C fi fl : Addr} {fdI fdL : FuncData} {f : Str} {spL : Sp} {k : Nat} (h1 : PySem.W.findIn X.K (.ref C) "__iter__" = some (some (.ref fi))) (h2 : PySem.W.isFn X.K (.ref fi) = true)
    (F : FnY X.prog X.w X.K X.mg X.base k fi fdI ["self"] (spIt X.K C f)) (b : Binds X.K fdI ["self"] []) (g1 : PySem.W.findIn X.K (.ref C) "__len__" = some (some (.ref fl))) (g2 : PySem.W.isFn X.K (.ref fl) = true)
    (FL : FnOk X.prog X.w X.K X.mg X.base CX0 k fl fdL ["self"] spL) (bL : Binds X.K fdL ["self"] []) (hr : Room (k + 3) X.A) (hc : X.calm = true) : CallR X (.type "list") (rListT X.K C f spL) := by
  intro pins s σ H xs us Q I rv h
  obtain ⟨a, dx, fs, l, zs, rfl, ha, hf, hl, hlen, hq⟩ := h
  obtain ⟨u, rfl, ru⟩ := rv.one
  cases (show u = Value.ref a from ru)
  have sb : Sub X (k + 1) X.A.in1.in1 := (Sub.in1 (Sub.in1 (⟨hr, rfl⟩ : Sub X (k + 3) X.A)))
  refine callType_codes (Q₁ := fun obj s₁ => obj = .ref s.heap.objs.size ∧ s₁ = { s with heap := s.heap.push { cls := .type "list", data := .seq #[] } }) PySem.F.called_list (PySem.F.typeCall_list_1 _) PySem.F.entry_list_init
    (code_list_new _ ⟨rfl, rfl⟩) fun obj s₁ h₁ => ?_
  obtain ⟨rfl, rfl⟩ := h₁
  have hS : (s.heap.push { cls := .type "list", data := .seq #[] }).get? s.heap.objs.size = some { cls := .type "list", data := .seq #[] } := Heap.get?_push_size _ rfl
  refine ⟨⟨_, hS, rfl⟩, PySem.F.args_list_init_2 _ _, ?_⟩
  have fr : H s.heap.objs.size = none := I.hok.fresh (Nat.le_refl _)
  generalize hSe : s.heap.objs.size = S at *
  have I1 : Inv X pins σ (upd H S (.lst [])) { s with heap := s.heap.push { cls := .type "list", data := .seq #[] } } := by
    have := I.lnew (its := []) (ys := []) (t' := s.toks) .nil (Nat.zero_le _)
    rw [hSe] at this
    exact this
  show wpAny _ X.A.in1.in1 (do let old ← Builtin.List.listItems (.ref S); Builtin.List.listUpdate (.ref S) (fun _ => #[]); letGo old.toList.reverse; Builtin.List.listExtendWith (.ref S) (.ref a) .none) _ _ _
  refine wpAny_bind ?_
  unfold Builtin.List.listItems
  refine wpAny_bind (wpAny_seqItems hS rfl (wpAny_pure ?_))
  show wpAny _ _ (updateSeq S (fun _ => #[]) >>= fun _ => letGo (#[] : Array Value).toList.reverse >>= fun _ => Builtin.List.listExtendWith (.ref S) (.ref a) .none) _ _ _
  refine wpAny_bind (wpAny_updateSeq hS rfl ?_)
  have I2 := I1.lset (f := fun _ => #[]) (its := []) (its' := []) (ys := []) (t' := s.toks) upd_same hS rfl .nil (Nat.zero_le _)
  rw [upd_upd] at I2
  refine wpAny_bind (wpAny_letGo ?_)
  generalize hs2 : ({ s with heap := (s.heap.push { cls := .type "list", data := .seq #[] }).update S (Obj.mapSeq fun _ => #[]), toks := s.toks } : Shared) = s2 at I2 ⊢
  have nSa : a ≠ S := ne_of_none ha fr
  have ha2 : upd H S (.lst []) a = some (.ins C dx fs) := by rw [upd_ne nSa]; exact ha
  have hl2 : SqT X.K (upd H S (.lst [])) l zs := Evl.st_of (by rw [upd_ne (ne_of_none hl fr)]; exact hl)
  obtain ⟨mA, J, _⟩ := ins_get I2.hok ha2
  obtain ⟨od, J, _⟩ := J.look
  obtain ⟨m0, hF⟩ := I2.fr
  unfold Builtin.List.listExtendWith
  refine wpAny_bind (J.type.here ?_)
  have q1 : Builtin.List.listSameRef (.ref S) (.ref a) = false := by simp [Builtin.List.listSameRef, Ne.symm nSa]
  have q2 : (Value.ref C == Value.type "list") = false := rfl
  have q3 : (Value.ref C == Value.type "tuple") = false := rfl
  simp only [q1, q2, q3, Bool.or_false, Bool.false_eq_true, if_false]
  have e0 : Env0 X.prog X.w X.K X.mg X.base X.A.in1.in1 X.stack s2 (upd H S (.lst [])) := by
    have e := I2.env0
    exact ⟨by rw [sb.fr]; exact e.frames, e.mod, e.bs, e.bsz, e.funs, e.frf, e.hok, e.bare⟩
  refine wpAny_bind (PySem.W.owit_iter hF I2.ok.mod.kin J h1 h2 (wpAny_call (codeAny_mono (F X.A.in1.in1 X.stack s2 (upd H S (.lst [])) [.ref a] [.ref a] (fun v H' => ∃ it, v = .ref it ∧ upd H S (.lst []) it = none ∧ s2.heap.objs.size ≤ it ∧ H' = upd (upd H S (.lst [])) it (TiO l it)) (sb.room.mono (by omega)) e0 ?_ (.cons rfl .nil) rfl ?_) fun r s' hq' => ?_)))
  · have z := b s2 [.ref a] I2.kIn rfl
    rw [List.append_nil] at z
    exact z
  · exact ⟨a, dx, fs, l, zs, rfl, ha2, hf, hl2, fun it n1 n2 => ⟨it, rfl, n1, n2, rfl⟩⟩
  cases r with
  | error er => exact hq'.elim
  | ok fl =>
    cases fl with
    | next => exact hq'.elim
    | brk => exact hq'.elim
    | cont => exact hq'.elim
    | ret u =>
      obtain ⟨v, H', I3, rv, it, rfl, n1, n2, rfl⟩ := I2.after hq'
      cases rv
      have hit : upd (upd H S (.lst [])) it (TiO l it) it = some (TiO l it) := upd_same
      have ho : s'.heap.get? it = some (tupIt l) := (I3.hok it _ hit).1
      unfold PySem.W.OwitIt
      refine wpAny_specialOf ⟨_, ho, rfl⟩ PySem.F.slot_tuple_iterator_next.lookup ?_
      have neS : it ≠ S := fun z => by rw [z, upd_same] at n1; cases n1
      have n1' : H it = none := by rw [upd_ne neS] at n1; exact n1
      have mu : Mut (upd (upd H S (.lst [])) it (TiO l it) it) := by rw [hit]; exact True.intro
      have I4 : Inv X pins σ (upd (upd H S (.lst [])) it (TiN l it 0)) s' := by
        have := I3.write (x := it) (e := it) (h' := s'.heap) (t' := s'.toks) (o := TiN l it 0) mu (.inl rfl) (fun b o _ z => z) ⟨_, ho⟩ (tiN_ok ⟨_, ho, rfl, rfl⟩)
        rw [upd_upd] at this
        exact this
      rw [upd_comm (Ne.symm neS)] at I4
      have ha4 : upd (upd H it (TiN l it 0)) S (.lst []) a = some (.ins C dx fs) := by rw [upd_ne nSa, upd_ne (fun z => by rw [z, n1'] at ha; cases ha)]; exact ha
      have hl4 : SqT X.K H l zs := Evl.st_of hl
      obtain ⟨mA4, J4, _⟩ := ins_get I4.hok ha4
      obtain ⟨od4, J4, _⟩ := J4.look
      refine wpAny_bind (wpAny_holding ?_)
      unfold Builtin.List.listLengthHint
      refine wpAny_bind (wpAny_bind (J4.type.here ((PySem.W.looks_findIn I4.kIn g1).here ?_)))
      refine PySem.W.KFB.if_not rfl ?_
      refine PySem.W.KFB.if_so rfl ?_
      refine wpAny_bind (wpAny_rule ?_)
      refine wpAny_bind (wpAny_attempt ?_)
      have e4 : Env0 X.prog X.w X.K X.mg X.base X.A.in1.in1.in1 X.stack s' (upd (upd H it (TiN l it 0)) S (.lst [])) := by
        have e := I4.env0
        exact ⟨by rw [sb.fr]; exact e.frames, e.mod, e.bs, e.bsz, e.funs, e.frf, e.hok, e.bare⟩
      have exH : Evl.Ex H (upd (upd H it (TiN l it 0)) S (.lst [])) := (Evl.Ex.new n1').trans (Evl.Ex.new (by rw [upd_ne (Ne.symm neS)]; exact fr))
      refine len_ownW I4.kIn J4 g1 g2 (wpAny_call (codeAny_mono (FL.run X.A.in1.in1.in1 X.stack s' _ ⟨[.ref a], []⟩ [.ref a] [.ref a] _ E0 (Room.mono (sb.room.in1) (Nat.le_refl _)) e4 (bL _ [.ref a] I4.kIn rfl) (.cons rfl .nil) (hlen _ exH)) fun r s5 hq5 => ?_))
      cases r with
      | error er => exact False.elim hq5
      | ok fl =>
        cases fl with
        | next => exact False.elim hq5
        | brk => exact False.elim hq5
        | cont => exact False.elim hq5
        | ret u =>
          obtain ⟨v5, H5, I5, r5, n, rfl, hn0, hn1, rfl⟩ := I4.after hq5
          obtain ⟨t5, rfl⟩ : ∃ t, u = Value.int n t := r5
          refine ⟨n, t5, rfl, hn0, Int.lt_of_le_of_lt hn1 (by decide), ?_⟩
          refine wpAny_bind (m := asInt? (.int n _)) (wpAny_pure ?_)
          refine PySem.W.KFB.if_not (notLongL (by have : sizeLine = 16777216 := sizeLine_eq; omega)) ?_
          refine wpAny_pure ?_
          have I6 := I5.tok (s5.toks + 1)
          have fin : ∀ s, Inv X pins σ (upd (upd H it (TiN l it 0)) S (.lst (zs.take 0))) s → codeAny (model X.prog X.w) X.A.in1 (.builtin "list.extend.loop" ⟨[.ref S, .ref it, .none], []⟩) (wants (fun r s₂ => r = .none ∧ EP X pins σ Q (.ref S) s₂) X.xe) s := fun s I =>
            tup_loop (A1 := X.A.in1) (I.ok.hd hc) n1' fr neS hl4 (Nat.le_trans I2.sz n2) (fun s I => ⟨rfl, .ref S, _, I, rfl, hq S fr⟩) zs.length 0 s rfl (Nat.zero_le _) I
          refine wpAny_ite_split (fun _ => ?_) (fun _ => wpAny_pure ⟨plainId_quiet PySem.F.plain_extend_loop _, fin _ I6⟩)
          obtain ⟨z7, its7, k7, r7, hl7, e7⟩ := I6.lstM (l := S) upd_same
          cases r7
          refine wpAny_bind (wpAny_rule ?_)
          refine wpAny_bind ?_
          show wpAny _ _ (updateSeq S (·.push .none) >>= fun _ => updateSeq S (·.pop)) _ _ _
          refine wpAny_bind (wpAny_updateSeq e7 rfl ?_)
          have I8 := I6.lset (l := S) (f := (·.push Value.none)) (its' := [Value.none]) (ys := [.non]) (t' := s5.toks + 1) upd_same e7 (by simp) (.cons rfl .nil) (by rw [List.length_singleton, sizeLine_eq]; decide)
          obtain ⟨z9, its9, k9, r9, hl9, e9⟩ := I8.lstM (l := S) upd_same
          obtain ⟨u9, rfl, ru9⟩ := r9.one
          refine wpAny_updateSeq e9 rfl ?_ (by show 1 ≤ sizeLine; rw [sizeLine_eq]; decide) (by show 0 ≤ sizeLine + 1; exact Nat.zero_le _)
          have I9 := I8.lset (l := S) (f := (·.pop)) (its := [u9]) (its' := []) (ys := []) (t' := s5.toks + 1) upd_same e9 (by rfl) .nil (Nat.zero_le _)
          rw [upd_upd, upd_upd] at I9
          exact wpAny_pure ⟨plainId_quiet PySem.F.plain_extend_loop _, fin _ I9⟩
end
end TW
set_option Elab.async false
set_option linter.all false
set_option maxRecDepth 100000
set_option maxHeartbeats 1000000
namespace TW
open PySem PySem.Spec PyProof.Rows L2
/-! lots and bits -/
theorem bit_testY (x j : Nat) : bitB (x : Int) j = x.testBit j := by
  unfold bitB
  rw [Nat.testBit_eq_decide_div_mod_eq, Bool.eq_iff_iff, decide_eq_true_eq, decide_eq_true_eq]
  have e : ((x : Int) / 2 ^ j % 2) = ((x / 2 ^ j % 2 : Nat) : Int) := by push_cast; rfl
  rw [e]
  omega
theorem lot_upY (m : Int) (n : Nat) : lotOf m (n + 1) = lotOf m n ++ (if bitB m n then [(n : Int)] else []) := by
  unfold lotOf
  rw [List.range_succ, List.filter_append, List.map_append]
  congr 1
  cases h : bitB m n with
  | false => rw [List.filter_cons_of_neg (by simp [h])]; simp
  | true => rw [List.filter_cons_of_pos h]; simp
theorem bits_sumY (x n : Nat) : ((lotOf (x : Int) n).map fun k => (1 : Int) * 2 ^ k.toNat).sum = ((x % 2 ^ n : Nat) : Int) := by
  induction n with
  | zero => simp [lotOf, Nat.mod_one]
  | succ n ih =>
    rw [lot_upY, List.map_append, List.sum_append, ih]
    have e : x % 2 ^ (n + 1) = x % 2 ^ n + 2 ^ n * (x / 2 ^ n % 2) := by rw [Nat.pow_succ, Nat.mod_mul]
    rw [e, bit_testY, Nat.testBit_eq_decide_div_mod_eq]
    have h := Nat.mod_two_eq_zero_or_one (x / 2 ^ n)
    rcases h with h | h
    · rw [h, if_neg (by decide)]
      simp
    · rw [h, if_pos (by decide)]
      simp
theorem bits_lotY {n : Nat} {m : Int} (h : Rg n m) : ((lotOf m n).map fun k => (1 : Int) * 2 ^ k.toNat).sum = m := by
  obtain ⟨x, rfl⟩ := Int.eq_ofNat_of_zero_le h.1
  have lt : x < 2 ^ n := by
    have := h.2
    exact_mod_cast this
  rw [bits_sumY, Nat.mod_eq_of_lt lt]
theorem intsD_ints : ∀ ns : List Int, intsD (ns.map OD.int) = some ns
  | [] => rfl
  | n :: ns => by
    show (intsD (ns.map OD.int)).map (n :: ·) = _
    rw [intsD_ints ns]
    rfl
/-- each lot is that of its mask -/
theorem lot_mask {n : Nat} {ns : List Int} (h : isLot ns (some (n : Int)) = true) : ∃ m, Rg n m ∧ ns = lotOf m n := by
  unfold isLot at h
  rw [Bool.and_eq_true, List.all_eq_true] at h
  obtain ⟨h1, h2⟩ := h
  refine ⟨(maskN (fun k => decide ((k : Int) ∈ ns)) n : Int), ⟨Int.natCast_nonneg _, ?_⟩, up_ext (asc_up h2) (lot_asc _ _) fun z => ?_⟩
  · have := maskN_lt (fun k => decide ((k : Int) ∈ ns)) n
    exact_mod_cast this
  rw [lot_mem]
  constructor
  · intro hz
    have q := h1 z hz
    rw [Bool.and_eq_true, decide_eq_true_eq] at q
    have q2 : z < n := of_decide_eq_true q.2
    refine ⟨z.toNat, by omega, ?_, by omega⟩
    rw [maskN_bit _ n _ (by omega)]
    rw [show ((z.toNat : Nat) : Int) = z by omega]
    exact decide_eq_true hz
  · rintro ⟨k, hk, hb, rfl⟩
    rw [maskN_bit _ n _ hk] at hb
    exact of_decide_eq_true hb
theorem mask_in {n : Nat} {ms : List Int} {L : Lots} (h : TabOf n ms L) (hm : ∀ m ∈ ms, Rg n m) {m : Int} (r : Rg n m) : decide (lotOf m n ∈ L.map (·.2)) = decide (m ∈ ms) := by
  rw [Bool.eq_iff_iff, decide_eq_true_eq, decide_eq_true_eq]
  constructor
  · intro hl
    obtain ⟨p, hp, e⟩ := List.mem_map.mp hl
    obtain ⟨m', hm', e2⟩ := h.1 p hp
    have r' := hm m' hm'
    have := lot_inj r.1 r.2 r'.1 r'.2 (e.symm.trans e2)
    exact this ▸ hm'
  · exact h.2.1 m
section
variable {P : Program} {w : World} {K : PySem.W.Frag} {mg : Str → Option Value} {base : Heap} {C N : Addr}
/-! _law_bits_of, of a list -/
theorem sc_law_bits_of : FnScope ["pick", "k"] ["pick"] (defScope s__law_bits_of) := ⟨rfl, rfl, rfl, by decide +kernel, rfl, by decide +kernel, by decide +kernel⟩
def spBitsL (K : PySem.W.Frag) : Sp := fun vs H Q _ => ∃ (a : Addr) (n : Nat) (m : Int), vs = [.ref a] ∧ SqL K H a ((lotOf m n).map V.int) ∧ n ≤ 6 ∧ Rg n m ∧ ∀ H', Ex H H' → Q (.int m) H'
theorem ok_bitsL (D : Dfn K mg "_law_bits_of" s__law_bits_of ["pick"]) (z : Z mg) (zu : mg "sum" = none) : Ok P w K mg base 1 "_law_bits_of" ["pick"] (spBitsL K) := D.ok fun f fd F => by
  refine F.ok sc_law_bits_of (fun vs H Q E h => ?_) (fun cdv A outer sh H vs Q E hr h => ?_)
  · obtain ⟨a, n, m, rfl, _⟩ := h
    rfl
  · obtain ⟨a, n, m, rfl, ha, hn6, rm, q⟩ := h
    refine ⟨_, (pss_one (ps_ret (pe_callB (cr_sum rfl) (by rfl) zu (by decide +kernel) (pa_cons (pe_lc (own := [("k", 1)]) (g := gName 1) rfl sc_law_bits_of.nd (pi_list (pv 0)) (blkOk_by (N := ["pick", "k"]) (own := [("k", 1)]) (sc := defScope s__law_bits_of) (by decide +kernel)) (fun _ _ _ _ _ => pg_name (i := 1) sc_law_bits_of.nd rfl (Or.inl rfl)) (fun _ _ _ _ _ => pts_nil) (fun _ _ _ _ _ => (pe_op op_shlN pe_int (pv 1)))) pa_nil)))), ?_⟩
    have ll := lot_len m n
    refine ⟨_, rfl, a, rfl, ⟨_, ha⟩, fun Dl nD => ?_⟩
    refine lc_list (K := K) (xs := (lotOf m n).map V.int) (fun i H' => Ex H H' ∧ H' Dl = some (.lst ((((lotOf m n).take i).map fun k => (1 : Int) * 2 ^ k.toNat).map V.int))) ⟨Evl.Ex.new nD, by rw [upd_same]; rfl⟩ (fun i H' _ p => Evl.ex_l p.1 ha) ?_ ?_
    · rintro i x H1 hi ⟨e1, h1⟩
      obtain ⟨k, hk, rfl⟩ := map_get hi
      obtain ⟨j, hj, _, rfl⟩ := lot_mem.mp (List.mem_of_getElem? hk)
      refine ⟨rfl, _, rfl, 1, j, rfl, rfl, shl_ok (n := j) (by omega), ?_⟩
      refine ⟨_, h1, szl (by rw [List.length_map, List.length_map, List.length_take]; omega), Evl.Ex.mut e1 nD, ?_⟩
      rw [upd_same, take_snoc hk, List.map_append, List.map_append]
      rfl
    · rintro H1 ⟨e1, h1⟩
      rw [List.length_map, List.take_length] at h1
      refine ⟨Dl, _, rfl, Evl.sq_of h1, ?_⟩
      rw [bits_lotY rm]
      exact q H1 e1
/-! _law_asked -/
/-- inside = .. -/
def tInside (C N : Addr) : TE := fun σ H Q => ∃ (x : V) (d : OD) (n : Nat) (L : Lots) (ms : List Int) (tm : Addr), σ[6]? = some (some x) ∧ σ[1]? = some (some (.int n)) ∧ σ[2]? = some (some (.ref tm)) ∧ H tm = some (.lst (ms.map V.int)) ∧ AtD C N H x d ∧ (∀ ds, d = .tup ds → ds.length ≤ 1000) ∧ TabOf n ms L ∧ (∀ m ∈ ms, Rg n m) ∧ n ≤ 6 ∧ ∀ H', Ex H H' → Q (.bl (inD d n L)) H'
structure TCoO (P : Program) (w : World) (K : PySem.W.Frag) (mg : Str → Option Value) (base : Heap) (C N f : Addr) (fd : FuncData) : Prop where
  at_ : PySem.W.findIn K (.ref C) "__contains__" = some (some (.ref f))
  fn : PySem.W.isFn K (.ref f) = true
  ok : FnOk P w K mg base CX0 4 f fd ["self", "value"] (spContainsO C N)
  b : Binds K fd ["self", "value"] []
abbrev NAS : List Str := ["book", "wide", "masks", "near", "due", "mask", "thing_like", "inside", "pick"]
theorem sc_law_asked : FnScope NAS ["book", "wide", "masks", "near"] (defScope s__law_asked) := ⟨rfl, rfl, rfl, by decide +kernel, rfl, by decide +kernel, by decide +kernel⟩
def spAsked (K : PySem.W.Frag) (C N : Addr) : Sp := fun vs H Q _ => ∃ (tb tm tn : Addr) (n : Nat) (L : Lots) (ms : List Int) (zs : List V) (ds : List OD), vs = [.ref tb, .int n, .ref tm, .ref tn] ∧ TabAt C H tb n L ∧ TabOf n ms L ∧ masksOk n ms ∧ 0 < n ∧ n ≤ 6 ∧ H tm = some (.lst (ms.map V.int)) ∧ SqL K H tn zs ∧ AtsD C N H zs ds ∧ (∀ d ∈ ds, ∀ es, d = .tup es → es.length ≤ 1000) ∧ ∀ H', Ex H H' → Q (.bl true) H'
theorem ok_asked {gp gg gq gl gi fl fc : Addr} {gpd gqd gid fld fcd : FuncData} (D : Dfn K mg "_law_asked" s__law_asked ["book", "wide", "masks", "near"]) (z : Z mg) (T : TC K mg C) (PT : TG P w K mg base C gp gg gpd "things" (spThings C)) (PL : TG P w K mg base C gq gl gqd "lots" (spLots C)) (It : TI P w K mg base C gi gid) (LN : TLn P w K mg base C fl fld) (CO : TCoO P w K mg base C N fc fcd)
    (O_lot_of : Ok P w K mg base 1 "_law_lot_of" ["mask", "wide"] spLotOf) (O_same : ∀ n, Ok P w K mg base (n + 1) "_law_same" ["given", "due"] (spSame n)) (O_a_lot : Ok P w K mg base 2 "_law_a_lot" ["value", "wide"] (spALotO C N)) (O_bits : Ok P w K mg base 1 "_law_bits_of" ["pick"] (spBitsL K)) :
    Ok P w K mg base 8 "_law_asked" ["book", "wide", "masks", "near"] (spAsked K C N) := D.ok fun f fd F => by
  refine F.ok sc_law_asked (fun vs H Q E h => ?_) (fun cdv A outer sh H vs Q E hr h => ?_)
  · obtain ⟨tb, tm, tn, n, L, ms, zs, ds, rfl, _⟩ := h
    rfl
  · obtain ⟨tb, tm, tn, n, L, ms, zs, ds, rfl, tab, htab, hms, hn, hn6, htm, htn, azs, lds, q⟩ := h
    have inO := op_inOwn (X := (cxOf CX0 P w K mg base NAS "_law_asked" (defScope s__law_asked) f cdv A outer sh H E).nox) CO.at_ CO.fn CO.ok CO.b (hr.mono (by decide))
    refine ⟨_, (pss_cons (ps_set (i := 4) sc_law_asked.nd rfl (Or.inl rfl) (pe_callB (cr_sortE (K := K) hr.units) (by rfl) z.sorted (by decide +kernel) (pa_cons (pe_lc (own := [("mask", 5)]) (g := gName 5) rfl sc_law_asked.nd (pi_list (pv 2)) (blkOk_by (N := NAS) (own := [("mask", 5)]) (sc := defScope s__law_asked) (by decide +kernel)) (fun _ _ _ _ _ => pg_name (i := 5) sc_law_asked.nd rfl (Or.inl rfl)) (fun _ _ _ _ _ => pts_nil) (fun _ _ _ _ _ => (pe_o O_lot_of (hr.mono (by decide)) (pa_cons (pv 5) (pa_cons (pv 1) pa_nil))))) pa_nil)))
      (pss_cons (ps_if (PW.pt (pw_or (pt_not (pt_val (pe_o (O_same 0) (hr.mono (by decide)) (pa_cons (pe_prop (pv 0) T.cl PT.at_ PT.ok (hr.mono (by decide)) PT.b .nil pass0 rfl) (pa_cons (pv 1) pa_nil))))) (pw_or (pt_not (pt_val (pe_o (O_same 2) (hr.mono (by decide)) (pa_cons (pe_prop (pv 0) T.cl PL.at_ PL.ok (hr.mono (by decide)) PL.b .nil pass0 rfl) (pa_cons (pv 4) pa_nil))))) (pw_or1 (pt_not (pt_val (pe_o (O_same 0) (hr.mono (by decide)) (pa_cons (pe_callB (call_lenOwn LN.at_ LN.fn LN.ok LN.b (hr.mono (by decide))) (by rfl) z.len PySem.boot_len (pa_cons (pv 0) pa_nil)) (pa_cons (pe_callB call_len_seq (by rfl) z.len PySem.boot_len (pa_cons (pv 4) pa_nil)) pa_nil))))))))) (pss_one (ps_ret pe_bl)) pss_nil)
      (pss_cons (ps_if (PW.pt (pw_or (pt_not (pt_val (pe_o (O_same 2) (hr.mono (by decide)) (pa_cons (pe_lc (own := [("pick", 8)]) (g := gName 8) rfl sc_law_asked.nd (pi_own (f := "_lots") (pv 0) It.at_ It.fn It.ok It.b (hr.mono (by decide))) (blkOk_by (N := NAS) (own := [("pick", 8)]) (sc := defScope s__law_asked) (by decide +kernel)) (fun _ _ _ _ _ => pg_name (i := 8) sc_law_asked.nd rfl (Or.inl rfl)) (fun _ _ _ _ _ => pts_nil) (fun _ _ _ _ _ => (pv 8))) (pa_cons (pv 4) pa_nil))))) (pw_or1 (pt_not (pt_val (pe_o (O_same 2) (hr.mono (by decide)) (pa_cons (pe_callTy (call_listOwnT (f := "_lots") (k := 1) It.at_ It.fn It.ok It.b LN.at_ LN.fn LN.ok LN.b (hr.mono (by decide)) rfl) (by rfl) z.list (by decide +kernel) (pa_cons (pv 0) pa_nil)) (pa_cons (pv 4) pa_nil)))))))) (pss_one (ps_ret pe_bl)) pss_nil)
      (pss_cons (ps_for PassesOwn.never rfl (pi_range1 (by rfl) z.range (pa_cons (pe_op op_shlN pe_int (pv 1)) pa_nil)) (pg_name (i := 5) sc_law_asked.nd rfl (Or.inl rfl))
      (pss_one (ps_if (pt_cmpR op_ne (pe_cmpR inO (pe_o O_lot_of (hr.mono (by decide)) (pa_cons (pv 5) (pa_cons (pv 1) pa_nil))) (pv 0) (by rfl)) (pe_cmpR (op_inK (K := K)) (pv 5) (pv 2) (by rfl)) (nomark _)) (pss_one (ps_ret pe_bl)) pss_nil)))
      (pss_cons (ps_for PassesOwn.never rfl (pi_list (pv 3)) (pg_name (i := 6) sc_law_asked.nd rfl (Or.inl rfl))
      (pss_cons (ps_set (i := 7) sc_law_asked.nd rfl (Or.inl rfl) (PE.imp (t' := tInside C N) (pe_and (pe_o O_a_lot (hr.mono (by decide)) (pa_cons (pv 6) (pa_cons (pv 1) pa_nil))) (pe_one (pe_cmpR (op_inK (K := K)) (pe_o O_bits (hr.mono (by decide)) (pa_cons (pe_callTy call_list_of (by rfl) z.list (by decide +kernel) (pa_cons (pv 6) pa_nil)) pa_nil)) (pv 2) (by rfl)))) (fun σ H Q h => by
          obtain ⟨x, d, n, L, ms, tm, h6, h1, h2, htm, ad, ld, htab, rg, hn6, q⟩ := h
          refine ⟨_, h6, _, h1, x, d, (n : Int), rfl, ad, ld, fun H1 e1 => ?_⟩
          have no : isLotD d (some (n : Int)) = false → inD d n L = false := fun h => by
            cases d with
            | tup ds =>
              cases e : intsD ds with
              | none => exact inD_none e n L
              | some ns =>
                rw [isLotD_some e] at h
                rw [inD_some e, h]
                rfl
            | _ => rfl
          cases c : isLotD d (some (n : Int)) with
          | false =>
            have := q H1 e1
            rw [no c] at this
            exact ⟨_, rfl, this⟩
          | true =>
            cases d with
            | tup ds =>
              cases e : intsD ds with
              | none =>
                rw [isLotD_none e] at c
                cases c
              | some ns =>
                rw [isLotD_some e] at c
                obtain ⟨pa, xs, rfl, ha, axs⟩ := ad.inT
                have em := intsD_map e
                subst em
                rw [axs.ints] at ha
                obtain ⟨m, rm, rfl⟩ := lot_mask c
                have q' : ∀ H', Ex H1 H' → Q (.bl (decide (m ∈ ms))) H' := fun H' e' => by
                  have := q H' (e1.trans e')
                  rw [inD_some e, c, Bool.true_and, mask_in htab rg rm] at this
                  exact this
                refine ⟨_, rfl, _, h6, pa, _, rfl, .inr (Evl.st_of (e1 _ _ ha)), fun pl npl => ?_⟩
                refine ⟨pl, n, m, rfl, Evl.sq_of upd_same, hn6, rm, fun H2 e2 => ?_⟩
                have e12 := (Evl.Ex.new npl).trans e2
                refine ⟨_, h2, tm, _, rfl, .inl (Evl.sq_of (e12 _ _ (e1 _ _ htm))), rfl, flat_ints ms, ?_⟩
                rw [show inV (V.int m) (ms.map V.int) = decide (m ∈ ms) from inV_int m ms]
                exact q' H2 e12
            | _ => cases c)))
      (pss_one (ps_if (pt_cmpR op_ne (pe_cmpR inO (pv 6) (pv 0) (by rfl)) (pv 7) (nomark _)) (pss_one (ps_ret pe_bl)) pss_nil))))
      (pss_one (ps_ret pe_bl))))))), ?_⟩
    obtain ⟨dx, tl, h1, h2, h3⟩ := id tab
    have lms := masks_len hn hn6 hms
    have lL := lots_le htab hms hn hn6
    have are := tabOf_are htab
    refine ⟨_, rfl, tm, rfl, ⟨_, Evl.sq_of htm⟩, fun D1 nD1 => ?_⟩
    refine lc_list (K := K) (a := tm) (xs := ms.map V.int) (fun i H' => ∃ (G : Hp) (ys : List V), Ex H G ∧ Has G H' [(D1, .lst ys)] ∧ Ats G ys ((ms.take i).map fun m => tupD (lotOf m n))) ⟨H, [], Evl.Ex.refl _, Has.nil.new nD1, .nil⟩ (fun i H' _ p => by
      obtain ⟨G, ys, e, S, _⟩ := p
      exact Evl.sq_of ((e.trans S.ex) _ _ htm)) ?_ ?_
    · rintro i x H20 hi ⟨G, ys, e, S, hy⟩
      obtain ⟨m, hm, rfl⟩ := map_get hi
      have hi2 := (List.getElem?_eq_some_iff.mp hm).1
      have ly : ys.length ≤ 64 := by
        rw [hy.1, List.length_map, List.length_take]
        omega
      refine ⟨rfl, _, rfl, _, rfl, m, n, rfl, by omega, fun t H21 nt e21 ht => ?_⟩
      have S21 := S.newE e21 nt ht
      refine ⟨_, S21.get 1 rfl, szl (by omega), _, ys ++ [.ref t], e.trans S21.exS, S21.sink.set 0 rfl, ?_⟩
      rw [take_snoc hm, List.map_append]
      exact (hy.ex S21.exS).snoc (at_lot upd_same)
    rintro H20 ⟨G10, y10, e10, S20, hy10⟩
    rw [List.take_of_length_le (by rw [List.length_map]; exact Nat.le_refl _)] at hy10
    obtain ⟨z1, z2, z3⟩ := ats_zip hy10
    refine ⟨D1, _, rfl, by rw [z1]; exact Evl.sq_of (S20.get 0 rfl), fun b hb => ((z3 b hb).ex S20.ex).dp, .inr fun b hb => ?_, fun b hb => ?_, fun p np => ?_⟩
    · have : b.2 ∈ ms.map fun m => tupD (lotOf m n) := by
        rw [← z2]
        exact List.mem_map_of_mem hb
      obtain ⟨c, _, ec⟩ := List.mem_map.mp this
      exact ⟨_, ec.symm⟩
    · have : b.2 ∈ ms.map fun m => tupD (lotOf m n) := by
        rw [← z2]
        exact List.mem_map_of_mem hb
      obtain ⟨c, _, ec⟩ := List.mem_map.mp this
      rw [← ec]
      exact Nat.le_trans (depth_tupD _) (by decide)
    have fin := ats_sort z3
    rw [z2, lots_told htab hms] at fin
    generalize hZ : ((y10.zip (ms.map fun m => tupD (lotOf m n))).mergeSort (PySem.W.dataLe false (·.2))).map (·.1) = Zz at fin
    have S21 := (S20.new (o := .lst Zz) np).drop2
    generalize upd H20 p (.lst Zz) = H21 at S21
    have lZ : Zz.length = L.length := by rw [fin.1, List.length_map, List.length_map]
    have tabG := tab.ex e10
    obtain ⟨dx', tl', g1, g2, g3⟩ := id tabG
    have llL : (L.map (·.2)).length ≤ 1000 := by rw [List.length_map]; omega
    have lot1 : ∀ l ∈ L.map (·.2), l.length ≤ 1000 := fun l hl => by
      obtain ⟨m, _, rfl⟩ := are.1 l hl
      have := lot_len m n
      omega
    have aL : Ats G10 (refs L) ((L.map (·.2)).map tupD) := lots_at g3
    -- things
    refine ⟨_, rfl, tb, dx', _, rfl, S21.ex _ _ g1, tb, n, L, rfl, tabG.ex S21.ex, _, rfl, _, _, rfl, Rep.flat rfl, fun H22 e22 => ⟨_, rfl, ?_⟩⟩
    have S22 := S21.go e22
    -- lots
    refine ⟨_, rfl, tb, dx', _, rfl, S22.ex _ _ g1, tb, n, L, rfl, tabG.ex S22.ex, fun u nu => ?_⟩
    have S23 := S22.new (o := .lst (refs L)) nu
    generalize upd H22 u (.lst (refs L)) = H23 at S23
    have a1 : At H23 (.ref u) (.list ((L.map (·.2)).map tupD)) := At.mkL (S23.get 0 rfl) (aL.ex S23.ex)
    have a2 : At H23 (.ref p) (.list ((L.map (·.2)).map tupD)) := At.mkL (S23.get 1 rfl) (fin.ex S23.ex)
    refine ⟨_, rfl, .ref u, .ref p, rfl, rep_lots llL lot1 a1 a2, fun H24 e24 => ⟨_, rfl, ?_⟩⟩
    have S24 := (S23.go e24).tail
    -- len
    refine ⟨_, rfl, tb, dx', _, rfl, S24.ex _ _ g1, tb, n, L, rfl, tabG.ex S24.ex, (L.length : Int), rfl, by omega, by omega, ?_⟩
    refine ⟨_, rfl, p, _, rfl, .inl (Evl.sq_of (S24.get 0 rfl)), ?_⟩
    refine ⟨_, _, rfl, ⟨by rw [lZ], rfl⟩, fun H25 e25 => ⟨_, rfl, ?_⟩⟩
    have S25 := S24.go e25
    -- the walk
    refine ⟨_, rfl, tb, dx', _, tl', _, rfl, S25.ex _ _ g1, tf_lots n tl', Evl.st_of (S25.ex _ _ g2), fun D2 nD2 => ?_⟩
    refine lc_tup (K := K) (a := tl') (xs := refs L) (fun i H' => Has G10 H' [(D2, .lst ((refs L).take i)), (p, .lst Zz)]) (S25.new nD2) (fun i H' _ S => Evl.st_of (S.ex _ _ g2)) ?_ ?_
    · rintro i x H27 hi S27
      refine ⟨rfl, _, rfl, _, S27.get 0 rfl, szl (by rw [List.length_take, refs_len]; omega), ?_⟩
      rw [take_snoc hi]
      exact S27.set 0 rfl
    rintro H27 S27
    rw [List.take_length] at S27
    refine ⟨_, rfl, .ref D2, .ref p, rfl, rep_lots llL lot1 (At.mkL (S27.get 0 rfl) (aL.ex S27.ex)) (At.mkL (S27.get 1 rfl) (fin.ex S27.ex)), fun H28 e28 => ⟨_, rfl, ?_⟩⟩
    have S28 := (S27.go e28).tail
    -- list(book)
    refine ⟨_, rfl, tb, dx', _, tl', _, rfl, S28.ex _ _ g1, tf_lots n tl', S28.ex _ _ g2, fun H' e' => ⟨tb, n, L, rfl, (tabG.ex S28.ex).ex e', (L.length : Int), rfl, by omega, by omega, rfl⟩, fun D3 nD3 => ?_⟩
    have S29 := S28.new (o := .lst (refs L)) nD3
    generalize upd H28 D3 (.lst (refs L)) = H29 at S29
    refine ⟨_, rfl, .ref D3, .ref p, rfl, rep_lots llL lot1 (At.mkL (S29.get 0 rfl) (aL.ex S29.ex)) (At.mkL (S29.get 1 rfl) (fin.ex S29.ex)), fun H30 e30 => ⟨_, rfl, ?_⟩⟩
    have S30 := (S29.go e30).tail
    -- each mask
    have p64 : 2 ^ n ≤ 64 := Nat.pow_le_pow_right (n := 2) (by decide) hn6
    have epow : (1 : Int) * 2 ^ n = ((2 ^ n : Nat) : Int) := by
      push_cast
      omega
    have pp : (0 : Int) ≤ 2 ^ n := by
      have := Int.natCast_nonneg (2 ^ n)
      push_cast at this
      exact this
    have p64' := pow6 hn6
    have htmG := e10 _ _ htm
    refine ⟨_, rfl, _, n, rfl, rfl, _root_.L2.shl_ok (n := 9) (by decide) (by omega), _, rfl, ?_, ?_, ?_⟩
    · show -(2 ^ 62) ≤ (1 : Int) * 2 ^ n
      omega
    · show (1 : Int) * 2 ^ n < 2 ^ 62
      omega
    rw [show ((1 : Int) * 2 ^ n).toNat = 2 ^ n by rw [epow]; exact Int.toNat_natCast _]
    refine for_range (lo := 0) (n := 2 ^ n) (fun i σ H' => ∃ (v5 : Option V), σ = [some (.ref tb), some (.int n), some (.ref tm), some (.ref tn), some (.ref p), v5, none, none, none] ∧ Has G10 H' [(p, .lst Zz)]) ⟨none, rfl, S30⟩ ?_ ?_
    · rintro i σ H2 hi ⟨v5, rfl, S2⟩
      rw [Int.zero_add]
      have ri : Rg n (i : Int) := ⟨Int.natCast_nonneg _, by
        have : ((i : Nat) : Int) < ((2 ^ n : Nat) : Int) := by exact_mod_cast hi
        rw [← epow] at this
        omega⟩
      refine ⟨_, rfl, _, rfl, (i : Int), n, rfl, by omega, fun t H3 nt e3 ht => ?_⟩
      have S3 := S2.newE e3 nt ht
      have ll := lot_len (i : Int) n
      have od : AtD C N H3 (.ref t) (.tup ((lotOf (i : Int) n).map OD.int)) := (AtsD.of_ints _).mkT ht (by rw [List.length_map]; omega)
      refine ⟨_, rfl, tb, dx', _, rfl, S3.ex _ _ g1, tb, n, L, .ref t, _, rfl, tabG.ex S3.ex, od, fun ds e => by cases e; rw [List.length_map]; omega, fun H4 e4 => ⟨_, rfl, ?_⟩⟩
      have S4 := (S3.go e4).tail
      rw [inD_some (intsD_ints _), lot_ok, Bool.true_and, mask_in htab hms.2.2 ri]
      refine ⟨_, rfl, _, rfl, tm, _, rfl, .inl (Evl.sq_of (S4.ex _ _ htmG)), rfl, flat_ints ms, ?_⟩
      rw [show inV (V.int (i : Int)) (ms.map V.int) = decide ((i : Int) ∈ ms) from inV_int (i : Int) ms]
      refine ⟨rfl, _, rfl, ?_⟩
      rw [if_neg (by simp), decide_eq_true rfl]
      exact ⟨_, rfl, S4⟩
    rintro σ H2 ⟨v5, rfl, S2⟩
    -- each near one
    have azG := azs.ex e10
    refine ⟨_, rfl, tn, rfl, ⟨_, Evl.ex_l (e10.trans S2.ex) htn⟩, for_list (K := K) (a := tn) (xs := zs) (fun i σ H' => ∃ (v6 v7 : Option V), σ = [some (.ref tb), some (.int n), some (.ref tm), some (.ref tn), some (.ref p), v5, v6, v7, none] ∧ Has G10 H' [(p, .lst Zz)]) ⟨none, none, rfl, S2⟩ (fun i σ H' _ h => by
      obtain ⟨_, _, _, S'⟩ := h
      exact Evl.ex_l (e10.trans S'.ex) htn) ?_ ?_⟩
    · rintro i x σ H3 hi ⟨v6, v7, rfl, S3⟩
      obtain ⟨d, hd, ad⟩ := azG.get hi
      have ld := lds d (List.mem_of_getElem? hd)
      refine ⟨x, d, n, L, ms, tm, rfl, rfl, rfl, S3.ex _ _ htmG, ad.ex S3.ex, ld, htab, hms.2.2, hn6, fun H4 e4 => ?_⟩
      have S4 := S3.go e4
      refine ⟨_, rfl, _, rfl, tb, dx', _, rfl, S4.ex _ _ g1, tb, n, L, x, d, rfl, tabG.ex S4.ex, ad.ex S4.ex, ld, fun H5 e5 => ⟨_, rfl, _, rfl, ?_⟩⟩
      have S5 := S4.go e5
      refine ⟨rfl, _, rfl, ?_⟩
      rw [if_neg (by simp), decide_eq_true rfl]
      exact ⟨_, _, rfl, S5⟩
    · rintro σ H3 ⟨v6, v7, rfl, S3⟩
      exact q H3 (e10.trans S3.ex)
end
end TW
set_option Elab.async false
set_option linter.all false
set_option maxRecDepth 100000
set_option maxHeartbeats 1000000
namespace TW
open PySem PySem.Spec PyProof.Rows L2
/-- a list of the lots of these masks, some of them twice -/
def LotsM (G : Hp) (n : Nat) (ms : List Int) (xs : List V) : Prop := (∀ v ∈ xs, ∃ (t : Addr) (m : Int), v = .ref t ∧ m ∈ ms ∧ G t = some (.tup ((lotOf m n).map V.int))) ∧ (∀ m ∈ ms, ∃ t, V.ref t ∈ xs ∧ G t = some (.tup ((lotOf m n).map V.int)))
theorem LotsM.ex {G G' : Hp} {n : Nat} {ms : List Int} {xs : List V} (h : LotsM G n ms xs) (e : Ex G G') : LotsM G' n ms xs := ⟨fun v hv => by
  obtain ⟨t, m, h1, h2, h3⟩ := h.1 v hv
  exact ⟨t, m, h1, h2, e _ _ h3⟩, fun m hm => by
  obtain ⟨t, h1, h2⟩ := h.2 m hm
  exact ⟨t, h1, e _ _ h2⟩⟩
theorem LotsM.same {G : Hp} {n : Nat} {ms : List Int} {xs ys : List V} (h : LotsM G n ms xs) (i : ∀ v, v ∈ ys ↔ v ∈ xs) : LotsM G n ms ys := ⟨fun v hv => h.1 v ((i v).mp hv), fun m hm => by
  obtain ⟨t, h1, h2⟩ := h.2 m hm
  exact ⟨t, (i _).mpr h1, h2⟩⟩
theorem lots_vals {G : Hp} {n : Nat} {ms : List Int} : ∀ {xs : List V}, (∀ v ∈ xs, ∃ (t : Addr) (m : Int), v = .ref t ∧ m ∈ ms ∧ G t = some (.tup ((lotOf m n).map V.int))) → ∃ ks : Lots, xs = refs ks ∧ InLots G ks ∧ ∀ p ∈ ks, ∃ m ∈ ms, p.2 = lotOf m n
  | [], _ => ⟨[], rfl, fun p hp => absurd hp List.not_mem_nil, fun p hp => absurd hp List.not_mem_nil⟩
  | v :: xs, h => by
    obtain ⟨ks, e, h1, h2⟩ := lots_vals (xs := xs) fun u hu => h u (List.mem_cons_of_mem _ hu)
    obtain ⟨t, m, rfl, hm, ht⟩ := h v List.mem_cons_self
    refine ⟨(t, lotOf m n) :: ks, by rw [e]; rfl, fun p hp => ?_, fun p hp => ?_⟩
    · rcases List.mem_cons.mp hp with rfl | hp
      · exact ht
      · exact h1 p hp
    · rcases List.mem_cons.mp hp with rfl | hp
      · exact ⟨m, hm, rfl⟩
      · exact h2 p hp
theorem ints_inj {xs ys : List Int} (e : xs.map V.int = ys.map V.int) : xs = ys := (List.map_inj_right (fun a b h => V.int.inj h)).mp e
theorem LotsM.lots {G : Hp} {n : Nat} {ms : List Int} {xs : List V} (h : LotsM G n ms xs) : ∃ ks : Lots, xs = refs ks ∧ InLots G ks ∧ (∀ p ∈ ks, ∃ m ∈ ms, p.2 = lotOf m n) ∧ ∀ m ∈ ms, lotOf m n ∈ ks.map (·.2) := by
  obtain ⟨ks, e, h1, h2⟩ := lots_vals h.1
  refine ⟨ks, e, h1, h2, fun m hm => ?_⟩
  obtain ⟨t, ht, hg⟩ := h.2 m hm
  rw [e] at ht
  obtain ⟨p, hp, ep⟩ := List.mem_map.mp ht
  have et : p.1 = t := V.ref.inj ep
  have hq := h1 p hp
  rw [et, hg] at hq
  have := ints_inj (HO.tup.inj (Option.some.inj hq))
  exact List.mem_map.mpr ⟨p, hp, this.symm⟩
section
variable {P : Program} {w : World} {K : PySem.W.Frag} {mg : Str → Option Value} {base : Heap} {C N : Addr}
theorem table_made {f : Addr} {fd : FuncData} (M : TM P w K mg base C f fd) {G H : Hp} {l : List (Addr × HO)} {n : Nat} {ll : Addr} {xs : List V} {ms : List Int} {R : Hp → Prop} {x dx : Addr} (nx : H x = none) (ndx : H dx = none) (hne : x ≠ dx) (S : Has G H l) (hll : H ll = some (.lst xs)) (hx : LotsM G n ms xs) (hl : xs.length ≤ 64) (ne : ms ≠ []) (hn : 0 < n) (hn' : n ≤ 1000)
    (k : ∀ (G' H' : Hp) (L : Lots), Ex G G' → Has G' H' l → TabAt C G' x n L → TabOf n ms L → R H') : spInit C [.ref x, .int n, .ref ll] (upd (upd H dx (.own x)) x (.ins C dx [])) (fun z H' => z = .non ∧ R H') E0 := by
  obtain ⟨ks, rfl, hk, hin, hout⟩ := hx.lots
  have S1 := S.new (o := .own x) ndx
  have nx1 : (upd H dx (.own x)) x = none := by rw [upd_ne hne]; exact nx
  have S2 := S1.sink.new (o := .ins C dx []) nx1
  have e2 := S1.exS
  have hll1 : (upd H dx (.own x)) ll = some (.lst (refs ks)) := by rw [upd_ne (ne_of_none hll ndx)]; exact hll
  have hll2 : (upd (upd H dx (.own x)) x (.ins C dx [])) ll = some (.lst (refs ks)) := by rw [upd_ne (ne_of_none hll1 nx1)]; exact hll1
  refine ⟨_, l, x, dx, ll, n, ks, rfl, S2, hll2, ne_of_none hll1 nx1, hk.ex e2, hn, ⟨fun e0 => ?_, by rw [← refs_len]; exact hl, fun p hp => ?_⟩, fun G' H' dl L eG S' hdl hL => ⟨rfl, ?_⟩⟩
  · obtain ⟨m, hm⟩ := List.exists_mem_of_ne_nil ms ne
    have := hout m hm
    rw [e0] at this
    exact absurd this List.not_mem_nil
  · obtain ⟨m, _, e3⟩ := hin p hp
    rw [e3]
    exact ⟨lot_ok m n, Nat.le_trans (lot_len m n) hn'⟩
  · have S8 : Has (upd G' x (.ins C dx (tf n dl))) H' l := S'.sink
    have e8 := S'.exS
    refine k _ H' L ((e2.trans eG).trans e8) S8 ⟨dx, dl, upd_same, e8 _ _ hdl, fun p hp => e8 _ _ (eG _ _ (e2 _ _ (hk p (hL.1 p hp))))⟩ ⟨fun p hp => ?_, fun m hm => ?_, hL.2.2⟩
    · exact hin p (hL.1 p hp)
    · obtain ⟨p, hp, e3⟩ := List.mem_map.mp (hout m hm)
      rw [← e3]
      exact hL.2.1 p hp
/-! == of tables of any numbers of things -/
def spTabEqG (C : Addr) : Sp := fun vs H Q _ => ∃ (a b : Addr) (n m : Nat) (L L' : Lots), vs = [.ref a, .ref b] ∧ TabAt C H a n L ∧ TabAt C H b m L' ∧ Q (.bl (decide (n = m) && decide (L.map (·.2) = L'.map (·.2)))) H
theorem ok_tabEqG {f : Addr} {fd : FuncData} (F : Fun K "__eq__" "Table.__eq__" s_Table_eq f fd) (z : Z mg) (T : TC K mg C) : FnOk P w K mg base CX0 1 f fd ["self", "other"] (spTabEqG C) := by
  refine F.ok sc_Table_eq (fun vs H Q E h => ?_) (fun cdv A outer sh H vs Q E hr h => ?_)
  · obtain ⟨a, b, n, m, L, L', rfl, _⟩ := h
    rfl
  · obtain ⟨a, b, n, m, L, L', rfl, ⟨dx, l, h1, h2, h3⟩, ⟨dx', l', h1', h2', h3'⟩, q⟩ := h
    refine ⟨_, (pss_one (ps_ret (pe_and (pe_callB (C8.call_isC T.ins) (by rfl) z.isinstance (by decide +kernel) (pa_cons (pv 1) (pa_cons (pe_glob (by rfl) T.mg (show RelV (.ref C) (.ref C) from rfl)) pa_nil))) (pe_and (pe_cmpR op_eq (pe_fld (pv 0) rfl) (pe_fld (pv 1) rfl) (nomark _)) (pe_one (pe_cmpR (op_eqD hr.units) (pe_fld (pv 0) rfl) (pe_fld (pv 1) rfl) (nomark _))))))), ?_⟩
    refine ⟨_, rfl, b, dx', _, rfl, h1', _, rfl, ?_⟩
    refine ⟨_, rfl, a, C, dx, _, _, rfl, h1, T.cl, T.nT, tf_things n l, _, rfl, b, C, dx', _, _, rfl, h1', T.cl, T.nT, tf_things m l', rfl, ?_⟩
    by_cases c : n = m
    · subst c
      rw [decide_eq_true rfl, Bool.true_and] at q
      rw [decide_eq_true rfl]
      refine ⟨_, rfl, _, rfl, a, C, dx, _, _, rfl, h1, T.cl, T.nL, tf_lots n l, _, rfl, b, C, dx', _, _, rfl, h1', T.cl, T.nL, tf_lots n l', .tuple ((L.map (·.2)).map tupD), .tuple ((L'.map (·.2)).map tupD), (At.mkT h2 (lots_at h3)).dp, (At.mkT h2' (lots_at h3')).dp, shaped_tups _, shaped_tups _, ?_⟩
      rw [show PyData.eqv (.tuple ((L.map (·.2)).map tupD)) (.tuple ((L'.map (·.2)).map tupD)) = decide (L.map (·.2) = L'.map (·.2)) from eqvAll_tups _ _]
      exact q
    · rw [decide_eq_false c, Bool.false_and] at q
      rw [decide_eq_false (fun e => c (by have := V.int.inj e; omega))]
      exact ⟨_, rfl, q⟩
structure TEqG (P : Program) (w : World) (K : PySem.W.Frag) (mg : Str → Option Value) (base : Heap) (C N f : Addr) (fd : FuncData) : Prop where
  at_ : PySem.W.findIn K (.ref C) "__eq__" = some (some (.ref f))
  fn : PySem.W.isFn K (.ref f) = true
  ok : FnOk P w K mg base CX0 1 f fd ["self", "other"] (spTabEqG C)
  odd : FnOk P w K mg base CX0 1 f fd ["self", "other"] (spTabEqO C N)
  b : Binds K fd ["self", "other"] []
def swI {α : Type} : List α → List α → List α
  | [x], [a, b] => [x, a, b]
  | _, _ => []
theorem swI_rel {vs : List V} {us : List Value} {zs : List V} {ws : List Value} (h1 : Vals vs us) (h2 : Vals zs ws) : Vals (swI vs zs) (swI us ws) := by
  cases h1 with
  | nil => exact .nil
  | cons a b =>
    cases b with
    | cons c d => exact .nil
    | nil =>
      cases h2 with
      | nil => exact .nil
      | cons c d =>
        cases d with
        | nil => exact .nil
        | cons e f =>
          cases f with
          | nil => exact .cons a (.cons c (.cons e .nil))
          | cons g h => exact .nil
theorem kb_table {f : Addr} {fd : FuncData} (F : Fun K "__init__" "Table.__init__" s_Table_init f fd) : KBn K fd ["self", "things", "lots"] 1 ["things", "lots"] swI swI := by
  refine ⟨fun s us ws _ l1 l2 => ?_, swI_rel⟩
  obtain ⟨oc, od, kV, doc, pm, an, cdv, ct, osl, rfl, lk, hcd⟩ := F.ex
  refine .of_eq ?_
  match us, ws, l1, l2 with
  | [x], [a, b], _, _ => rfl
end
end TW
set_option Elab.async false
set_option linter.all false
set_option maxRecDepth 100000
set_option maxHeartbeats 2000000
namespace TW
open PySem PySem.Spec PyProof.Rows L2
theorem cut_ints (xs : List Int) (lo hi : Option Int) : ∃ ms : List Int, cutV (xs.map V.int) lo hi = ms.map V.int ∧ ms.length ≤ xs.length := by
  have e : cutV (xs.map V.int) lo hi = ((xs.drop (HT.sIx (xs.map V.int).length 0 lo)).take (HT.sIx (xs.map V.int).length (xs.map V.int).length hi - HT.sIx (xs.map V.int).length 0 lo)).map V.int := by
    unfold cutV
    rw [List.map_take, List.map_drop]
  refine ⟨_, e, ?_⟩
  rw [List.length_take, List.length_drop]
  omega
theorem LotsM.snoc {G : Hp} {n : Nat} {ms : List Int} {xs : List V} {t : Addr} {m : Int} (h : LotsM G n ms xs) (ht : G t = some (.tup ((lotOf m n).map V.int))) : LotsM G n (ms ++ [m]) (xs ++ [.ref t]) := ⟨fun v hv => by
  rcases List.mem_append.mp hv with h1 | h1
  · obtain ⟨t', m', e1, e2, e3⟩ := h.1 v h1
    exact ⟨t', m', e1, List.mem_append_left _ e2, e3⟩
  · exact ⟨t, m, List.mem_singleton.mp h1, List.mem_append_right _ (List.mem_singleton.mpr rfl), ht⟩, fun m' hm => by
  rcases List.mem_append.mp hm with h1 | h1
  · obtain ⟨t', e1, e2⟩ := h.2 m' h1
    exact ⟨t', List.mem_append_left _ e1, e2⟩
  · rw [List.mem_singleton.mp h1]
    exact ⟨t, List.mem_append_right _ (List.mem_singleton.mpr rfl), ht⟩⟩
theorem LotsM.head {G : Hp} {n : Nat} {ms : List Int} {xs : List V} (h : LotsM G n ms xs) (ne : ms ≠ []) : ∃ (t : Addr) (m : Int), xs[0]? = some (.ref t) ∧ G t = some (.tup ((lotOf m n).map V.int)) := by
  obtain ⟨m, hm⟩ := List.exists_mem_of_ne_nil ms ne
  obtain ⟨t, ht, _⟩ := h.2 m hm
  match xs, ht, h with
  | v :: xs, _, h =>
    obtain ⟨t', m', rfl, _, e3⟩ := h.1 v List.mem_cons_self
    exact ⟨t', m', rfl, e3⟩
theorem ins_mem {xs : List V} {a : Nat} {v : V} (hv : v ∈ xs) : ∀ u, u ∈ xs.take a ++ [v] ++ xs.drop a ↔ u ∈ xs := fun u => by
  constructor
  · intro h
    rcases List.mem_append.mp h with h | h
    · rcases List.mem_append.mp h with h | h
      · exact List.mem_of_mem_take h
      · rw [List.mem_singleton.mp h]
        exact hv
    · exact List.mem_of_mem_drop h
  · intro h
    rw [← List.take_append_drop a xs] at h
    rcases List.mem_append.mp h with h | h
    · exact List.mem_append_left _ (List.mem_append_left _ h)
    · exact List.mem_append_right _ h
theorem okD_ints (ns : List Int) (h : ns.length ≤ 100) : okD 1 (.tup (ns.map OD.int)) := ⟨by rw [List.length_map]; exact h, fun e he => by
  obtain ⟨i, _, rfl⟩ := List.mem_map.mp he
  exact ⟨rfl, rfl⟩⟩
theorem AtsD.reverse {T N : Addr} {G : Hp} {xs : List V} {ds : List OD} (h : AtsD T N G xs ds) : AtsD T N G xs.reverse ds.reverse := ⟨by rw [List.length_reverse, List.length_reverse, h.1], fun i x d h1 h2 => by
  have l1 := (List.getElem?_eq_some_iff.mp h1).1
  rw [List.length_reverse] at l1
  rw [List.getElem?_reverse l1] at h1
  rw [List.getElem?_reverse (by rw [← h.1]; exact l1), ← h.1] at h2
  exact h.2 _ x d h1 h2⟩
abbrev NL : List Str := ["script", "great", "cell", "well", "wide", "masks", "passed", "k", "copy_of", "book", "near", "ahead", "told", "twin", "stranger", "mask"]
theorem sc_law : FnScope NL ["script"] (defScope s_law) := ⟨rfl, rfl, rfl, by decide +kernel, rfl, by decide +kernel, by decide +kernel⟩
def spLaw (K : PySem.W.Frag) : Sp := fun vs H Q _ => ∃ (a : Addr) (ns : List Int), vs = [.ref a] ∧ SqL K H a (ns.map V.int) ∧ ns.length ≤ 63 ∧ ∀ H', Q (.bl true) H'
/-- how many are put in once more -/
def tCount : TE := fun σ H Q => ∃ (G : Hp) (l : List (Addr × HO)) (wp tp : Addr) (o : HO) (k : Nat) (xs : List V), σ[3]? = some (some (.ref wp)) ∧ σ[6]? = some (some (.ref tp)) ∧ Has G H ((tp, .lst xs) :: (wp, o) :: l) ∧ WellO k o ∧ k < 10 ^ 8 ∧ xs.length ≤ 64 ∧
  ∀ (c : Nat) (H' : Hp) (o' : HO), Has G H' ((tp, .lst xs) :: (wp, o') :: l) → WellO (k + 1) o' → c ≤ 3 → xs.length + c ≤ 64 → Q (.int c) H'
/-- asked ahead or not, it is well -/
def tAhead (K : PySem.W.Frag) (C N : Addr) : TT := fun σ H Q => ∃ (b : Bool) (tb tp tc tm tn : Addr) (n : Nat) (L ks : Lots) (ms : List Int) (zs : List V) (ds : List OD), σ[11]? = some (some (.bl b)) ∧ σ[9]? = some (some (.ref tb)) ∧ σ[8]? = some (some (.ref tc)) ∧ σ[6]? = some (some (.ref tp)) ∧ σ[5]? = some (some (.ref tm)) ∧ σ[4]? = some (some (.int n)) ∧ σ[10]? = some (some (.ref tn)) ∧
  H tp = some (.lst (refs ks)) ∧ H tc = some (.lst (refs ks)) ∧ InLots H ks ∧ ks.length ≤ 64 ∧ (∀ p ∈ ks, ∃ m ∈ ms, p.2 = lotOf m n) ∧ TabAt C H tb n L ∧ TabOf n ms L ∧ masksOk n ms ∧ 0 < n ∧ n ≤ 6 ∧ H tm = some (.lst (ms.map V.int)) ∧ H tn = some (.lst zs) ∧ AtsD C N H zs ds ∧ ∀ H', Ex H H' → Q false H'
section
variable {P : Program} {w : World} {K : PySem.W.Frag} {mg : Str → Option Value} {base : Heap} {C N : Addr}
theorem ok_law {f fi fq : Addr} {fd fid fqd : FuncData} (F : Fun K "law" "law" s_law f fd) (z : Z mg) (zmin : mg "min" = none) (TT : TC K mg C) (M : TM P w K mg base C fi fid) (MK : KBn K fid ["self", "things", "lots"] 1 ["things", "lots"] swI swI) (NE : ExcC K N) (NU : NotU K C N) (TE : TEqG P w K mg base C N fq fqd)
    {gq gl : Addr} {gqd : FuncData} (PL : TG P w K mg base C gq gl gqd "lots" (spLots C))
    (O_draws : Ok P w K mg base 1 "_law_draws_of" ["cell"] spDrawsW) (O_dip : Ok P w K mg base 1 "_law_dip" ["well", "upto"] spDipW) (O_same : ∀ n, Ok P w K mg base (n + 1) "_law_same" ["given", "due"] (spSame n))
    (O_width : Ok P w K mg base 2 "_law_width" ["well"] spWidth) (O_masks : Ok P w K mg base 5 "_law_some_masks" ["well", "wide"] spSomeMasks) (O_mixed : Ok P w K mg base 2 "_law_mixed" ["well", "row"] (spMixed K)) (O_lot_of : Ok P w K mg base 1 "_law_lot_of" ["mask", "wide"] spLotOf)
    (O_odd : Ok P w K mg base 6 "_law_odd" ["well"] (spOdd C N)) (O_bent : ∀ n, Ok P w K mg base (n + 7) "_law_bent" ["well", "kept"] (spBent C N n)) (O_nested : Ok P w K mg base 2 "_law_nested" ["well"] (spNested C N)) (O_unlike : Ok P w K mg base 7 "_law_unlike" ["well", "wide", "masks"] (spUnlikeT C))
    (O_asked : Ok P w K mg base 8 "_law_asked" ["book", "wide", "masks", "near"] (spAsked K C N)) : FnOk P w K mg base CX0 9 f fd ["script"] (spLaw K) := by
  refine F.ok sc_law (fun vs H Q E h => ?_) (fun cdv A outer s H vs Q E hr h => ?_)
  · obtain ⟨a, ns, rfl, _⟩ := h
    rfl
  · obtain ⟨a, ns, rfl, hS, hlen, q⟩ := h
    have eqo := op_eqOwn (X := (cxOf CX0 P w K mg base NL "law" (defScope s_law) f cdv A outer s H E).nox) TE.at_ TE.fn TE.ok TE.b (hr.mono (by decide))
    have eqd := op_eqOdd (X := (cxOf CX0 P w K mg base NL "law" (defScope s_law) f cdv A outer s H E).nox) TT.ins NE TE.at_ TE.fn TE.odd TE.b (hr.mono (by decide))
    refine ⟨_, (pss_cons (ps_set (i := 1) sc_law.nd rfl (Or.inl rfl) pe_int)
      (pss_cons (ps_for PassesOwn.never rfl (pi_list (pe_op op_cat (pe_lst (pa_cons (pv 1) pa_nil)) (pe_slice sl_list (pv 0) po_none (po_some pe_int)))) (pg_name (i := 2) sc_law.nd rfl (Or.inl rfl))
      (pss_cons (ps_set (i := 3) sc_law.nd rfl (Or.inr rfl) (pe_o O_draws (hr.mono (by decide)) (pa_cons (pv 2) pa_nil)))
      (pss_cons (ps_set (i := 4) sc_law.nd rfl (Or.inr rfl) (pe_o O_width (hr.mono (by decide)) (pa_cons (pv 3) pa_nil)))
      (pss_cons (ps_set (i := 5) sc_law.nd rfl (Or.inl rfl) (pe_o O_masks (hr.mono (by decide)) (pa_cons (pv 3) (pa_cons (pv 4) pa_nil))))
      (pss_cons (ps_set (i := 6) sc_law.nd rfl (Or.inr rfl) (pe_o O_mixed (hr.mono (by decide)) (pa_cons (pv 3) (pa_cons (pe_lc (own := [("mask", 15)]) (g := gName 15) rfl sc_law.nd (pi_list (pv 5)) (blkOk_by (N := NL) (own := [("mask", 15)]) (sc := defScope s_law) (by decide +kernel)) (fun _ _ _ _ _ => pg_name (i := 15) sc_law.nd rfl (Or.inl rfl)) (fun _ _ _ _ _ => pts_nil) (fun _ _ _ _ _ => (pe_o O_lot_of (hr.mono (by decide)) (pa_cons (pv 15) (pa_cons (pv 4) pa_nil))))) pa_nil))))
      (pss_cons (ps_for PassesOwn.never rfl (pi_range1 (by rfl) z.range (pa_cons (PE.imp (t' := tCount) (pe_callB (call_min2 rfl) (by rfl) zmin (by decide +kernel) (pa_cons (pe_o O_dip (hr.mono (by decide)) (pa_cons (pv 3) (pa_cons pe_int pa_nil))) (pa_cons (pe_op op_sub pe_int (pe_callB call_len_seq (by rfl) z.len PySem.boot_len (pa_cons (pv 6) pa_nil))) pa_nil))) (fun σ H Q h => by
          obtain ⟨G, l, wp, tp, o, k, xs, h3, h6, S, wo, hk, lx, q⟩ := h
          refine ⟨_, h3, wp, 4, o, k, rfl, S.get 1 rfl, wo, by omega, by decide, by decide, fun r o1 hr1 w1 => ?_⟩
          have S1 : Has G _ ((tp, .lst xs) :: (wp, o1) :: l) := S.set 1 rfl
          refine ⟨_, h6, tp, xs, rfl, .inl (Evl.sq_of (S1.get 0 rfl)), _, _, rfl, rfl, _, _, rfl, ?_⟩
          have e : (if (64 : Int) - (xs.length : Int) < (r : Int) then (64 : Int) - (xs.length : Int) else (r : Int)) = ((min r (64 - xs.length) : Nat) : Int) := by
            split <;> omega
          rw [e]
          exact q _ _ o1 S1 w1 (by omega) (by omega))) pa_nil)) (pg_name (i := 7) sc_law.nd rfl (Or.inl rfl))
        (pss_one (ps_expr (pe_bm PySem.F.plainAttrs_list PySem.F.slot_list_insert PySem.F.type_list_insert mt_insert (pv 6) (pa_cons (pe_o O_dip (hr.mono (by decide)) (pa_cons (pv 3) (pa_cons (pe_op op_add (pe_callB call_len_seq (by rfl) z.len PySem.boot_len (pa_cons (pv 6) pa_nil)) pe_int) pa_nil))) (pa_cons (pe_ix ix_list (pv 6) (pe_o O_dip (hr.mono (by decide)) (pa_cons (pv 3) (pa_cons (pe_callB call_len_seq (by rfl) z.len PySem.boot_len (pa_cons (pv 6) pa_nil)) pa_nil))) (fun _ _ => rfl)) pa_nil))))))
      (pss_cons (ps_set (i := 8) sc_law.nd rfl (Or.inl rfl) (pe_callTy call_list_of (by rfl) z.list (by decide +kernel) (pa_cons (pv 6) pa_nil)))
      (pss_cons (ps_set (i := 9) sc_law.nd rfl (Or.inl rfl) (pe_make M.make M.ok (hr.mono (by decide)) (by rfl) TT.mg M.b .nil pass0 (pa_cons (pv 4) (pa_cons (pv 6) pa_nil))))
      (pss_cons (ps_set (i := 10) sc_law.nd rfl (Or.inl rfl) (pe_op op_cat (pe_lc (own := [("k", 7)]) (g := gName 7) rfl sc_law.nd (pi_range1 (by rfl) z.range (pa_cons pe_int pa_nil)) (blkOk_by (N := NL) (own := [("k", 7)]) (sc := defScope s_law) (by decide +kernel)) (fun _ _ _ _ _ => pg_name (i := 7) sc_law.nd rfl (Or.inl rfl)) (fun _ _ _ _ _ => pts_nil) (fun _ _ _ _ _ => (pe_o O_odd (hr.mono (by decide)) (pa_cons (pv 3) pa_nil))))
        (pe_lc (own := [("k", 7)]) (g := gName 7) rfl sc_law.nd (pi_range1 (by rfl) z.range (pa_cons pe_int pa_nil)) (blkOk_by (N := NL) (own := [("k", 7)]) (sc := defScope s_law) (by decide +kernel)) (fun _ _ _ _ _ => pg_name (i := 7) sc_law.nd rfl (Or.inl rfl)) (fun _ _ _ _ _ => pts_nil) (fun _ _ _ _ _ => (pe_o (O_bent 1) hr (pa_cons (pv 3) (pa_cons (pe_ix (ix_any (K := K)) (pv 6) pe_int (fun _ _ => rfl)) pa_nil)))))))
      (pss_cons (ps_set (i := 10) sc_law.nd rfl (Or.inl rfl) (pe_op op_cat (pv 10) (pe_lst (pa_cons (pe_callTy call_list_of (by rfl) z.list (by decide +kernel) (pa_cons (pe_ix ix_list (pv 6) pe_int (fun _ _ => rfl)) pa_nil)) (pa_cons (pe_lst (pa_cons (pe_ix ix_list (pv 6) pe_int (fun _ _ => rfl)) pa_nil)) (pa_cons (od_tup (T := C) (N := N) (od_cons od_bl od_nil)) (pa_cons (od_tup (T := C) (N := N) (od_cons od_bl od_nil)) (pa_cons (od_tup (T := C) (N := N) (od_cons od_int (od_cons od_bl od_nil))) (pa_cons (od_tup (T := C) (N := N) (od_cons od_str od_nil)) (pa_cons (pe_o O_nested (hr.mono (by decide)) (pa_cons (pv 3) pa_nil)) pa_nil))))))))))
      (pss_cons (ps_set (i := 11) sc_law.nd rfl (Or.inl rfl) (pe_cmpR op_eq (pe_o O_dip (hr.mono (by decide)) (pa_cons (pv 3) (pa_cons pe_int pa_nil))) pe_int (nomark _)))
      (pss_cons (ps_if (PT.imp (t' := tAhead K C N) (PW.pt (pw_or (pt_not (pt_val (pe_o (O_same 2) (hr.mono (by decide)) (pa_cons (pv 6) (pa_cons (pv 8) pa_nil))))) (pw_or1 (PW.pt (pw_and (pt_val (pv 11)) (pw_and1 (pt_not (pt_val (pe_o O_asked hr (pa_cons (pv 9) (pa_cons (pv 4) (pa_cons (pv 5) (pa_cons (pv 10) pa_nil))))))))))))) (fun σ H Q h => by
          obtain ⟨b, tb, tp, tc, tm, tn, n, L, ks, ms, zs, ds, h11, h9, h8, h6, h5, h4, h10, hp, hc, hin, lks, hks, tab, htab, hms, hn, hn6, hm, htn, azs, q⟩ := h
          have aks : Ats H (refs ks) ((ks.map (·.2)).map tupD) := lots_at hin
          refine ⟨_, h6, _, h8, _, _, rfl, rep_lots (by rw [List.length_map]; omega) (fun l hl => ?_) (At.mkL hp aks) (At.mkL hc aks), fun H1 e1 => ⟨_, rfl, ?_⟩⟩
          · obtain ⟨p, hp, rfl⟩ := List.mem_map.mp hl
            obtain ⟨m, _, e⟩ := hks p hp
            rw [e]
            have := lot_len m n
            omega
          cases b with
          | false => exact ⟨_, h11, _, rfl, q H1 e1⟩
          | true => exact ⟨_, h11, _, rfl, _, h9, _, h4, _, h5, _, h10, tb, tm, tn, n, L, ms, zs, ds, rfl, tab.ex e1, htab, hms, hn, hn6, e1 _ _ hm, Evl.sq_of (e1 _ _ htn), azs.ex e1, fun d hd es e => by
              subst e
              obtain ⟨i, hi⟩ := List.mem_iff_getElem?.mp hd
              have lt := (List.getElem?_eq_some_iff.mp hi).1
              exact (azs.2 i _ _ (List.getElem?_eq_getElem (by rw [azs.1]; exact lt)) hi).lenT, fun H2 e2 => ⟨_, rfl, q H2 (e1.trans e2)⟩⟩)) (pss_one (ps_ret pe_bl)) pss_nil)
      (pss_cons (ps_expr (pe_bm0 PySem.F.plainAttrs_list PySem.F.slot_list_clear PySem.F.type_list_clear mt_clear (pv 6)))
      (pss_cons (ps_expr (pe_bm PySem.F.plainAttrs_list PySem.F.slot_list_append PySem.F.type_list_append mt_append (pv 6) (pa_cons (pe_tup (pa_cons (pv 4) pa_nil)) pa_nil)))
      (pss_cons (ps_set (i := 12) sc_law.nd rfl (Or.inl rfl) (pe_prop (pv 9) TT.cl PL.at_ PL.ok (hr.mono (by decide)) PL.b .nil pass0 rfl))
      (pss_cons (ps_expr (pe_bm PySem.F.plainAttrs_list PySem.F.slot_list_append PySem.F.type_list_append mt_append (pv 12) (pa_cons (pe_tup (pa_cons pe_int (pa_cons pe_int (pa_cons pe_int pa_nil)))) pa_nil)))
      (pss_cons (ps_asg (pe_tup (pa_cons (pe_op op_sub (pv 4) pe_int) pa_nil)) (pg_sub (pv 12) pe_int set_list))
      (pss_cons (ps_if (pt_not (pt_val (pe_o O_asked hr (pa_cons (pv 9) (pa_cons (pv 4) (pa_cons (pv 5) (pa_cons (pe_revL (pv 10)) pa_nil))))))) (pss_one (ps_ret pe_bl)) pss_nil)
      (pss_cons (ps_set (i := 13) sc_law.nd rfl (Or.inl rfl) (pe_makeK0 M.make M.ok (hr.mono (by decide)) (by rfl) TT.mg MK pass0 (pk_cons (pv 4) (pk_cons (pe_callB (cr_sortE (K := K) hr.units) (by rfl) z.sorted (by decide +kernel) (pa_cons (pv 8) pa_nil)) pk_nil))))
      (pss_cons (ps_if (PW.pt (pw_or (pt_cmpR op_notBl (pe_cmpR eqo (pv 9) (pv 13) (nomark _)) pe_bl (nomark _)) (pw_or (pt_cmpR op_notBl (pe_cmpR eqo (pv 13) (pv 9) (nomark _)) pe_bl (nomark _)) (pw_or1 (pt_cmpR op_notBl (pe_cmpR eqo (pv 9) (pv 9) (nomark _)) pe_bl (nomark _)))))) (pss_one (ps_ret pe_bl)) pss_nil)
      (pss_cons (ps_for PassesOwn.never rfl (pi_list (pe_o O_unlike (hr.mono (by decide)) (pa_cons (pv 3) (pa_cons (pv 4) (pa_cons (pv 5) pa_nil))))) (pg_name (i := 14) sc_law.nd rfl (Or.inl rfl))
        (pss_one (ps_if (PW.pt (pw_or (pt_cmpR op_notBl (pe_cmpR eqo (pv 9) (pv 14) (nomark _)) pe_bl (nomark _)) (pw_or1 (pt_cmpR op_notBl (pe_cmpR eqo (pv 14) (pv 9) (nomark _)) pe_bl (nomark _))))) (pss_one (ps_ret pe_bl)) pss_nil)))
      (pss_cons (ps_for PassesOwn.never rfl (pi_list (pe_lst (pa_cons (pe_o O_odd (hr.mono (by decide)) (pa_cons (pv 3) pa_nil)) (pa_cons pe_non (pa_cons (pe_callTy call_list_of (by rfl) z.list (by decide +kernel) (pa_cons (pv 8) pa_nil)) (pa_cons (pe_tup (pa_cons (pv 4) (pa_cons (pv 8) pa_nil))) (pa_cons (pv 4) (pa_cons pe_int pa_nil)))))))) (pg_name (i := 14) sc_law.nd rfl (Or.inl rfl))
        (pss_one (ps_if (PW.pt (pw_and (pt_not (pt_val (pe_callB (call_isD (X := (cxOf CX0 P w K mg base NL "law" (defScope s_law) f cdv A outer s H E).nox) TT.ins NE) (by rfl) z.isinstance (by decide +kernel) (pa_cons (pv 14) (pa_cons (pe_glob (by rfl) TT.mg (show RelV (.ref C) (.ref C) from rfl)) pa_nil))))) (pw_and1 (pt_cmpR op_notBl (pe_cmpR eqd (pv 9) (pv 14) (nomark _)) pe_bl (nomark _))))) (pss_one (ps_ret pe_bl)) pss_nil)))
      (pss_one (ps_if (pt_not (pt_val (pe_o O_asked hr (pa_cons (pv 13) (pa_cons (pv 4) (pa_cons (pv 5) (pa_cons (pv 10) pa_nil))))))) (pss_one (ps_ret pe_bl)) pss_nil))))))))))))))))))))))))
      (pss_one (ps_ret pe_bl)))), ?_⟩
    show tSeq _ _ _ [some (V.ref a), none, none, none, none, none, none, none, none, none, none, none, none, none, none, none] H
    generalize (371919192965110296555119642914998892860209855229453246048754077485105977011414521524762237626439 : Int) = great
    refine ⟨_, rfl, sz (by show 1 ≤ 100000; decide), fun p1 np1 => ?_⟩
    obtain ⟨cs, hcs, lcs⟩ := cut_ints ns none (some 3)
    refine ⟨.ref a, rfl, 3, rfl, a, ns.map V.int, rfl, Evl.ex_l (Evl.Ex.new np1) hS, fun p2 np2 => ?_⟩
    rw [hcs]
    have n12 : p1 ≠ p2 := ne_of_none upd_same np2
    refine ⟨p1, p2, [.int great], cs.map V.int, rfl, rfl, by rw [upd_ne n12, upd_same], upd_same, sz (by rw [List.length_map]; show 1 + cs.length ≤ 100000; omega), fun p3 np3 => ?_⟩
    have h3 : (upd (upd (upd H p1 (.lst [.int great])) p2 (.lst (cs.map V.int))) p3 (.lst ([.int great] ++ cs.map V.int))) p3 = some (.lst ((great :: cs).map V.int)) := upd_same
    generalize hH1 : upd (upd (upd H p1 (.lst [.int great])) p2 (.lst (cs.map V.int))) p3 (.lst ([.int great] ++ cs.map V.int)) = H1 at h3
    refine ⟨p3, rfl, ⟨_, Evl.sq_of h3⟩, for_list (K := K) (a := p3) (xs := (great :: cs).map V.int) (fun i σ H' => Ex H1 H' ∧ ∃ v2 v3 v4 v5 v6 v7 v8 v9 v10 v11 v12 v13 v14 : Option V, σ = [some (.ref a), some (.int great), v2, v3, v4, v5, v6, v7, v8, v9, v10, v11, v12, v13, v14, none])
      ⟨Evl.Ex.refl H1, none, none, none, none, none, none, none, none, none, none, none, none, none, rfl⟩ (fun i σ H' _ p => Evl.ex_l p.1 (Evl.sq_of h3)) ?_ ?_⟩
    · rintro i x0 σ H2 hi ⟨e2, v2, v3, v4, v5, v6, v7, v8, v9, v10, v11, v12, v13, v14, rfl⟩
      obtain ⟨cell, _, rfl⟩ := map_get hi
      refine ⟨_, rfl, cell, rfl, fun wp o0 nwp w0 => ?_⟩
      have S1 : Has H2 (upd H2 wp o0) [(wp, o0)] := Has.nil.new nwp
      generalize upd H2 wp o0 = H3 at S1
      -- wide
      refine ⟨_, rfl, H2, [], wp, o0, 0, rfl, S1, w0, by decide, fun H4 o1 n S2 w1 hn hn6 => ?_⟩
      -- masks
      refine ⟨_, rfl, _, rfl, H2, [], wp, o1, 1, n, rfl, S2, w1, by decide, hn, hn6, fun G3 H5 o2 tm ms e3 S3' w2 hms => ?_⟩
      obtain ⟨G4, e4, hm4, S4⟩ := S3'.intoG
      have lms := masks_len hn hn6 hms
      simp only [List.set_cons_succ, List.set_cons_zero]
      -- passed
      refine ⟨_, rfl, _, rfl, tm, rfl, ⟨_, Evl.sq_of (S4.ex _ _ hm4)⟩, fun D1 nD1 => ?_⟩
      refine lc_list (K := K) (a := tm) (xs := ms.map V.int) (fun i H' => ∃ (G : Hp) (xs : List V), Ex G4 G ∧ Has G H' [(D1, .lst xs), (wp, o2)] ∧ xs.length = i ∧ LotsM G n (ms.take i) xs) ⟨G4, [], Evl.Ex.refl _, S4.new nD1, rfl, fun v hv => absurd hv List.not_mem_nil, fun m hm => absurd hm List.not_mem_nil⟩ (fun i H' _ p => by
        obtain ⟨G, xs, e, S, _⟩ := p
        exact Evl.sq_of ((e.trans S.ex) _ _ hm4)) ?_ ?_
      · rintro i x H20 hi ⟨G, xs, e, S, lx, hx⟩
        obtain ⟨m, hm, rfl⟩ := map_get hi
        have hi2 := (List.getElem?_eq_some_iff.mp hm).1
        refine ⟨rfl, _, rfl, _, rfl, m, n, rfl, by omega, fun t H21 nt e21 ht => ?_⟩
        have S21 := S.newE e21 nt ht
        refine ⟨_, S21.get 1 rfl, szl (by omega), _, xs ++ [.ref t], e.trans S21.exS, S21.sink.set 0 rfl, by rw [List.length_append, lx]; rfl, ?_⟩
        rw [take_snoc hm]
        exact (hx.ex S21.exS).snoc upd_same
      rintro H20 ⟨G5, xs0, e5, S5, lx0, hx0⟩
      rw [List.length_map] at lx0
      rw [List.length_map, List.take_length] at hx0
      refine ⟨G5, [(D1, .lst xs0)], wp, D1, o2, _, xs0, rfl, S5.swap, w2, by decide, Evl.sq_of (S5.get 0 rfl), fun e => ?_, by omega, fun H6 o3 tp ys S6' w3 pm => ?_⟩
      · have := S5.nd
        rw [e] at this
        simp at this
      have S6 : Has G5 H6 [(tp, .lst ys), (wp, o3)] := S6'.sub (.cons₂ _ (.cons₂ _ (.cons _ .slnil)))
      have hys := hx0.same fun v => pm.mem_iff (a := v)
      have lys : ys.length = ms.length := by rw [pm.length_eq, lx0]
      simp only [List.set_cons_succ, List.set_cons_zero]
      -- put in once more
      refine ⟨G5, [], wp, tp, o3, _, ys, rfl, rfl, S6, w3, by decide, by omega, fun c H7 o4 S7 w4 hc hlc => ?_⟩
      refine ⟨_, rfl, by omega, by omega, ?_⟩
      rw [show ((c : Nat) : Int).toNat = c by omega]
      refine for_range (lo := 0) (n := c) (fun i σ H' => ∃ (xs : List V) (o' : HO) (v7 : Option V), σ = [some (.ref a), some (.int great), some (.int cell), some (.ref wp), some (.int n), some (.ref tm), some (.ref tp), v7, v8, v9, v10, v11, v12, v13, v14, none] ∧ Has G5 H' [(tp, .lst xs), (wp, o')] ∧ WellO (2100 + 2 * i) o' ∧ LotsM G5 n ms xs ∧ xs.length = ms.length + i)
        ⟨ys, o4, _, rfl, S7, w4.up (by decide), hys, lys⟩ ?_ ?_
      · rintro i σ H8 hi ⟨xs, o', v7, rfl, S8, w8, hx, lx⟩
        refine ⟨_, rfl, .inl ⟨rfl, _, Evl.sq_of (S8.get 0 rfl)⟩, _, rfl, _, rfl, tp, xs, rfl, .inl (Evl.sq_of (S8.get 0 rfl)), _, _, rfl, rfl, wp, xs.length + 1, o', _, by rw [show ((xs.length + 1 : Nat) : Int) = (xs.length : Int) + 1 by omega]; rfl, S8.get 1 rfl, w8, by omega, by omega, Int.lt_of_le_of_lt (show ((xs.length + 1 : Nat) : Int) ≤ 101 by omega) (by decide), fun ra o9 hra w9 => ?_⟩
        have S9 : Has G5 _ [(tp, .lst xs), (wp, o9)] := S8.set 1 rfl
        generalize upd H8 wp o9 = H9 at S9
        have lpos : 0 < xs.length := by
          have : 0 < ms.length := List.length_pos_iff.mpr hms.2.1
          omega
        refine ⟨_, rfl, _, rfl, _, rfl, tp, xs, rfl, .inl (Evl.sq_of (S9.get 0 rfl)), wp, xs.length, o9, _, rfl, S9.get 1 rfl, w9, by omega, lpos, Int.lt_of_le_of_lt (show ((xs.length : Nat) : Int) ≤ 101 by omega) (by decide), fun rb o10 hrb w10 => ?_⟩
        have S10 : Has G5 _ [(tp, .lst xs), (wp, o10)] := S9.set 1 rfl
        generalize upd H9 wp o10 = H10 at S10
        have hv : xs[rb]? = some xs[rb] := List.getElem?_eq_getElem hrb
        generalize xs[rb] = v at hv
        refine ⟨tp, xs, rb, v, rfl, rfl, Evl.sq_of (S10.get 0 rfl), atI_nat hv, ?_⟩
        refine ⟨tp, xs, ra, v, rfl, rfl, S10.get 0 rfl, by have : sizeLine = 16777216 := sizeLine_eq; omega, by omega, by omega, ?_⟩
        rw [show ((ra : Nat) : Int).toNat = ra by omega]
        refine ⟨_, o10, _, rfl, S10.set 0 rfl, w10.up (by omega), hx.same (ins_mem (List.mem_of_getElem? hv)), ?_⟩
        rw [List.length_append, List.length_append, List.length_take, List.length_drop]
        show _ + 1 + _ = _
        omega
      rintro σ H8 ⟨xs, o5, v7', rfl, S8, w5, hx, lx⟩
      have lx64 : xs.length ≤ 64 := by omega
      obtain ⟨ks, rfl, hkin, hkms, _⟩ := hx.lots
      -- copy_of
      refine ⟨_, rfl, tp, _, rfl, .inl (Evl.sq_of (S8.get 0 rfl)), fun tc ntc => ?_⟩
      obtain ⟨G9, e9, htc9, S9⟩ := (S8.new (o := .lst (refs ks)) ntc).intoG
      generalize upd H8 tc (.lst (refs ks)) = H9 at S9
      have hm9 := (e5.trans e9) _ _ hm4
      have hx9 := hx.ex e9
      -- book
      refine ⟨_, rfl, _, rfl, ?_⟩
      intro tb dx nx ndx hne
      refine table_made M nx ndx (Ne.symm hne) S9 (S9.get 0 rfl) hx9 lx64 hms.2.1 hn (by omega) (fun G10 H10 L e10 S10 tab10 htab => ?_)
      have hx10 := hx9.ex e10
      have hm10 := e10 _ _ hm9
      have htc10 := e10 _ _ htc9
      have hk10 := (hkin.ex e9).ex e10
      obtain ⟨t0, m0, hx0', ht0⟩ := hx10.head hms.2.1
      have ll0 := lot_len m0 n
      simp only [List.set_cons_succ, List.set_cons_zero]
      -- near
      refine ⟨6, rfl, by decide, by decide, fun D2 nD2 => ?_⟩
      refine lc_range (lo := 0) (n := 6) (fun i H' => ∃ (G : Hp) (o : HO) (zs : List V) (ds : List OD), Ex G10 G ∧ Has G H' [(wp, o), (D2, .lst zs), (tp, .lst (refs ks))] ∧ WellO (2200 + 40 * i) o ∧ AtsD C N G zs ds ∧ zs.length = i) ⟨G10, o5, [], [], Evl.Ex.refl _, ((S10.swap).new nD2).swap, w5.up (by omega), .nil, rfl⟩ ?_ ?_
      · rintro i H11 hi ⟨G, o, zs, ds, e, S, w, az, lz⟩
        refine ⟨rfl, _, rfl, G, _, wp, o, _, rfl, S, w, by omega, fun G' H' o' v d e' S' w' ad => ?_⟩
        exact ⟨_, S'.get 1 rfl, szl (by omega), G', o', zs ++ [v], ds ++ [d], e.trans e', S'.set 1 rfl, w'.up (by omega), (az.ex e').append (.cons ad .nil), by rw [List.length_append, lz]; rfl⟩
      rintro H11 ⟨G11, o6, zs1, ds1, e11, S11, w6, az1, lz1⟩
      refine ⟨6, rfl, by decide, by decide, fun D3 nD3 => ?_⟩
      refine lc_range (lo := 0) (n := 6) (fun i H' => ∃ (G : Hp) (o : HO) (zs : List V) (ds : List OD), Ex G11 G ∧ Has G H' [(wp, o), (D3, .lst zs), (D2, .lst zs1), (tp, .lst (refs ks))] ∧ WellO (2500 + 600 * i) o ∧ AtsD C N G zs ds ∧ zs.length = i) ⟨G11, o6, [], [], Evl.Ex.refl _, (S11.new nD3).swap, w6.up (by omega), .nil, rfl⟩ ?_ ?_
      · rintro i H12 hi ⟨G, o, zs, ds, e, S, w, az, lz⟩
        have ht0' := (e11.trans e) _ _ ht0
        refine ⟨rfl, _, rfl, _, rfl, .inl ⟨tp, _, 0, _, rfl, rfl, Evl.sq_of (S.get 3 rfl), atI_nat (j := 0) hx0', ?_⟩⟩
        refine ⟨G, _, wp, o, _, .ref t0, _, rfl, S, w, by omega, (AtsD.of_ints _).mkT ht0' (by rw [List.length_map]; omega), okD_ints _ (by omega), fun G' H' o' v d e' S' w' ad => ?_⟩
        exact ⟨_, S'.get 1 rfl, szl (by omega), G', o', zs ++ [v], ds ++ [d], e.trans e', S'.set 1 rfl, w'.up (by omega), (az.ex e').append (.cons ad .nil), by rw [List.length_append, lz]; rfl⟩
      rintro H12 ⟨G12, o7, zs2, ds2, e12, S12, w7, az2, lz2⟩
      refine ⟨D2, D3, _, _, rfl, rfl, S12.get 2 rfl, S12.get 1 rfl, sz (by omega), fun c1 nc1 => ?_⟩
      obtain ⟨G13, e13, hc1, S13'⟩ := (S12.new (o := .lst (zs1 ++ zs2)) nc1).intoG
      have S13 : Has G13 _ [(wp, o7), (tp, .lst (refs ks))] := S13'.sub (.cons₂ _ (.cons _ (.cons _ (.cons₂ _ .slnil))))
      generalize upd H12 c1 (.lst (zs1 ++ zs2)) = H13 at S13
      have az13 : AtsD C N G13 (zs1 ++ zs2) (ds1 ++ ds2) := ((az1.ex e12).ex e13).append (az2.ex e13)
      have lz12 : (zs1 ++ zs2).length = 12 := by rw [List.length_append, lz1, lz2]
      generalize zs1 ++ zs2 = za at az13 lz12 hc1
      generalize ds1 ++ ds2 = da at az13
      have e1013 := (e11.trans e12).trans e13
      have ht013 := e1013 _ _ ht0
      simp only [List.set_cons_succ, List.set_cons_zero]
      -- more of near
      refine ⟨_, rfl, _, rfl, tp, _, 0, _, rfl, rfl, Evl.sq_of (S13.get 1 rfl), atI_nat (j := 0) hx0', t0, _, rfl, .inr (Evl.st_of (S13.ex _ _ ht013)), fun q1 nq1 => ?_⟩
      obtain ⟨G14, e14, hq1, S14⟩ := (S13.new (o := .lst ((lotOf m0 n).map V.int)) nq1).intoG
      refine ⟨_, rfl, tp, _, 0, _, rfl, rfl, Evl.sq_of (S14.get 1 rfl), atI_nat (j := 0) hx0', sz (by show 1 ≤ 100000; decide), fun q2 nq2 => ?_⟩
      obtain ⟨G15, e15, hq2, S15⟩ := (S14.new (o := .lst [.ref t0]) nq2).intoG
      refine ⟨G15, _, S15, fun x3 G16 H16 e16 S16 a3 => ?_⟩
      refine ⟨G16, _, S16, fun x4 G17 H17 e17 S17 a4 => ?_⟩
      refine ⟨G17, _, S17, fun x5 G18 H18 e18 S18 a5 => ?_⟩
      refine ⟨G18, _, S18, fun x6 G19 H19 e19 S19 a6 => ?_⟩
      refine ⟨_, rfl, G19, _, wp, o7, _, rfl, S19, w7, by omega, fun G20 H20 o8 x7 d7 e20 S20 w8 a7 => ?_⟩
      refine ⟨sz (by show 7 ≤ 100000; decide), fun q3 nq3 => ?_⟩
      obtain ⟨G21, e21, hq3, S21⟩ := (S20.new (o := .lst [.ref q1, .ref q2, x3, x4, x5, x6, x7]) nq3).intoG
      have e1321 := (((((((e14.trans e15).trans e16).trans e17).trans e18).trans e19).trans e20).trans e21)
      refine ⟨c1, q3, _, _, rfl, rfl, S21.ex _ _ (e1321 _ _ hc1), S21.ex _ _ hq3, sz (by rw [lz12]; show 12 + 7 ≤ 100000; decide), fun tn ntn => ?_⟩
      obtain ⟨G22, e22, htn, S22⟩ := (S21.new (o := .lst (za ++ [.ref q1, .ref q2, x3, x4, x5, x6, x7])) ntn).intoG
      generalize upd _ tn (.lst (za ++ [V.ref q1, V.ref q2, x3, x4, x5, x6, x7])) = H22 at S22
      obtain ⟨dn, azn⟩ : ∃ dn, AtsD C N G22 (za ++ [V.ref q1, V.ref q2, x3, x4, x5, x6, x7]) dn := by
        have e1522 := (((((e16.trans e17).trans e18).trans e19).trans e20).trans e21).trans e22
        have b1 : AtD C N G22 (.ref q1) (.lst ((lotOf m0 n).map OD.int)) := (AtsD.of_ints _).mkL ((e15.trans e1522) _ _ hq1)
        have b0 : AtD C N G22 (.ref t0) (.tup ((lotOf m0 n).map OD.int)) := (AtsD.of_ints _).mkT ((e1321.trans e22) _ _ ht013) (by rw [List.length_map]; omega)
        have b2 : AtD C N G22 (.ref q2) (.lst [.tup ((lotOf m0 n).map OD.int)]) := (AtsD.cons b0 .nil).mkL (e1522 _ _ hq2)
        exact ⟨_, (az13.ex (e1321.trans e22)).append (.cons b1 (.cons b2 (.cons (a3.ex ((((((e17.trans e18).trans e19).trans e20).trans e21).trans e22))) (.cons (a4.ex (((((e18.trans e19).trans e20).trans e21).trans e22))) (.cons (a5.ex ((((e19.trans e20).trans e21).trans e22))) (.cons (a6.ex (((e20.trans e21).trans e22))) (.cons (a7.ex (e21.trans e22)) .nil)))))))⟩
      have lzn : (za ++ [V.ref q1, V.ref q2, x3, x4, x5, x6, x7]).length = 19 := by rw [List.length_append, lz12]; rfl
      generalize za ++ [V.ref q1, V.ref q2, x3, x4, x5, x6, x7] = zn at azn htn lzn
      have e1022 := (e1013.trans e1321).trans e22
      have tab22 := tab10.ex e1022
      have hm22 := e1022 _ _ hm10
      have htc22 := e1022 _ _ htc10
      have hk22 := hk10.ex e1022
      have hx22 := hx10.ex e1022
      have lens : ∀ d ∈ dn, ∀ es, d = .tup es → es.length ≤ 1000 := fun d hd es e => by
        subst e
        obtain ⟨i, hi⟩ := List.mem_iff_getElem?.mp hd
        have lt := (List.getElem?_eq_some_iff.mp hi).1
        exact (azn.2 i _ _ (List.getElem?_eq_getElem (by rw [azn.1]; exact lt)) hi).lenT
      simp only [List.set_cons_succ, List.set_cons_zero]
      -- ahead
      refine ⟨_, rfl, wp, 2, o8, _, rfl, S22.get 0 rfl, w8, by omega, by decide, by decide, fun r o9 hr9 w9 => ⟨rfl, ?_⟩⟩
      have S23 : Has G22 _ [(wp, o9), (tp, .lst (refs ks))] := S22.set 0 rfl
      generalize upd H22 wp o9 = H23 at S23
      refine ⟨_, tb, tp, tc, tm, tn, n, L, ks, ms, zn, dn, rfl, rfl, rfl, rfl, rfl, rfl, rfl, S23.get 1 rfl, S23.ex _ _ htc22, hk22.ex S23.ex, by rw [← refs_len]; exact lx64, hkms, tab22.ex S23.ex, htab, hms, hn, hn6, S23.ex _ _ hm22, S23.ex _ _ htn, azn.ex S23.ex, fun H24 e24 => ?_⟩
      have S24 := S23.go e24
      -- passed is changed
      refine ⟨_, rfl, .inl ⟨rfl, _, Evl.sq_of (S24.get 1 rfl)⟩, tp, _, rfl, rfl, S24.get 1 rfl, ?_⟩
      have S25 : Has G22 _ [(wp, o9), (tp, .lst [])] := S24.set 1 rfl
      generalize upd H24 tp (.lst []) = H25 at S25
      refine ⟨_, rfl, .inl ⟨rfl, _, Evl.sq_of (S25.get 1 rfl)⟩, _, rfl, sz (by show 1 ≤ 100000; decide), fun m1 nm1 => ?_⟩
      obtain ⟨G26, e26, _, S26⟩ := (S25.new (o := .tup [.int n]) nm1).intoG
      refine ⟨tp, _, _, rfl, rfl, S26.get 1 rfl, szl (by show 0 < 100000; decide), ?_⟩
      have S27' : Has G26 _ [(wp, o9), (tp, .lst ([] ++ [V.ref m1]))] := S26.set 1 rfl
      have S27 : Has G26 _ [(wp, o9)] := S27'.sub (.cons₂ _ (.cons _ .slnil))
      generalize upd (upd H25 m1 (.tup [.int n])) tp (.lst ([] ++ [V.ref m1])) = H27 at S27
      have tab26 := tab22.ex e26
      obtain ⟨dxb, tlb, hb1, hb2, hb3⟩ := id tab26
      -- told
      refine ⟨_, rfl, tb, dxb, _, rfl, S27.ex _ _ hb1, tb, n, L, rfl, tab26.ex S27.ex, fun tt ntt => ?_⟩
      have S28 := S27.new (o := .lst (refs L)) ntt
      generalize upd H27 tt (.lst (refs L)) = H28 at S28
      have lL := lots_le htab hms hn hn6
      have lLr : (refs L).length = L.length := refs_len L
      refine ⟨_, rfl, .inl ⟨rfl, _, Evl.sq_of (S28.get 0 rfl)⟩, sz (by show 3 ≤ 100000; decide), fun m2 nm2 => ?_⟩
      obtain ⟨G29, e29, _, S29⟩ := (S28.new (o := .tup [.int 0, .int 1, .int 2]) nm2).intoG
      refine ⟨tt, _, _, rfl, rfl, S29.get 0 rfl, szl (by omega), ?_⟩
      have S30 : Has G29 _ [(tt, .lst (refs L ++ [V.ref m2])), (wp, o9)] := S29.set 0 rfl
      generalize upd (upd H28 m2 (.tup [.int 0, .int 1, .int 2])) tt (.lst (refs L ++ [V.ref m2])) = H30 at S30
      refine ⟨_, rfl, _, _, rfl, rfl, sz (by show 1 ≤ 100000; decide), fun m3 nm3 => ?_⟩
      obtain ⟨G31, e31, _, S31⟩ := (S30.new (o := .tup [.int ((n : Int) - 1)]) nm3).intoG
      refine ⟨_, rfl, tt, _, 0, 0, rfl, rfl, S31.get 0 rfl, Evl.ixN_nat (by rw [List.length_append]; show 0 < (refs L).length + 1; omega), ?_⟩
      have S32' : Has G31 _ [(tt, .lst ((refs L ++ [V.ref m2]).set 0 (V.ref m3))), (wp, o9)] := S31.set 0 rfl
      have S32 := S32'.tail
      generalize upd (upd H30 m3 (.tup [.int ((n : Int) - 1)])) tt (.lst ((refs L ++ [V.ref m2]).set 0 (V.ref m3))) = H32 at S32
      have e2231 := (e26.trans e29).trans e31
      have tab31 := tab22.ex e2231
      have hm31 := e2231 _ _ hm22
      have htc31 := e2231 _ _ htc22
      have hk31 := hk22.ex e2231
      have hx31 := hx22.ex e2231
      have htn31 := e2231 _ _ htn
      have azn31 := azn.ex e2231
      simp only [List.set_cons_succ, List.set_cons_zero]
      -- asked
      refine ⟨_, rfl, _, rfl, _, rfl, _, rfl, tn, zn, rfl, Evl.sq_of (S32.ex _ _ htn31), fun tr ntr => ?_⟩
      have S33 := S32.new (o := .lst zn.reverse) ntr
      generalize upd H32 tr (.lst zn.reverse) = H33 at S33
      refine ⟨tb, tm, tr, n, L, ms, zn.reverse, dn.reverse, rfl, tab31.ex S33.ex, htab, hms, hn, hn6, S33.ex _ _ hm31, Evl.sq_of (S33.get 0 rfl), (azn31.ex S33.ex).reverse, fun d hd => lens d (List.mem_reverse.mp hd), fun H34 e34 => ⟨_, rfl, ?_⟩⟩
      have S34 := (S33.go e34).tail
      -- twin
      have hbs : (ks.map fun p : Addr × List Int => (V.ref p.1, tupD p.2)).map (·.1) = refs ks := by rw [List.map_map]; rfl
      refine ⟨_, rfl, _, rfl, tc, ks.map fun p : Addr × List Int => (V.ref p.1, tupD p.2), rfl, by rw [hbs]; exact Evl.sq_of (S34.ex _ _ htc31), fun b hb => ?_, .inr fun b hb => ?_, fun b hb => ?_, fun ll nll => ⟨rfl, rfl, ?_⟩⟩
      · obtain ⟨p, hp, rfl⟩ := List.mem_map.mp hb
        exact (At.ex S34.ex (at_lot (hk31 p hp))).dp
      · obtain ⟨p, hp, rfl⟩ := List.mem_map.mp hb
        exact ⟨_, rfl⟩
      · obtain ⟨p, hp, rfl⟩ := List.mem_map.mp hb
        exact Nat.le_trans (depth_tupD _) (by decide)
      have pmS := List.mergeSort_perm (ks.map fun p : Addr × List Int => (V.ref p.1, tupD p.2)) (PySem.W.dataLe false (·.2))
      have pmV := pmS.map (·.1)
      rw [hbs] at pmV
      generalize (((ks.map fun p : Addr × List Int => (V.ref p.1, tupD p.2)).mergeSort (PySem.W.dataLe false (·.2))).map (·.1)) = ss at pmV nll ⊢
      have S35 := S34.new (o := .lst ss) nll
      generalize upd H34 ll (.lst ss) = H35 at S35
      intro x2 dx2 nx2 ndx2 hne2
      show spInit C [.ref x2, .int n, .ref ll] _ _ _
      refine table_made M nx2 ndx2 (Ne.symm hne2) S35 (S35.get 0 rfl) (hx31.same fun v => pmV.mem_iff (a := v)) (by rw [pmV.length_eq]; exact lx64) hms.2.1 hn (by omega) (fun G36 H36 L2 e36 S36' tab2 htab2 => ?_)
      have S36 := S36'.tail
      have tab36 := tab31.ex e36
      have hm36 := e36 _ _ hm31
      have htc36 := e36 _ _ htc31
      have hk36 := hk31.ex e36
      have htn36 := e36 _ _ htn31
      have azn36 := azn31.ex e36
      obtain ⟨d1, _, hi1, _, _⟩ := id tab36
      obtain ⟨d2, _, hi2, _, _⟩ := id tab2
      have eLL := tab_one htab htab2 hms
      have eb1 : (decide (n = n) && decide (L.map (·.2) = L2.map (·.2))) = true := by rw [eLL]; simp
      have eb2 : (decide (n = n) && decide (L2.map (·.2) = L.map (·.2))) = true := by rw [eLL]; simp
      have eb3 : (decide (n = n) && decide (L.map (·.2) = L.map (·.2))) = true := by simp
      simp only [List.set_cons_succ, List.set_cons_zero]
      refine ⟨_, rfl, _, rfl, tb, x2, d1, d2, _, _, rfl, rfl, S36.ex _ _ hi1, S36.ex _ _ hi2, tb, x2, _, _, _, _, rfl, tab36.ex S36.ex, tab2.ex S36.ex, _, rfl, _, true, rfl, rfl, _, rfl, ?_⟩
      rw [eb1]
      refine ⟨_, rfl, _, rfl, x2, tb, d2, d1, _, _, rfl, rfl, S36.ex _ _ hi2, S36.ex _ _ hi1, x2, tb, _, _, _, _, rfl, tab2.ex S36.ex, tab36.ex S36.ex, _, rfl, _, true, rfl, rfl, _, rfl, ?_⟩
      rw [eb2]
      refine ⟨_, rfl, _, rfl, tb, tb, d1, d1, _, _, rfl, rfl, S36.ex _ _ hi1, S36.ex _ _ hi1, tb, tb, _, _, _, _, rfl, tab36.ex S36.ex, tab36.ex S36.ex, _, rfl, _, true, rfl, rfl, _, rfl, ?_⟩
      rw [eb3]
      -- unlike tables
      refine ⟨_, rfl, _, rfl, _, rfl, G36, [], wp, tm, o9, _, n, ms, rfl, S36, w9, by omega, hm36, hms, hn, hn6, fun G37 H37 o10 u us e37 S37' w10 hU' => ?_⟩
      obtain ⟨G38, e38, hu, S38⟩ := S37'.intoG
      have e3638 := e37.trans e38
      refine ⟨u, rfl, ⟨_, Evl.sq_of (S38.ex _ _ hu)⟩, for_list (K := K) (a := u) (xs := us) (fun i σ H' => ∃ (b11 : Bool) (v14 : Option V), σ = [some (.ref a), some (.int great), some (.int cell), some (.ref wp), some (.int n), some (.ref tm), some (.ref tp), v7', some (.ref tc), some (.ref tb), some (.ref tn), some (.bl b11), some (.ref tt), some (.ref x2), v14, none] ∧ Has G38 H' [(wp, o10)])
        ⟨_, _, rfl, S38⟩ (fun i σ H' _ h => by
          obtain ⟨_, _, _, S'⟩ := h
          exact Evl.sq_of (S'.ex _ _ hu)) ?_ ?_⟩
      · rintro j v σ H39 hj ⟨b11, v14, rfl, S39⟩
        obtain ⟨y, m, L', rfl, tabY, ne⟩ := (hU' v (List.mem_of_getElem? hj)).ex e38
        have eb1 : (decide (n = m) && decide (L.map (·.2) = L'.map (·.2))) = false := by
          rw [Bool.eq_false_iff]
          intro h
          rw [Bool.and_eq_true, decide_eq_true_eq, decide_eq_true_eq] at h
          rcases ne with ne | ne
          · exact ne h.1
          · exact ne L htab h.2
        have eb2 : (decide (m = n) && decide (L'.map (·.2) = L.map (·.2))) = false := by
          rw [Bool.eq_false_iff]
          intro h
          rw [Bool.and_eq_true, decide_eq_true_eq, decide_eq_true_eq] at h
          rcases ne with ne | ne
          · exact ne h.1.symm
          · exact ne L htab h.2.symm
        obtain ⟨d3, _, hi3, _, _⟩ := id tabY
        have hi1' := e3638 _ _ hi1
        have tab38 := tab36.ex e3638
        refine ⟨_, rfl, _, rfl, tb, y, d1, d3, _, _, rfl, rfl, S39.ex _ _ hi1', S39.ex _ _ hi3, tb, y, _, _, _, _, rfl, tab38.ex S39.ex, tabY.ex S39.ex, _, rfl, _, false, rfl, rfl, _, rfl, ?_⟩
        rw [eb1]
        refine ⟨_, rfl, _, rfl, y, tb, d3, d1, _, _, rfl, rfl, S39.ex _ _ hi3, S39.ex _ _ hi1', y, tb, _, _, _, _, rfl, tabY.ex S39.ex, tab38.ex S39.ex, _, rfl, _, false, rfl, rfl, _, rfl, ?_⟩
        rw [eb2]
        exact ⟨_, _, rfl, S39⟩
      rintro σ H39 ⟨b11, v14', rfl, S39⟩
      -- odd values
      have htc38 := e3638 _ _ htc36
      have hk38 := hk36.ex e3638
      refine ⟨_, rfl, G38, [], wp, o10, _, rfl, S39, w10, by omega, fun G40 H40 o11 w1' dd1 e40 S40 w11 ad1 => ?_⟩
      refine ⟨_, rfl, tc, _, rfl, .inl (Evl.sq_of (S40.ex _ _ (e40 _ _ htc38))), fun la nla => ?_⟩
      obtain ⟨G41, e41, hla, S41⟩ := (S40.new (o := .lst (refs ks)) nla).intoG
      refine ⟨_, rfl, _, rfl, sz (by show 2 ≤ 100000; decide), fun tq ntq => ?_⟩
      obtain ⟨G42, e42, htq, S42⟩ := (S41.new (o := .tup [.int n, .ref tc]) ntq).intoG
      refine ⟨_, rfl, sz (by show 6 ≤ 100000; decide), fun ul nul => ?_⟩
      obtain ⟨G43, e43, hul, S43⟩ := (S42.new (o := .lst [w1', .non, .ref la, .ref tq, .int n, .int 0]) nul).intoG
      have e3843 := ((e40.trans e41).trans e42).trans e43
      have odd : ∀ v ∈ [w1', V.non, .ref la, .ref tq, .int n, .int 0], ∃ d, AtD C N G43 v d := fun v hv => by
        have ayO : AtsD C N G43 (refs ks) (ks.map fun p => OD.tup (p.2.map OD.int)) := by
          have gen : ∀ ks' : Lots, (∀ p ∈ ks', G43 p.1 = some (.tup (p.2.map V.int)) ∧ p.2.length ≤ 1000) → AtsD C N G43 (refs ks') (ks'.map fun p => OD.tup (p.2.map OD.int)) := fun ks' => by
            induction ks' with
            | nil => exact fun _ => .nil
            | cons p ks' ih => exact fun h => .cons ((AtsD.of_ints _).mkT (h p List.mem_cons_self).1 (by rw [List.length_map]; exact (h p List.mem_cons_self).2)) (ih fun q hq => h q (List.mem_cons_of_mem _ hq))
          refine gen ks fun p hp => ⟨e3843 _ _ (hk38 p hp), ?_⟩
          obtain ⟨m, _, e⟩ := hkms p hp
          rw [e]
          have := lot_len m n
          omega
        simp only [List.mem_cons, List.not_mem_nil, or_false] at hv
        rcases hv with rfl | rfl | rfl | rfl | rfl | rfl
        · exact ⟨_, ad1.ex ((e41.trans e42).trans e43)⟩
        · exact ⟨_, .non⟩
        · exact ⟨_, ayO.mkL ((e42.trans e43) _ _ hla)⟩
        · exact ⟨_, (AtsD.cons (.int _) (.cons (ayO.mkL (e3843 _ _ htc38)) .nil)).mkT (e43 _ _ htq) (by show 2 ≤ 1000; decide)⟩
        · exact ⟨_, .int _⟩
        · exact ⟨_, .int _⟩
      have e3643 := e3638.trans e3843
      have tab43 := tab36.ex e3643
      have hi43 := e3643 _ _ hi1
      refine ⟨ul, rfl, ⟨_, Evl.sq_of (S43.ex _ _ hul)⟩, for_list (K := K) (a := ul) (xs := [w1', .non, .ref la, .ref tq, .int n, .int 0]) (fun i σ H' => ∃ (b11 : Bool) (v14 : Option V), σ = [some (.ref a), some (.int great), some (.int cell), some (.ref wp), some (.int n), some (.ref tm), some (.ref tp), v7', some (.ref tc), some (.ref tb), some (.ref tn), some (.bl b11), some (.ref tt), some (.ref x2), v14, none] ∧ Has G43 H' [(wp, o11)])
        ⟨_, _, rfl, S43⟩ (fun i σ H' _ h => by
          obtain ⟨_, _, _, S'⟩ := h
          exact Evl.sq_of (S'.ex _ _ hul)) ?_ ?_⟩
      · rintro j v σ H44 hj ⟨b11, v14, rfl, S44⟩
        obtain ⟨d, ad'⟩ := odd v (List.mem_of_getElem? hj)
        have ad := ad'.ex S44.ex
        have kd := NU.all TT.ins.me d
        refine ⟨_, rfl, v, .ref C, d, .ref C, _, rfl, .own C, ad, kd, _, rfl, ?_⟩
        cases hd : isTab d with
        | true => exact ⟨_, _, rfl, S44⟩
        | false =>
          rw [hd] at kd
          refine ⟨_, rfl, _, rfl, tb, d1, _, d, rfl, S44.ex _ _ hi43, ad, notFirst_of kd, tb, v, n, L, d, rfl, tab43.ex S44.ex, ad, hd, _, rfl, _, false, rfl, rfl, _, rfl, ?_⟩
          exact ⟨_, _, rfl, S44⟩
      rintro σ H44 ⟨b11', v14'', rfl, S44⟩
      have hm43 := e3643 _ _ hm36
      refine ⟨_, rfl, _, rfl, _, rfl, _, rfl, x2, tm, tn, n, L2, ms, zn, dn, rfl, (tab2.ex e3643).ex S44.ex, htab2, hms, hn, hn6, S44.ex _ _ hm43, Evl.sq_of (S44.ex _ _ (e3643 _ _ htn36)), (azn36.ex e3643).ex S44.ex, lens, fun H45 e45 => ⟨_, rfl, ?_⟩⟩
      have S45 := S44.go e45
      have eAll := (((((e3.trans e4).trans e5).trans e9).trans e10).trans e1022).trans ((e2231.trans e36).trans e3643)
      exact ⟨e2.trans (eAll.trans S45.ex), _, _, _, _, _, _, _, _, _, _, _, _, _, rfl⟩
    · rintro σ H2 ⟨e2, v2, v3, v4, v5, v6, v7, v8, v9, v10, v11, v12, v13, v14, rfl⟩
      exact q H2
end
end TW
set_option Elab.async false
set_option linter.all false
set_option maxRecDepth 100000
namespace TW
open PySem PySem.Spec PyProof.Rows L2
/-! what the top has written -/
def MthD (K : PySem.W.Frag) (C : Addr) (nm qual : Str) (st : Stmt) (ps : List Str) : Prop := ∃ (f : Addr) (fd : FuncData), PySem.W.findIn K (.ref C) nm = some (some (.ref f)) ∧ PySem.W.isFn K (.ref f) = true ∧ Fun K nm qual st f fd ∧ Binds K fd ps []
def PrpD (K : PySem.W.Frag) (C : Addr) (nm qual : Str) (st : Stmt) : Prop := ∃ (p g : Addr) (fd : FuncData), PropOf K C nm p g ∧ Fun K nm qual st g fd ∧ Binds K fd ["self"] []
section
variable {K : PySem.W.Frag} {C f p g : Addr} {nm qual : Str} {st : Stmt} {ps : List Str} {oc kV doc pm cdv ct : Value} {od an : Option Addr} {osl : Array (Option Value)}
theorem mth_mk (hb : ∀ (kV doc pm : Value) (an : Option Addr) (cdv ct : Value) (us : List Value), us.length = ps.length → bindArgs (PySem.W.fnOf nm qual (defArgs st) (defBody st) (defScope st) .none kV doc pm an cdv ct) ⟨us, []⟩ = pure (ps.zip us))
    (a : PySem.W.findIn K (.ref C) nm = some (some (.ref f))) (i : PySem.W.isFn K (.ref f) = true) (l : K.lookup f = some ⟨oc, od, .func (PySem.W.fnOf nm qual (defArgs st) (defBody st) (defScope st) .none kV doc pm an cdv ct), osl⟩) (c : PySem.W.codeIn K cdv qual = true) (k : PySem.W.keepIn K (.ref f) = true) : MthD K C nm qual st ps := by
  have F := fun_mk (st := st) l c k
  exact ⟨f, _, a, i, F, F.binds hb⟩
theorem prp_mk {rest : List Value} (hb : ∀ (kV doc pm : Value) (an : Option Addr) (cdv ct : Value) (us : List Value), us.length = 1 → bindArgs (PySem.W.fnOf nm qual (defArgs st) (defBody st) (defScope st) .none kV doc pm an cdv ct) ⟨us, []⟩ = pure ((["self"] : List Str).zip us))
    (a : PySem.W.findIn K (.ref C) nm = some (some (.ref p))) (e : PySem.W.specialIn K (.ref p) "__get__" = some (some (.builtin "property.__get__"))) (t : PySem.W.takesIn K (.ref p) = some true) (r : PySem.W.recIn K p "property" = some (.ref g :: rest))
    (l : K.lookup g = some ⟨oc, od, .func (PySem.W.fnOf nm qual (defArgs st) (defBody st) (defScope st) .none kV doc pm an cdv ct), osl⟩) (c : PySem.W.codeIn K cdv qual = true) (k : PySem.W.keepIn K (.ref g) = true) : PrpD K C nm qual st := by
  have F := fun_mk (st := st) l c k
  exact ⟨p, g, _, ⟨a, e, t, rest, r⟩, F, F.binds hb⟩
theorem kit_me : PySem.W.kitOne K (.ref C) (.ref C) = some true := by
  unfold PySem.W.kitOne
  first
    | rw [if_pos (beq_self_eq_true (Value.ref C))]
    | simp
    | (rw [if_pos]; decide)
theorem tc_mk {mg : Str → Option Value} {h : Heap} (X : K.In h) (G : h.Ns mainGlobals mg) (aC : PySem.W.nsIn K mainGlobals "Table" = some (some (.ref C))) (pg : PySem.W.plainGet K C Str.empty = true) (hd : PySem.W.hasDictIn K C = true) (po : PySem.W.plainOver K C = true)
    (sa : PySem.W.findIn K (.ref C) "__setattr__" = some (some (.builtin "object.__setattr__"))) (ha : PySem.W.findIn K (.ref C) "__class__" = some (some (.builtin "object.__class__"))) (hn : PySem.W.specialIn K (.builtin "object.__class__") "__get__" = some (some (.builtin "getset_descriptor.__get__")))
    (ht : PySem.W.takesIn K (.builtin "object.__class__") = some true) (hm : PySem.W.mroIn K C (.type "object") = some true) (nT : PySem.W.findIn K (.ref C) "_things" = some none) (nL : PySem.W.findIn K (.ref C) "_lots" = some none) : TC K mg C :=
  ⟨⟨pg, hd, po, sa⟩, ⟨⟨pg, hd, po, sa⟩, ha, hn, ht, hm, kit_me⟩, nT, nL, PySem.W.mg_of X G aC⟩
end
theorem z_mk {K : PySem.W.Frag} {mg : Str → Option Value} {h : Heap} (X : K.In h) (G : h.Ns mainGlobals mg)
    (h1 : PySem.W.nsIn K mainGlobals "len" = some none) (h2 : PySem.W.nsIn K mainGlobals "int" = some none) (h3 : PySem.W.nsIn K mainGlobals "all" = some none) (h4 : PySem.W.nsIn K mainGlobals "sorted" = some none) (h5 : PySem.W.nsIn K mainGlobals "tuple" = some none)
    (h6 : PySem.W.nsIn K mainGlobals "list" = some none) (h7 : PySem.W.nsIn K mainGlobals "set" = some none) (h8 : PySem.W.nsIn K mainGlobals "type" = some none) (h9 : PySem.W.nsIn K mainGlobals "isinstance" = some none) (h10 : PySem.W.nsIn K mainGlobals "zip" = some none)
    (h11 : PySem.W.nsIn K mainGlobals "range" = some none) (h12 : PySem.W.nsIn K mainGlobals "bool" = some none) (h13 : PySem.W.nsIn K mainGlobals "any" = some none) (h14 : PySem.W.nsIn K mainGlobals "iter" = some none) (h15 : PySem.W.nsIn K mainGlobals "property" = some none) : Z mg :=
  ⟨PySem.W.mg_none_of X G h1, PySem.W.mg_none_of X G h2, PySem.W.mg_none_of X G h3, PySem.W.mg_none_of X G h4, PySem.W.mg_none_of X G h5, PySem.W.mg_none_of X G h6, PySem.W.mg_none_of X G h7, PySem.W.mg_none_of X G h8, PySem.W.mg_none_of X G h9, PySem.W.mg_none_of X G h10, PySem.W.mg_none_of X G h11, PySem.W.mg_none_of X G h12, PySem.W.mg_none_of X G h13, PySem.W.mg_none_of X G h14, PySem.W.mg_none_of X G h15⟩
end TW
set_option Elab.async false
set_option linter.all false
set_option maxRecDepth 100000
namespace TW
open PySem PySem.Spec PyProof.Rows L2
theorem exm_me {K : PySem.W.Frag} {N : Addr} (h1 : PySem.W.subIn K (.ref N) (.type "BaseException") = some true) (h2 : PySem.W.isClsIn K N = true) (h3 : PySem.W.typeIn K (.ref N) = some (.type "type")) (h4 : PySem.W.subIn K (.ref N) (.ref N) = some true) : PySem.W.exmOne K (.ref N) (.ref N) = some true := by
  have h2' : (PySem.W.clsIn K N).isSome = true := h2
  have e1 : (PySem.W.subIn K (.ref N) (.type "BaseException") == some true) = true := by rw [h1]; rfl
  have e2 : ((PySem.W.clsIn K N).isSome && PySem.W.typeIn K (.ref N) == some (.type "type")) = true := by rw [h2', h3]; rfl
  change (if (PySem.W.subIn K (.ref N) (.type "BaseException") == some true) = true then (if ((PySem.W.clsIn K N).isSome && PySem.W.typeIn K (.ref N) == some (.type "type")) = true then PySem.W.subIn K (.ref N) (.ref N) else none) else none) = some true
  rw [if_pos e1, if_pos e2, h4]
theorem tn_mk {K : PySem.W.Frag} {mg : Str → Option Value} {h : Heap} {N : Addr} {x : Str} (X : K.In h) (G : h.Ns mainGlobals mg) (a : PySem.W.nsIn K mainGlobals x = some (some (.ref N))) (ex : PySem.W.excIn K N [.type "ValueError", .type "Exception", .type "BaseException", .type "object"] "ValueError.__new__" = true)
    (k : PySem.W.keepIn K (.ref N) = true) (b : PySem.W.subIn K (.ref N) (.type "BaseException") = some true) (t : PySem.W.typeIn K (.ref N) = some (.type "type")) (ic : PySem.W.isClsIn K N = true) (se : PySem.W.subIn K (.ref N) (.ref N) = some true) : TN K mg x N :=
  ⟨PySem.W.mg_of X G a, ex, k, b, t, exm_me b ic t se⟩
theorem all_law {l : PySem.W.OpenLaw} {w : World} {K : PySem.W.Frag} {mg : Str → Option Value} {fa C N : Addr} (hfa : mg "law" = some (.ref fa)) (z : Z mg) (zs : mg "str" = none) (z_sum : mg "sum" = none) (z_min : mg "min" = none) (TEN : TN K mg "NoLot" N) (T : TC K mg C) (NE : ExcC K N) (NU : NotU K C N) (NB : NotB K C N) (mk : PySem.W.makesIn K C = true) (kc : PySem.W.keepIn K (.ref C) = true)
    (m_i : MthD K C "__init__" "Table.__init__" s_Table_init ["self", "things", "lots"]) (m_t : MthD K C "__iter__" "Table.__iter__" s_Table_iter ["self"]) (m_l : MthD K C "__len__" "Table.__len__" s_Table_len ["self"]) (m_c : MthD K C "__contains__" "Table.__contains__" s_Table_contains ["self", "value"]) (m_q : MthD K C "__eq__" "Table.__eq__" s_Table_eq ["self", "other"]) (p_things : PrpD K C "things" "Table.things" s_Table_things) (p_lots : PrpD K C "lots" "Table.lots" s_Table_lots)
    (d1 : Dfn K mg "is_integer" s_is_integer ["value", "least"])
    (d2 : Dfn K mg "is_thing" s_is_thing ["value", "things"])
    (d3 : Dfn K mg "is_ascending" s_is_ascending ["values"])
    (d4 : Dfn K mg "is_lot" s_is_lot ["value", "things"])
    (d5 : Dfn K mg "check_things" s_check_things ["things"])
    (d6 : Dfn K mg "_law_draws_of" s__law_draws_of ["cell"])
    (d7 : Dfn K mg "_law_dip" s__law_dip ["well", "upto"])
    (d8 : Dfn K mg "_law_same" s__law_same ["given", "due"])
    (d9 : Dfn K mg "_law_number" s__law_number ["value"])
    (d10 : Dfn K mg "_law_rising" s__law_rising ["row"])
    (d11 : Dfn K mg "_law_lot_of" s__law_lot_of ["mask", "wide"])
    (d12 : Dfn K mg "_law_bits_of" s__law_bits_of ["pick"])
    (d13 : Dfn K mg "_law_met" s__law_met ["mask", "sign"])
    (d14 : Dfn K mg "_law_all_kept" s__law_all_kept ["mask", "bars"])
    (d15 : Dfn K mg "_law_one_sign" s__law_one_sign ["well", "wide"])
    (d16 : Dfn K mg "_law_one_bar" s__law_one_bar ["well", "wide"])
    (d17 : Dfn K mg "_law_some_bars" s__law_some_bars ["well", "wide", "most"])
    (d18 : Dfn K mg "_law_some_masks" s__law_some_masks ["well", "wide"])
    (d19 : Dfn K mg "_law_mixed" s__law_mixed ["well", "row"])
    (d20 : Dfn K mg "_law_make_table" s__law_make_table ["wide", "masks"])
    (d21 : Dfn K mg "_law_a_lot" s__law_a_lot ["value", "wide"])
    (d22 : Dfn K mg "_law_far_odd" s__law_far_odd ["well", "manner"])
    (d23 : Dfn K mg "_law_odd" s__law_odd ["well"])
    (d24 : Dfn K mg "_law_bent" s__law_bent ["well", "kept"])
    (d25 : Dfn K mg "_law_width" s__law_width ["well"])
    (d26 : Dfn K mg "_law_nested" s__law_nested ["well"])
    (d27 : Dfn K mg "_law_asked" s__law_asked ["book", "wide", "masks", "near"])
    (d28 : Dfn K mg "_law_unlike" s__law_unlike ["well", "wide", "masks"])
    (d29 : Dfn K mg "law" s_law ["script"]) :
    ∃ fd : FuncData, (∀ (s : Shared) (v : Value), BindsTo s fd ⟨[v], []⟩ [("script", v)]) ∧ ∀ base : Heap, K.In base → base.Ns mainGlobals mg → FnOk l.prog w K mg base CX0 9 fa fd ["script"] (spLaw K) := by
  obtain ⟨f, fd, F, g, b⟩ := d29
  have e := hfa.symm.trans g
  cases e
  obtain ⟨fi, fdi, ai, ii, Fi, bi⟩ := m_i
  obtain ⟨ft, fdt, at_, it, Ft, bt⟩ := m_t
  obtain ⟨fl, fdl, al, il, Fl, bl⟩ := m_l
  obtain ⟨co, cod, ac, ic, Fc, bc⟩ := m_c
  obtain ⟨qo, qod, aq, iq, Fq, bq⟩ := m_q
  obtain ⟨pp, pg, pfd, Pp, PF, Pb⟩ := p_things
  obtain ⟨lp, lg, lfd, Lp, LF, Lb⟩ := p_lots
  refine ⟨fd, fun s v => ?_, fun base _ _ => ?_⟩
  · obtain ⟨oc, od, kV, doc, pm, an, cdv, ct, osl, rfl, lk, hcd⟩ := F.ex
    exact .of_eq rfl
  · have O1 := ok_is_integer (P := l.prog) (w := w) (base := base) d1 z
    have O2 := ok_is_thing d2 O1
    have O3 := ok_is_ascending (P := l.prog) (w := w) (base := base) d3 z
    have O4 := ok_is_lot d4 z O2 O3
    have O5 := ok_check_things d5 O1
    have P1 := ok_is_integerO (T := C) (N := N) (P := l.prog) (w := w) (base := base) d1 z
    have P2 := ok_is_thingO d2 P1
    have P4 := ok_is_lotO d4 z P2 O3
    have M : TM l.prog w K mg base C fi fdi := ⟨⟨mk, ai, ii, kc⟩, ok_init Fi z T O5 O4, bi⟩
    have It : TI l.prog w K mg base C ft fdt := ⟨at_, it, ok_iter Ft z T, bt⟩
    have LN : TLn l.prog w K mg base C fl fdl := ⟨al, il, ok_len Fl z T, bl⟩
    have CO : TCoO l.prog w K mg base C N co cod := ⟨ac, ic, ok_containsO Fc T P4, bc⟩
    have TE : TEqG l.prog w K mg base C N qo qod := ⟨aq, iq, ok_tabEqG Fq z T, ok_tabEqO Fq z T NE NU, bq⟩
    have PT : TG l.prog w K mg base C pp pg pfd "things" (spThings C) := ⟨Pp, ok_things PF T, Pb⟩
    have PL : TG l.prog w K mg base C lp lg lfd "lots" (spLots C) := ⟨Lp, ok_lots LF z T, Lb⟩
    have W0 := ok_same (P := l.prog) (w := w) (base := base) d8 z
    have W1 := ok_drawsW (ok_draws (P := l.prog) (w := w) (base := base) d6 z)
    have W2 := ok_dipW (ok_dip (P := l.prog) (w := w) (base := base) d7 z)
    have W4 := ok_lot_of (P := l.prog) (w := w) (base := base) d11 z
    have W5 := ok_met (P := l.prog) (w := w) (base := base) d13 z
    have W7 := ok_kept d14 z W5
    have W8 := ok_one_sign d15 W2
    have W9 := ok_one_bar d16 z W2 W8
    have W10 := ok_some_bars d17 z W2 W9
    have W11 := ok_some_masks d18 z W2 W7 W10
    have W12 := ok_make_table d20 T M W4
    have W13 := ok_width d25 W2
    have W14 := ok_mixed (K := K) d19 z W2
    have Ofar := ok_far_odd (T := C) (N := N) d22 z W2
    have Oodd := ok_odd d23 z T M TEN W2 Ofar
    have Obent := ok_bent d24 z T.ins NE NB W2 Oodd
    have Onest := ok_nested (T := C) (N := N) d26 z W2
    have Onum := ok_numberO (P := l.prog) (w := w) (base := base) d9 z T.ins NE NB
    have Oris := ok_risingG (K := K) (P := l.prog) (w := w) (base := base) d10 z
    have Oalot := ok_a_lotO d21 z T.ins NE NB Onum Oris
    have Obits := ok_bitsL (K := K) (P := l.prog) (w := w) (base := base) d12 z z_sum
    have Oask := ok_asked d27 z T PT PL It LN CO W4 W0 Oalot Obits
    have Ounl := ok_unlikeT d28 z W2 W12
    exact ok_law F z z_min T M (kb_table Fi) NE NU TE PL W1 W2 W0 W13 W11 W14 W4 Oodd Obent Onest Ounl Oask
end TW
open PySem PySem.W PyProof.Rows
set_option maxHeartbeats 0 in
theorem PySem.Challenge.cw_thingwise_k01_tables_made_holds : PySem.Challenge.rw_thingwise_k01_tables_made.Holds := by
  w_on; o_law; k_head; (case hw => w_witness2)
  k_fill
  refine L2.walk_ofB (l := PySem.Challenge.rw_thingwise_k01_tables_made) (n := 63) (k := 9) (x := "script") (CX := fun _ => L2.CX0) (sp := fun w => TW.spLaw _) rfl (by decide) rfl ⟨rfl, by decide, by decide⟩ (fun w h Y => PySem.W.kIn_of Y) ?F (fun _ _ a ns hl _ _ hS => ⟨a, ns, rfl, hS, hl, fun _ => rfl⟩) (fun _ _ _ _ _ h => h)
  case F =>
    intro w mg fa h KX G hmg
    have z : TW.Z mg := by
      refine' TW.z_mk KX G ?_ ?_ ?_ ?_ ?_ ?_ ?_ ?_ ?_ ?_ ?_ ?_ ?_ ?_ ?_
      all_goals k_is
    have zs : mg "str" = none := by
      refine' PySem.W.mg_none_of KX G ?_
      k_is
    have z_sum : mg "sum" = none := by
      refine' PySem.W.mg_none_of KX G ?_
      k_is
    have z_min : mg "min" = none := by
      refine' PySem.W.mg_none_of KX G ?_
      k_is
    refine' TW.all_law (C := ?C) (N := ?atN) hmg z zs z_sum z_min ?TEN ?T ?NE ?NU ?NB ?mk ?kc ?m_i ?m_t ?m_l ?m_c ?m_q ?p_things ?p_lots ?d1 ?d2 ?d3 ?d4 ?d5 ?d6 ?d7 ?d8 ?d9 ?d10 ?d11 ?d12 ?d13 ?d14 ?d15 ?d16 ?d17 ?d18 ?d19 ?d20 ?d21 ?d22 ?d23 ?d24 ?d25 ?d26 ?d27 ?d28 ?d29
    case TEN =>
      refine' TW.tn_mk KX G ?g ?ex ?kk ?b ?t ?ic ?se
      (case g => k_is); (case ex => k_exc); (case kk => k_is); (case b => k_is); (case t => k_is); (case ic => k_is); (case se => first | rfl | k_is)
    case T =>
      refine' TW.tc_mk KX G ?aC ?pg ?hd ?po ?sa ?ha ?hn ?ht ?hm ?nT ?nL
      (case aC => k_is); (case pg => k_is); (case hd => k_is); (case po => k_is); (case sa => k_is); (case ha => k_is); (case hn => k_is); (case ht => k_is); (case hm => k_is); (case nT => k_is); (case nL => k_is)
    case NE =>
      refine' ⟨?e0, ?e1, ?e2, ?e3, ?e4, ?e5, ?e6, ?e7⟩
      (case e0 => k_is); (case e1 => k_is); (case e2 => k_is); (case e3 => k_is); (case e4 => k_is); (case e5 => k_is); (case e6 => k_is); (case e7 => k_is)
    case NU =>
      refine' ⟨?n0, ?n1, ?n2, ?n3, ?n4, ?n5, ?n6⟩
      (case n0 => kit_is); (case n1 => kit_is); (case n2 => kit_is); (case n3 => kit_is); (case n4 => kit_is); (case n5 => kit_is); (case n6 => kit_is)
    case NB =>
      refine' ⟨?b0, ?b1, ?b2, ?b3, ?b4, ?b5, ?b6, ?b7⟩
      (case b0 => kit_is); (case b1 => kit_is); (case b2 => kit_is); (case b3 => kit_is); (case b4 => kit_is); (case b5 => kit_is); (case b6 => kit_is); (case b7 => kit_is)
    case mk => k_is
    case kc => k_is
    case m_i => refine' TW.mth_mk (fun _ _ _ _ _ _ us hl => match us, hl with | [_, _, _], _ => rfl) ?a ?i ?l ?c ?k; (case a => k_is); (case i => k_is); (case l => k_is); (case c => k_is); (case k => k_is)
    case m_t => refine' TW.mth_mk (fun _ _ _ _ _ _ us hl => match us, hl with | [_], _ => rfl) ?a ?i ?l ?c ?k; (case a => k_is); (case i => k_is); (case l => k_is); (case c => k_is); (case k => k_is)
    case m_l => refine' TW.mth_mk (fun _ _ _ _ _ _ us hl => match us, hl with | [_], _ => rfl) ?a ?i ?l ?c ?k; (case a => k_is); (case i => k_is); (case l => k_is); (case c => k_is); (case k => k_is)
    case m_c => refine' TW.mth_mk (fun _ _ _ _ _ _ us hl => match us, hl with | [_, _], _ => rfl) ?a ?i ?l ?c ?k; (case a => k_is); (case i => k_is); (case l => k_is); (case c => k_is); (case k => k_is)
    case m_q => refine' TW.mth_mk (fun _ _ _ _ _ _ us hl => match us, hl with | [_, _], _ => rfl) ?a ?i ?l ?c ?k; (case a => k_is); (case i => k_is); (case l => k_is); (case c => k_is); (case k => k_is)
    case p_things => refine' TW.prp_mk (fun _ _ _ _ _ _ us hl => match us, hl with | [_], _ => rfl) ?a ?e ?t ?r ?l ?c ?k; (case a => k_is); (case e => k_is); (case t => k_is); (case r => k_is); (case l => k_is); (case c => k_is); (case k => k_is)
    case p_lots => refine' TW.prp_mk (fun _ _ _ _ _ _ us hl => match us, hl with | [_], _ => rfl) ?a ?e ?t ?r ?l ?c ?k; (case a => k_is); (case e => k_is); (case t => k_is); (case r => k_is); (case l => k_is); (case c => k_is); (case k => k_is)
    case d1 => refine' TW.dfn_mk KX G (fun _ _ _ _ _ _ _ us hl => match us, hl with | [_, _], _ => rfl) ?a ?l ?c ?k; (case a => k_is); (case l => k_is); (case c => k_is); (case k => k_is)
    case d2 => refine' TW.dfn_mk KX G (fun _ _ _ _ _ _ _ us hl => match us, hl with | [_, _], _ => rfl) ?a ?l ?c ?k; (case a => k_is); (case l => k_is); (case c => k_is); (case k => k_is)
    case d3 => refine' TW.dfn_mk KX G (fun _ _ _ _ _ _ _ us hl => match us, hl with | [_], _ => rfl) ?a ?l ?c ?k; (case a => k_is); (case l => k_is); (case c => k_is); (case k => k_is)
    case d4 => refine' TW.dfn_mk KX G (fun _ _ _ _ _ _ _ us hl => match us, hl with | [_, _], _ => rfl) ?a ?l ?c ?k; (case a => k_is); (case l => k_is); (case c => k_is); (case k => k_is)
    case d5 => refine' TW.dfn_mk KX G (fun _ _ _ _ _ _ _ us hl => match us, hl with | [_], _ => rfl) ?a ?l ?c ?k; (case a => k_is); (case l => k_is); (case c => k_is); (case k => k_is)
    case d6 => refine' TW.dfn_mk KX G (fun _ _ _ _ _ _ _ us hl => match us, hl with | [_], _ => rfl) ?a ?l ?c ?k; (case a => k_is); (case l => k_is); (case c => k_is); (case k => k_is)
    case d7 => refine' TW.dfn_mk KX G (fun _ _ _ _ _ _ _ us hl => match us, hl with | [_, _], _ => rfl) ?a ?l ?c ?k; (case a => k_is); (case l => k_is); (case c => k_is); (case k => k_is)
    case d8 => refine' TW.dfn_mk KX G (fun _ _ _ _ _ _ _ us hl => match us, hl with | [_, _], _ => rfl) ?a ?l ?c ?k; (case a => k_is); (case l => k_is); (case c => k_is); (case k => k_is)
    case d9 => refine' TW.dfn_mk KX G (fun _ _ _ _ _ _ _ us hl => match us, hl with | [_], _ => rfl) ?a ?l ?c ?k; (case a => k_is); (case l => k_is); (case c => k_is); (case k => k_is)
    case d10 => refine' TW.dfn_mk KX G (fun _ _ _ _ _ _ _ us hl => match us, hl with | [_], _ => rfl) ?a ?l ?c ?k; (case a => k_is); (case l => k_is); (case c => k_is); (case k => k_is)
    case d11 => refine' TW.dfn_mk KX G (fun _ _ _ _ _ _ _ us hl => match us, hl with | [_, _], _ => rfl) ?a ?l ?c ?k; (case a => k_is); (case l => k_is); (case c => k_is); (case k => k_is)
    case d12 => refine' TW.dfn_mk KX G (fun _ _ _ _ _ _ _ us hl => match us, hl with | [_], _ => rfl) ?a ?l ?c ?k; (case a => k_is); (case l => k_is); (case c => k_is); (case k => k_is)
    case d13 => refine' TW.dfn_mk KX G (fun _ _ _ _ _ _ _ us hl => match us, hl with | [_, _], _ => rfl) ?a ?l ?c ?k; (case a => k_is); (case l => k_is); (case c => k_is); (case k => k_is)
    case d14 => refine' TW.dfn_mk KX G (fun _ _ _ _ _ _ _ us hl => match us, hl with | [_, _], _ => rfl) ?a ?l ?c ?k; (case a => k_is); (case l => k_is); (case c => k_is); (case k => k_is)
    case d15 => refine' TW.dfn_mk KX G (fun _ _ _ _ _ _ _ us hl => match us, hl with | [_, _], _ => rfl) ?a ?l ?c ?k; (case a => k_is); (case l => k_is); (case c => k_is); (case k => k_is)
    case d16 => refine' TW.dfn_mk KX G (fun _ _ _ _ _ _ _ us hl => match us, hl with | [_, _], _ => rfl) ?a ?l ?c ?k; (case a => k_is); (case l => k_is); (case c => k_is); (case k => k_is)
    case d17 => refine' TW.dfn_mk KX G (fun _ _ _ _ _ _ _ us hl => match us, hl with | [_, _, _], _ => rfl) ?a ?l ?c ?k; (case a => k_is); (case l => k_is); (case c => k_is); (case k => k_is)
    case d18 => refine' TW.dfn_mk KX G (fun _ _ _ _ _ _ _ us hl => match us, hl with | [_, _], _ => rfl) ?a ?l ?c ?k; (case a => k_is); (case l => k_is); (case c => k_is); (case k => k_is)
    case d19 => refine' TW.dfn_mk KX G (fun _ _ _ _ _ _ _ us hl => match us, hl with | [_, _], _ => rfl) ?a ?l ?c ?k; (case a => k_is); (case l => k_is); (case c => k_is); (case k => k_is)
    case d20 => refine' TW.dfn_mk KX G (fun _ _ _ _ _ _ _ us hl => match us, hl with | [_, _], _ => rfl) ?a ?l ?c ?k; (case a => k_is); (case l => k_is); (case c => k_is); (case k => k_is)
    case d21 => refine' TW.dfn_mk KX G (fun _ _ _ _ _ _ _ us hl => match us, hl with | [_, _], _ => rfl) ?a ?l ?c ?k; (case a => k_is); (case l => k_is); (case c => k_is); (case k => k_is)
    case d22 => refine' TW.dfn_mk KX G (fun _ _ _ _ _ _ _ us hl => match us, hl with | [_, _], _ => rfl) ?a ?l ?c ?k; (case a => k_is); (case l => k_is); (case c => k_is); (case k => k_is)
    case d23 => refine' TW.dfn_mk KX G (fun _ _ _ _ _ _ _ us hl => match us, hl with | [_], _ => rfl) ?a ?l ?c ?k; (case a => k_is); (case l => k_is); (case c => k_is); (case k => k_is)
    case d24 => refine' TW.dfn_mk KX G (fun _ _ _ _ _ _ _ us hl => match us, hl with | [_, _], _ => rfl) ?a ?l ?c ?k; (case a => k_is); (case l => k_is); (case c => k_is); (case k => k_is)
    case d25 => refine' TW.dfn_mk KX G (fun _ _ _ _ _ _ _ us hl => match us, hl with | [_], _ => rfl) ?a ?l ?c ?k; (case a => k_is); (case l => k_is); (case c => k_is); (case k => k_is)
    case d26 => refine' TW.dfn_mk KX G (fun _ _ _ _ _ _ _ us hl => match us, hl with | [_], _ => rfl) ?a ?l ?c ?k; (case a => k_is); (case l => k_is); (case c => k_is); (case k => k_is)
    case d27 => refine' TW.dfn_mk KX G (fun _ _ _ _ _ _ _ us hl => match us, hl with | [_, _, _, _], _ => rfl) ?a ?l ?c ?k; (case a => k_is); (case l => k_is); (case c => k_is); (case k => k_is)
    case d28 => refine' TW.dfn_mk KX G (fun _ _ _ _ _ _ _ us hl => match us, hl with | [_, _, _], _ => rfl) ?a ?l ?c ?k; (case a => k_is); (case l => k_is); (case c => k_is); (case k => k_is)
    case d29 => refine' TW.dfn_mk KX G (fun _ _ _ _ _ _ _ us hl => match us, hl with | [_], _ => rfl) ?a ?l ?c ?k; (case a => k_is); (case l => k_is); (case c => k_is); (case k => k_is)
