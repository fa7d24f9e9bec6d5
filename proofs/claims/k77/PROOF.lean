import PyProof.Rows.All
import Wide.All
import OpenK.AllK
import Wide.FinOn
import HandS.ForMost
import HandS.EndBits
import HandS.Evl
import HandS.Wide
import HandS.IsInst
import HandS.TupAny
import HandS.Zip
import HandS.Walk
import HandS.More
import HandS.Strs
import HandS.SetFor
import HandS.SortInts
import HandS.ExcOwn
import KE.SortData
import HandS.WideBits
import HandS.TupSets
import HandS.IterVal
import HandS.OwnIter
import HandS.Property
import HandS.Codes
import HandS.Deep
import HandS.WordsExc
import HandS.TryOnly
import PyProof.InstSpecial
import PyProof.P3In
import PyProof.TupleOfSeq
import HandS.OwnEq
import KE.KDictWalk
import HandS.Iter
import HandS.Dict
import HandS.Small
import HandS.Flt
import HandS.Conv
import HandS.Style
import PySem.Challenge.RW_thingwise_k77_places_taken_out
set_option Elab.async false
set_option linter.all false
set_option maxRecDepth 100000
set_option maxHeartbeats 2000000
namespace TW
open PySem PySem.Spec PyProof.Rows L2
abbrev Ex (H H' : Hp) : Prop := Evl.Ex H H'
theorem Ex.rfl' {H : Hp} : Ex H H := Evl.Ex.refl H
/-! what stands beside H0: the things of l, each apart from the others -/
structure Has (H0 H : Hp) (l : List (Addr × HO)) : Prop where
  ex : Ex H0 H
  own : ∀ q ∈ l, H0 q.1 = none ∧ H q.1 = some q.2
  nd : (l.map (·.1)).Nodup
/-- all but the thing at w stays -/
def But (w : Addr) (H H' : Hp) : Prop := ∀ a o, a ≠ w → H a = some o → H' a = some o
theorem But.ex {w : Addr} {H H' : Hp} (e : Ex H H') : But w H H' := fun a o _ h => e a o h
theorem But.upd {w : Addr} {H : Hp} {o : HO} : But w H (upd H w o) := fun a u n h => by rw [upd_ne n]; exact h
theorem But.trans {w : Addr} {H H1 H2 : Hp} (a : But w H H1) (b : But w H1 H2) : But w H H2 := fun c o n h => b c o n (a c o n h)
theorem But.refl {w : Addr} {H : Hp} : But w H H := fun _ _ _ h => h
theorem But.free {w : Addr} {H H' : Hp} {p : Addr} {o : HO} (b : But w H H') (h : H' p = none) (hw : H' w = some o) : H p = none := by
  cases e : H p with
  | none => rfl
  | some u =>
    have n : p ≠ w := fun z => by rw [z, hw] at h; cases h
    rw [b p u n e] at h
    cases h
section
variable {H0 H H' : Hp} {l : List (Addr × HO)} {p w : Addr} {o o' : HO}
theorem Has.nil : Has H H [] := ⟨Evl.Ex.refl H, fun q h => absurd h List.not_mem_nil, List.Pairwise.nil⟩
theorem Has.get (h : Has H0 H l) (i : Nat) (hi : l[i]? = some (p, o)) : H p = some o := (h.own _ (List.mem_of_getElem? hi)).2
theorem Has.fr (h : Has H0 H l) (i : Nat) (hi : l[i]? = some (p, o)) : H0 p = none := (h.own _ (List.mem_of_getElem? hi)).1
theorem Has.new (h : Has H0 H l) (hp : H p = none) : Has H0 (upd H p o) ((p, o) :: l) := by
  refine ⟨h.ex.trans (Evl.Ex.new hp), fun q hq => ?_, ?_⟩
  · rcases List.mem_cons.mp hq with e | e
    · subst e
      exact ⟨Evl.fresh_back h.ex hp, upd_same⟩
    · obtain ⟨a, b⟩ := h.own q e
      exact ⟨a, by rw [upd_ne (ne_of_none b hp)]; exact b⟩
  · rw [List.map_cons, List.nodup_cons]
    refine ⟨fun z => ?_, h.nd⟩
    obtain ⟨q, hq, e⟩ := List.mem_map.mp z
    have b := (h.own q hq).2
    rw [e, hp] at b
    cases b
theorem Has.go (h : Has H0 H l) (e : Ex H H') : Has H0 H' l := ⟨h.ex.trans e, fun q hq => ⟨(h.own q hq).1, e _ _ (h.own q hq).2⟩, h.nd⟩
/-- a new thing behind an extension -/
theorem Has.newE (h : Has H0 H l) (e : Ex H H') (hp : H p = none) (hv : H' p = some o) : Has H0 H' ((p, o) :: l) := by
  refine ⟨h.ex.trans e, fun q hq => ?_, ?_⟩
  · rcases List.mem_cons.mp hq with z | z
    · subst z
      exact ⟨Evl.fresh_back h.ex hp, hv⟩
    · exact ⟨(h.own q z).1, e _ _ (h.own q z).2⟩
  · rw [List.map_cons, List.nodup_cons]
    refine ⟨fun z => ?_, h.nd⟩
    obtain ⟨q, hq, z2⟩ := List.mem_map.mp z
    have b := (h.own q hq).2
    rw [z2, hp] at b
    cases b
theorem nodup_at {α : Type} : ∀ {l : List α} {i j : Nat} {x : α}, l.Nodup → l[i]? = some x → l[j]? = some x → i = j := by
  intro l i j x nd hi hj
  obtain ⟨hi1, hi2⟩ := List.getElem?_eq_some_iff.mp hi
  obtain ⟨hj1, hj2⟩ := List.getElem?_eq_some_iff.mp hj
  rcases Nat.lt_trichotomy i j with c | c | c
  · exact absurd (hi2.trans hj2.symm) (List.pairwise_iff_getElem.mp nd i j hi1 hj1 c)
  · exact c
  · exact absurd (hj2.trans hi2.symm) (List.pairwise_iff_getElem.mp nd j i hj1 hi1 c)
/-- the i-th thing changes, all else stays -/
theorem Has.setB (h : Has H0 H l) (i : Nat) (hi : l[i]? = some (w, o)) (b : But w H H') (hv : H' w = some o') : Has H0 H' (l.set i (w, o')) := by
  have em : (l.set i (w, o')).map (·.1) = l.map (·.1) := by
    rw [List.map_set]
    refine List.ext_getElem? fun j => ?_
    by_cases e : i = j
    · subst e
      obtain ⟨h1, h2⟩ := List.getElem?_eq_some_iff.mp hi
      rw [List.getElem?_set_self (by rw [List.length_map]; exact h1), List.getElem?_map, hi]
      rfl
    · rw [List.getElem?_set_ne e]
  have nw : H0 w = none := h.fr i hi
  refine ⟨fun a u e => b a u (ne_of_none e nw) (h.ex a u e), fun q hq => ?_, by rw [em]; exact h.nd⟩
  obtain ⟨j, hj⟩ := List.mem_iff_getElem?.mp hq
  by_cases e : i = j
  · subst e
    obtain ⟨h1, _⟩ := List.getElem?_eq_some_iff.mp hi
    rw [List.getElem?_set_self h1] at hj
    cases hj
    exact ⟨nw, hv⟩
  · rw [List.getElem?_set_ne e] at hj
    obtain ⟨a, c⟩ := h.own q (List.mem_of_getElem? hj)
    refine ⟨a, b _ _ (fun z => e ?_) c⟩
    refine nodup_at h.nd (x := w) ?_ ?_
    · rw [List.getElem?_map, hi]
      rfl
    · rw [List.getElem?_map, hj, ← z]
      rfl
theorem Has.set (h : Has H0 H l) (i : Nat) (hi : l[i]? = some (w, o)) : Has H0 (upd H w o') (l.set i (w, o')) := h.setB i hi But.upd upd_same
theorem Has.sub {l' : List (Addr × HO)} (h : Has H0 H l) (s : l'.Sublist l) : Has H0 H l' := ⟨h.ex, fun q hq => h.own q (s.subset hq), (s.map _).nodup h.nd⟩
theorem Has.tail {q : Addr × HO} (h : Has H0 H (q :: l)) : Has H0 H l := h.sub (List.sublist_cons_self _ _)
/-- a new thing behind a step that changes w -/
theorem Has.newB (h : Has H0 H l) (i : Nat) (hi : l[i]? = some (w, o)) (hp : H p = none) (hv : H' p = some o') : p ≠ w := fun z => by
  have a := h.get i hi
  rw [← z, hp] at a
  cases a
/-- adding a thing that H0 does not know and that stands apart -/
theorem Has.add (h : Has H0 H l) (hp : H0 p = none) (hv : H p = some o) (na : p ∉ l.map (·.1)) : Has H0 H ((p, o) :: l) := by
  refine ⟨h.ex, fun q hq => ?_, List.nodup_cons.mpr ⟨na, h.nd⟩⟩
  rcases List.mem_cons.mp hq with z | z
  · subst z
    exact ⟨hp, hv⟩
  · exact h.own q z
theorem Has.notin (h : Has H0 H l) (hp : H p = none) : p ∉ l.map (·.1) := fun z => by
  obtain ⟨q, hq, z2⟩ := List.mem_map.mp z
  have b := (h.own q hq).2
  rw [z2, hp] at b
  cases b
end
/-! defs by their names -/
def Dfn (K : PySem.W.Frag) (mg : Str → Option Value) (x : Str) (st : Stmt) (ps : List Str) : Prop := ∃ (f : Addr) (fd : FuncData), Fun K x x st f fd ∧ mg x = some (.ref f) ∧ Binds K fd ps []
def Ok (P : Program) (w : World) (K : PySem.W.Frag) (mg : Str → Option Value) (base : Heap) (k : Nat) (x : Str) (ps : List Str) (sp : Sp) : Prop :=
  ∃ (f : Addr) (fd : FuncData), FnOk P w K mg base CX0 k f fd ps sp ∧ mg x = some (.ref f) ∧ PySem.W.keepIn K (.ref f) = true ∧ Binds K fd ps []
theorem Dfn.ok {P : Program} {w : World} {K : PySem.W.Frag} {mg : Str → Option Value} {base : Heap} {k : Nat} {x : Str} {st : Stmt} {ps : List Str} {sp : Sp} (D : Dfn K mg x st ps)
    (h : ∀ f fd, Fun K x x st f fd → FnOk P w K mg base CX0 k f fd ps sp) : Ok P w K mg base k x ps sp := by
  obtain ⟨f, fd, F, g, b⟩ := D
  exact ⟨f, fd, h f fd F, g, F.kp, b⟩
theorem pe_o {X : Cx} {k : Nat} {x : Str} {ps : List Str} {sp : Sp} {e : Expr} {es : List Expr} {t : TA} {p pos : Pos} (O : Ok X.prog X.w X.K X.mg X.base k x ps sp) (hr : Room k X.A) (ha : PA X (e :: es) t) (hg : Gl X x := by rfl)
    (hdb : (x == ("__debug__" : Str)) = false := by decide) (he : starEach (e :: es) X.env = (false, eval e X.env) :: starEach es X.env := by rfl) (hpl : (backTo pos (starEach es X.env)).any (·.1) = false := by rfl) :
    PE X (.Call (.Name x p) (e :: es) [] pos) (tCall sp [] E0 t) := by
  obtain ⟨f, fd, F, g, kp, b⟩ := O
  exact pe_call F hr hg g kp b .nil pass0 ha hdb he hpl
theorem dfn_mk {K : PySem.W.Frag} {mg : Str → Option Value} {h : Heap} {x : Str} {st : Stmt} {ps : List Str} {f : Addr} {oc : Value} {od an : Option Addr} {osl : Array (Option Value)} {kV doc pm cdv ct : Value}
    (X : K.In h) (G : h.Ns mainGlobals mg) (hb : ∀ (kV doc pm : Value) (an : Option Addr) (f' cdv ct : Value) (us : List Value), us.length = ps.length → bindArgs (PySem.W.fnOf x x (defArgs st) (defBody st) (defScope st) .none kV doc pm an cdv ct) ⟨us, []⟩ = pure (ps.zip us))
    (a : PySem.W.nsIn K mainGlobals x = some (some (.ref f))) (l : K.lookup f = some ⟨oc, od, .func (PySem.W.fnOf x x (defArgs st) (defBody st) (defScope st) .none kV doc pm an cdv ct), osl⟩)
    (c : PySem.W.codeIn K cdv x = true) (k : PySem.W.keepIn K (.ref f) = true) : Dfn K mg x st ps := by
  have F := fun_mk (st := st) l c k
  exact ⟨f, _, F, PySem.W.mg_of X G a, F.binds fun kV doc pm an cdv ct us hl => hb kV doc pm an .none cdv ct us hl⟩

theorem walk_zipT {K : PySem.W.Frag} {a b : Addr} {xs ys : List V} {n : Nat} (hn : n = min xs.length ys.length) : Walk (RZ.ItzT K a b) n (fun H => SqT K H a xs ∧ SqT K H b ys)
    (fun i H v H' => ∃ T x y, v = .ref T ∧ H T = none ∧ H' = upd H T (.tup [x, y]) ∧ xs[i]? = some x ∧ ys[i]? = some y) := by
  subst hn
  refine ⟨fun i H hi q => ?_, fun H q => ⟨xs, ys, q.1, q.2, by omega⟩, fun i H v H' hi q y => ?_⟩
  · have h1 : i < xs.length := by omega
    have h2 : i < ys.length := by omega
    exact ⟨xs, ys, xs[i], ys[i], q.1, q.2, List.getElem?_eq_getElem h1, List.getElem?_eq_getElem h2⟩
  · obtain ⟨T, x, z, rfl, hT, rfl, f1, f2⟩ := y
    exact ⟨T, x, z, rfl, hT, rfl, f1 xs q.1, f2 ys q.2⟩
theorem take_snoc {α : Type} {l : List α} {i : Nat} {x : α} (h : l[i]? = some x) : l.take (i + 1) = l.take i ++ [x] := by
  rw [List.take_add_one, h]
  rfl
theorem sz {n : Nat} (h : n ≤ 100000) : n ≤ sizeLine := Evl.sz_of h
theorem szl {n : Nat} (h : n < 100000) : n < sizeLine := Evl.sz_lt h
end TW
set_option Elab.async false
set_option linter.all false
set_option maxRecDepth 100000
set_option maxHeartbeats 4000000
namespace TW
open PySem PySem.Spec PyProof.Rows L2
/-- an empty set as it is made -/
abbrev fresh0 (w : World) : Obj := { cls := .type "set", dict := none, data := .set #[] 0 (.fresh 0 0 (!w.params.followText "set-order")) }
section
variable {P : Program} {w : World} {A : Around} {E : Value → Shared → Prop} {s : Shared}
theorem set_of_ints {l : Addr} {its : Array Value} (ns : List Int) {Q : Value → Shared → Prop} (noh : A.handled = none) (il : s.heap.IsList l its) (ii : IntsAre its.toList ns) (few : ns.length + 1 < scanBound)
    (go : ∀ (g : Heap) (tk c : Nat), SetR w g s.heap.objs.size (fun j => decide (j ∈ ns)) c → c ≤ ns.length → (∀ b o, s.heap.get? b = some o → g.get? b = some o) → Q (.ref s.heap.objs.size) { s with heap := g, toks := tk }) :
    wpAny (model P w) A (call (.type "set") [.ref l]) Q E s := by
  have size_eq : its.size = ns.length := by simpa using ii.length
  have C := F.called_set
  obtain ⟨c, tl, mro⟩ := C.mro
  have made_ := C.made
  have sub_ := C.sub
  have nt := C.notType
  have cc := C.canCreate
  have tc1 := F.typeCall_set_1 (.ref l)
  refine wpAny_call (codeAny_of_tree ?_)
  change wpAny _ _ (callAny (Value.type "set") ⟨[.ref l], []⟩) _ _ _
  refine wpAny_pure ⟨Code.quiet_builtin _ (by decide +kernel), codeAny_builtin F.entry_type_call ?_⟩
  rw [Around.under_plain (weight_type_call_type "set" _ _) rfl]
  repeat (any_goals (first | assumption | wp_step))
  refine codeAny_mono (code_set_led1 (.ref l) (E := E) (Q₁ := fun ob t => ob = .ref s.heap.objs.size ∧ t = { s with heap := s.heap.push (fresh0 w) }) ⟨rfl, rfl⟩) fun r t hr => ?_
  match r, hr with
  | .error e, hr => exact hr
  | .ok (.ret ob), hr =>
    obtain ⟨rfl, rfl⟩ := hr
    have at0 : (s.heap.push (fresh0 w)).get? s.heap.objs.size = some (fresh0 w) := Heap.get?_push_size _ rfl
    have ty0 : Shared.TypeIs { s with heap := s.heap.push (fresh0 w) } (.ref s.heap.objs.size) "set" := ⟨_, at0, rfl⟩
    have look_ := C.init.lookup
    have bind_ := C.init.bind (.ref s.heap.objs.size)
    repeat (any_goals (first | assumption | wp_step))
    refine codeAny_mono (codeAny_call_builtin (R := wants (fun r t => r = .none ∧ ∃ g tk c, t = { s with heap := g, toks := tk } ∧ SetR w g s.heap.objs.size (fun j => decide (j ∈ ns)) c ∧ c ≤ ns.length ∧ (∀ b o, s.heap.get? b = some o → g.get? b = some o)) E) C.init.plain F.entry_set_init (check_set_init_1 ty0 ?_)) fun r2 t2 hr2 => ?_
    · obtain ⟨⟨lc, ld, ldat, lsl⟩, lat, e1, nl, e2⟩ := il
      simp only at e1 e2
      subst e1
      subst e2
      have lat1 : (s.heap.push (fresh0 w)).get? l = some { cls := .type "list", dict := ld, data := .seq its nl, slots := lsl } := Heap.get?_push_of_some _ lat
      have k1 := F.sub_list_set
      have k2 := F.sub_list_frozenset
      have k3 : (Value.type "list" == Value.type "dict") = false := by decide
      have il1 : (s.heap.push (fresh0 w)).IsList l its := ⟨_, lat1, rfl, nl, rfl⟩
      unfold Builtin.«set.__init__» noKeywords Builtin.Frozenset.updateFrom
      generalize ePI : pyIter = PI
      wp_walk
      subst ePI
      refine wpAny_pyIter_list il1 (wpAny_bind (wpAny_runValue ?_))
      have ll := Heap.lt_size lat
      have sz1 : (s.heap.push (fresh0 w)).objs.size = s.heap.objs.size + 1 := Heap.size_push ..
      have noh3 : A.in1.in1.in1.handled = none := by simp [noh]
      have nI : l ≠ (s.heap.push (fresh0 w)).objs.size := sz1 ▸ Nat.ne_of_lt (Nat.lt_succ_of_lt ll)
      have nS : s.heap.objs.size ∉ [(s.heap.push (fresh0 w)).objs.size, l] := by
        simp only [List.mem_cons, List.not_mem_nil, or_false, not_or]
        exact ⟨sz1 ▸ Nat.ne_of_lt (Nat.lt_succ_self _), Nat.ne_of_gt ll⟩
      have vals_ : ∀ (i : Nat) (v : Value), its[i]? = some v → ∃ k t, ns[i]? = some k ∧ v = .int k t := fun i v hv => by
        have hi : i < ns.length := size_eq ▸ (Array.getElem?_eq_some_iff.mp hv).1
        obtain ⟨t, e⟩ := PyProof.Rows.IntsAre.int_at ii i v (by simpa using hv)
        refine ⟨ns[i], t, List.getElem?_eq_getElem hi, ?_⟩
        rw [e]
        simp [List.getD_eq_getElem?_getD, hi]
      refine set_update_ints ((Walks.list noh3 _ l nI its).toS) s.heap.objs.size nS ns size_eq few vals_ (its.size - 0) 0 _ (by omega) (Nat.zero_le _) ⟨⟨_, Heap.get?_push_size _ rfl, rfl, rfl⟩, il1.push _⟩ ⟨0, Nat.le_refl 0, setR_new_at (Heap.get?_push_of_some _ at0)⟩ ?_
      rintro ⟨g, g2, d2, tk, os2⟩ c2 mv c2l R2
      have z1 : g2 = s.gens := mv.gens
      have z2 : d2 = s.drawn := mv.drawn
      have z3 : os2 = s.os := mv.os
      subst z1 z2 z3
      show wpAny _ _ _ _ _ _
      refine wpAny_pure ?_
      show wpAny _ _ (ret Value.none) _ _ _
      refine wpAny_pure ⟨rfl, g, tk, c2, rfl, R2, by omega, fun b o e => ?_⟩
      have bl := Heap.lt_size e
      refine mv.heap b o ?_ (Heap.get?_push_of_some _ (Heap.get?_push_of_some _ e))
      simp only [List.mem_cons, List.not_mem_nil, or_false, not_or]
      exact ⟨Nat.ne_of_lt bl, sz1 ▸ Nat.ne_of_lt (Nat.lt_succ_of_lt bl)⟩
    · match r2, hr2 with
      | .error e, hr2 => exact hr2
      | .ok (.ret r3), hr2 =>
        obtain ⟨rfl, g, tk, c2, rfl, R2, c2l, kp⟩ := hr2
        repeat (any_goals (first | assumption | wp_step))
        exact go _ _ _ R2 c2l kp
      | .ok .next, hr2 => exact hr2.elim
      | .ok .brk, hr2 => exact hr2.elim
      | .ok .cont, hr2 => exact hr2.elim
  | .ok .next, hr => exact hr.elim
  | .ok .brk, hr => exact hr.elim
  | .ok .cont, hr => exact hr.elim
end
section
variable {X : Cx}
/-- set(xs), xs a list of ints -/
def rSetI (K : PySem.W.Frag) (w : World) : List V → Hp → VK → Prop := fun xs H Q => ∃ (l : Addr) (ns : List Int), xs = [V.ref l] ∧ SqL K H l (ns.map V.int) ∧ ns.length ≤ 4000 ∧
  ∀ a c, H a = none → c ≤ ns.length → Q (.ref a) (upd H a (SetO w a (fun j => decide (j ∈ ns)) c))
theorem cr_setI (hc : X.calm = true) : CallR X (.type "set") (rSetI X.K X.w) := by
  intro pins s σ H xs us Q I r h
  obtain ⟨l, ns, rfl, hl, hf, q⟩ := h
  rw [Vals.ref1 r]
  obtain ⟨its, rv, pl, hz⟩ := I.list hl
  have hn : H s.heap.objs.size = none := I.hok.fresh (Nat.le_refl _)
  refine set_of_ints (P := X.prog) (w := X.w) ns (I.ok.hd hc) pl.isList (by simpa using RZ.intsAre_vals rv) (by unfold scanBound; omega) fun g tk c R hcl k => ?_
  exact ⟨.ref s.heap.objs.size, upd H s.heap.objs.size (SetO X.w s.heap.objs.size (fun j => decide (j ∈ ns)) c), I.laid (t' := tk) k (Nat.le_refl _) (setO_new R), rfl, q _ c hn hcl⟩
end
end TW
set_option Elab.async false
set_option linter.all false
set_option maxRecDepth 100000
namespace TW
open PySem PySem.Spec PyProof.Rows L2
section
variable {X : Cx} {K : PySem.W.Frag}
def rIxA (K : PySem.W.Frag) : R2 := fun x y H Q => rIxL K x y H Q ∨ rIxT K x y H Q
theorem ix_any (h : X.K = K := by rfl) : IxR X (rIxA K) := by
  subst h
  exact IxR.or ix_list ix_tup
theorem op_inK (h : X.K = K := by rfl) : OpR X (compareOp .In) (rIn K false) := by
  subst h
  exact op_in_seq
theorem op_notInK (h : X.K = K := by rfl) : OpR X (compareOp .NotIn) (rIn K true) := by
  subst h
  exact op_notIn_seq
def rTupOf (K : PySem.W.Frag) : List V → Hp → VK → Prop := fun xs H Q => ∃ p ys, xs = [.ref p] ∧ ((SqL K H p ys ∧ ∀ l, H l = none → Q (.ref l) (upd H l (.tup ys))) ∨ (SqT K H p ys ∧ Q (.ref p) H))
theorem call_tupleK (h : X.K = K := by rfl) : CallR X (.type "tuple") (rTupOf K) := by
  subst h
  exact call_tuple_of
def rLenOf (K : PySem.W.Frag) : List V → Hp → VK → Prop := fun xs H Q => ∃ p ys, xs = [.ref p] ∧ (SqL K H p ys ∨ SqT K H p ys) ∧ Q (.int ys.length) H
theorem call_lenK (h : X.K = K := by rfl) : CallR X (.builtin "len") (rLenOf K) := by
  subst h
  exact call_len_seq
def rListOf (K : PySem.W.Frag) : List V → Hp → VK → Prop := fun xs H Q => ∃ p ys, xs = [.ref p] ∧ (SqL K H p ys ∨ SqT K H p ys) ∧ ∀ l, H l = none → Q (.ref l) (upd H l (.lst ys))
theorem call_listK (h : X.K = K := by rfl) : CallR X (.type "list") (rListOf K) := by
  subst h
  exact call_list_of
theorem cr_allK (hc : X.calm = true) (h : X.K = K := by rfl) : CallR X (.builtin "all") (rAll K) := by
  subst h
  exact cr_all hc
theorem cr_setK {w : World} (hc : X.calm = true) (h : X.K = K := by rfl) (hw : X.w = w := by rfl) : CallR X (.type "set") (rSetI K w) := by
  subst h
  subst hw
  exact cr_setI hc
theorem cr_sortedSetK {w : World} (hc : X.calm = true) (hw : X.w = w := by rfl) : CallR X (.builtin "sorted") (rSortedSet w) := by
  subst hw
  exact cr_sortedSet hc
theorem cr_anyK (hc : X.calm = true) (h : X.K = K := by rfl) : CallR X (.builtin "any") (rAny K) := by
  subst h
  exact cr_any hc
end
end TW
set_option maxRecDepth 100000
namespace TW
open PySem PySem.Spec PyProof.Rows L2
def topS (i : Nat) : Stmt := PySem.Challenge.pw_thingwise_k77_places_taken_out.main.body.getD i (.Pass ⟨0, 0, 0, 0⟩)
abbrev s_is_integer : Stmt := topS 8
abbrev s_is_place : Stmt := topS 9
abbrev s_is_told_tie : Stmt := topS 10
abbrev s_check_places : Stmt := topS 11
abbrev s_check_place : Stmt := topS 12
abbrev s_Web_init : Stmt := inClass (topS 14) 0
abbrev s_Web_places : Stmt := inClass (topS 14) 1
abbrev s_Web_ties : Stmt := inClass (topS 14) 2
abbrev s_Web_len : Stmt := inClass (topS 14) 3
abbrev s_Web_iter : Stmt := inClass (topS 14) 4
abbrev s_Web_eq : Stmt := inClass (topS 14) 5
abbrev s_Web_add : Stmt := inClass (topS 14) 6
abbrev s__joined_ties : Stmt := topS 15
abbrev s_check_web : Stmt := topS 16
abbrev s_ends_of : Stmt := topS 17
abbrev s_take_out : Stmt := topS 19
abbrev s__ties_at : Stmt := topS 20
abbrev s__lowered : Stmt := topS 21
abbrev s__ties_instead : Stmt := topS 22
abbrev s__triangle : Stmt := topS 23
abbrev s__law_draws_of : Stmt := topS 25
abbrev s__law_dip : Stmt := topS 26
abbrev s__law_same : Stmt := topS 27
abbrev s__law_mixed : Stmt := topS 28
abbrev s__law_retold : Stmt := topS 29
abbrev s__law_summed : Stmt := topS 30
abbrev s__law_places_drawn : Stmt := topS 31
abbrev s__law_some_ties : Stmt := topS 32
abbrev s__law_cut_due : Stmt := topS 33
abbrev s__law_net_is : Stmt := topS 34
abbrev s__law_outline_due : Stmt := topS 35
abbrev s__law_shadow : Stmt := topS 36
abbrev s__law_degree : Stmt := topS 37
abbrev s__law_taken : Stmt := topS 38
abbrev s__law_fine_rest : Stmt := topS 39
abbrev s_law : Stmt := topS 40
end TW
set_option Elab.async false
set_option linter.all false
set_option maxRecDepth 100000
set_option maxHeartbeats 4000000
namespace TW
open PySem PySem.Spec PyProof.Rows L2
structure Z (mg : Str → Option Value) : Prop where
  len : mg "len" = none
  int : mg "int" = none
  all : mg "all" = none
  sorted : mg "sorted" = none
  tuple : mg "tuple" = none
  list : mg "list" = none
  set : mg "set" = none
  type : mg "type" = none
  isinstance : mg "isinstance" = none
  zip : mg "zip" = none
  range : mg "range" = none
  bool : mg "bool" = none
  any : mg "any" = none
  iter : mg "iter" = none
  property : mg "property" = none
section
variable {P : Program} {w : World} {K : PySem.W.Frag} {mg : Str → Option Value} {base : Heap}
theorem pe_tyn {X : Cx} {n : String} {p : Pos} (hg : Gl X (Str.ofString n)) (hm : X.mg (Str.ofString n) = none) (hv : bootBuiltins (Str.ofString n) = some (.type n)) (hn : Str.ofString n ≠ "__name__" := by decide) (hd : (Str.ofString n == ("__debug__" : Str)) = false := by decide) : PE X (.Name (Str.ofString n) p) (tC (.ty n)) := pe_bltn hg hm hv rfl hn hd
/-! is_integer, of ints -/
theorem sc_is_integer : FnScope ["value", "least"] ["value", "least"] (defScope s_is_integer) := ⟨rfl, rfl, rfl, by decide +kernel, rfl, by decide +kernel, by decide +kernel⟩
def spIsInt : Sp := fun vs H Q _ => ∃ i l : Int, vs = [.int i, .int l] ∧ Q (.bl (decide (l ≤ i))) H
theorem ok_is_integer (D : Dfn K mg "is_integer" s_is_integer ["value", "least"]) (z : Z mg) : Ok P w K mg base 1 "is_integer" ["value", "least"] spIsInt := D.ok fun f fd F => by
  refine F.ok sc_is_integer (fun vs H Q E h => ?_) (fun cdv A outer s H vs Q E hr h => ?_)
  · obtain ⟨i, l, rfl, _⟩ := h
    rfl
  · obtain ⟨i, l, rfl, q⟩ := h
    refine ⟨_, (pss_one (ps_ret (pe_and (pe_cmpR op_isTy (pe_callTy call_type1 (by rfl) z.type (by decide +kernel) (pa_cons (pv 0) pa_nil)) (pe_tyn (n := "int") (by rfl) z.int (by decide +kernel)) (nomark _)) (pe_one (pe_cmpR op_ge (pv 0) (pv 1) (nomark _)))))), ?_⟩
    exact ⟨_, rfl, _, _, rfl, .int i, _, _, rfl, rfl, _, rfl, _, rfl, _, rfl, _, _, rfl, rfl, q⟩

/-! is_thing -/
def thV : Option Int → V
  | none => .non
  | some n => .int n
def inThings (i : Int) : Option Int → Bool
  | none => true
  | some n => decide (i < n)
def spIsThing : Sp := fun vs H Q _ => ∃ (i : Int) (t : Option Int), vs = [.int i, thV t] ∧ Q (.bl (decide (0 ≤ i) && inThings i t)) H
/-! is_ascending, of a tuple of ints -/
def adj (ns : List Int) : List Bool := List.zipWith (fun x y => decide (x < y)) ns (ns.drop 1)
theorem adj_len (ns : List Int) : (adj ns).length = min (ns.map V.int).length ((ns.drop 1).map V.int).length := by
  unfold adj
  rw [List.length_zipWith, List.length_map, List.length_map]
theorem adj_get {ns : List Int} {i : Nat} {x y : V} (h1 : (ns.map V.int)[i]? = some x) (h2 : ((ns.drop 1).map V.int)[i]? = some y) : ∃ p q, x = .int p ∧ y = .int q ∧ (adj ns)[i]? = some (decide (p < q)) := by
  rw [List.getElem?_map] at h1 h2
  cases e1 : ns[i]? with
  | none => rw [e1] at h1; cases h1
  | some p =>
    cases e2 : (ns.drop 1)[i]? with
    | none => rw [e2] at h2; cases h2
    | some q =>
      rw [e1] at h1
      rw [e2] at h2
      refine ⟨p, q, (Option.some.inj h1).symm, (Option.some.inj h2).symm, ?_⟩
      unfold adj
      rw [List.getElem?_zipWith, e1, e2]
def asc : List Int → Bool
  | x :: y :: r => decide (x < y) && asc (y :: r)
  | _ => true
theorem adj_asc : ∀ ns : List Int, (adj ns).all id = asc ns
  | [] => rfl
  | [_] => rfl
  | x :: y :: r => by
    have ih := adj_asc (y :: r)
    show (decide (x < y) && (adj (y :: r)).all id) = (decide (x < y) && asc (y :: r))
    rw [ih]
def spIsAsc (K : PySem.W.Frag) : Sp := fun vs H Q _ => ∃ (t : Addr) (ns : List Int), vs = [.ref t] ∧ SqT K H t (ns.map V.int) ∧ ns.length ≤ 1000 ∧ ∀ H', Ex H H' → Q (.bl (asc ns)) H'
/-! is_lot, of a tuple of ints -/
def isLot (ns : List Int) (t : Option Int) : Bool := (ns.all fun n => decide (0 ≤ n) && inThings n t) && asc ns
def spIsLot (K : PySem.W.Frag) : Sp := fun vs H Q _ => ∃ (a : Addr) (ns : List Int) (t : Option Int), vs = [.ref a, thV t] ∧ SqT K H a (ns.map V.int) ∧ ns.length ≤ 1000 ∧ ∀ H', Ex H H' → Q (.bl (isLot ns t)) H'
end
end TW
set_option Elab.async false
set_option linter.all false
set_option maxRecDepth 100000
set_option maxHeartbeats 4000000
namespace TW
open PySem PySem.Spec PyProof.Rows L2
section
variable {P : Program} {w : World} {K : PySem.W.Frag} {mg : Str → Option Value} {base : Heap}
/-! _law_draws_of -/
def wl (a b c : Int) : HO := .lst [.int a, .int b, .int c]
theorem sc_law_draws_of : FnScope ["cell"] ["cell"] (defScope s__law_draws_of) := ⟨rfl, rfl, rfl, by decide +kernel, rfl, by decide +kernel, by decide +kernel⟩
def spDraws : Sp := fun vs H Q _ => ∃ c : Int, vs = [.int c] ∧ ∀ p, H p = none → ∀ a b : Int, 0 ≤ a → 0 ≤ b → b < 2 ^ 81 → Q (.ref p) (upd H p (wl a 0 b))
theorem ok_draws (D : Dfn K mg "_law_draws_of" s__law_draws_of ["cell"]) (z : Z mg) : Ok P w K mg base 1 "_law_draws_of" ["cell"] spDraws := D.ok fun f fd F => by
  refine F.ok sc_law_draws_of (fun vs H Q E h => ?_) (fun cdv A outer s H vs Q E hr h => ?_)
  · obtain ⟨c, rfl, _⟩ := h
    rfl
  · obtain ⟨c, rfl, q⟩ := h
    refine ⟨_, (pss_cons (ps_if (pt_cmpR op_ge (pv 0) (pe_op op_pow pe_int pe_int) (nomark _)) (pss_one (ps_ret (pe_lst (pa_cons (pe_op op_sub (pv 0) (pe_op op_pow pe_int pe_int)) (pa_cons pe_int (pa_cons (pe_op op_mod (pe_callTy call_int1 (by rfl) z.int (by decide +kernel) (pa_cons (pv 0) pa_nil)) pe_int) pa_nil)))))) pss_nil)
      (pss_one (ps_ret (pe_lst (pa_cons pe_int (pa_cons pe_int (pa_cons (pe_op op_mod (pe_callTy call_int1 (by rfl) z.int (by decide +kernel) (pa_cons (pv 0) pa_nil)) (pe_op op_add (pe_op op_pow pe_int pe_int) pe_int)) pa_nil))))))), ?_⟩
    have p18 : CPow 10 18 := ⟨by decide, by decide, by decide⟩
    have p24 : CPow 10 24 := ⟨by decide, by decide, by decide⟩
    refine ⟨_, rfl, _, _, rfl, rfl, p18, _, _, rfl, rfl, _, rfl, ?_⟩
    refine ite2 (fun hc => ?_) (fun hc => ?_)
    · have hc' : (10 : Int) ^ (18 : Int).toNat ≤ c := of_decide_eq_true hc
      refine ⟨_, rfl, _, _, rfl, rfl, p18, _, _, rfl, rfl, _, rfl, .inl ⟨_, rfl, _, _, rfl, rfl, (show (0 : Int) < 1000003 by decide), sz (by show 3 ≤ 100000; decide), fun p hp => ?_⟩⟩
      exact q p hp _ _ (by omega) (Int.emod_nonneg _ (by decide)) (Int.lt_trans (Int.emod_lt_of_pos _ (by decide)) (by decide))
    · refine ⟨_, rfl, .inl ⟨_, rfl, _, _, rfl, rfl, p24, _, _, rfl, rfl, _, _, rfl, rfl, (show (0 : Int) < 10 ^ Int.toNat 24 + 7 by decide), sz (by show 3 ≤ 100000; decide), fun p hp => ?_⟩⟩
      exact q p hp 0 _ (by decide) (Int.emod_nonneg _ (by decide)) (Int.lt_trans (Int.emod_lt_of_pos _ (by decide)) (by decide))
/-! _law_dip -/
theorem sc_law_dip : FnScope ["well", "upto", "drawn", "count", "churn"] ["well", "upto"] (defScope s__law_dip) := ⟨rfl, rfl, rfl, by decide +kernel, rfl, by decide +kernel, by decide +kernel⟩
def spDip : Sp := fun vs H Q _ => ∃ (p : Addr) (n a b c : Int), vs = [.ref p, .int n] ∧ H p = some (wl a b c) ∧ 0 < n ∧ n < 2 ^ 200 ∧ 0 ≤ a ∧ 0 ≤ b ∧ b < 2 ^ 60 ∧ 0 ≤ c ∧ c < 2 ^ 81 ∧
  ∀ r a' b' : Int, 0 ≤ r → r < n → 0 ≤ a' → b ≤ b' → b' ≤ b + 1 → Q (.int r) (upd H p (wl a' b' c))
theorem nab {x : Int} {k : Nat} (h0 : 0 ≤ x) (h : x < 2 ^ k) : x.natAbs < 2 ^ k := by
  have e : ((2 ^ k : Nat) : Int) = (2 : Int) ^ k := by simp
  omega
theorem ok_dip (D : Dfn K mg "_law_dip" s__law_dip ["well", "upto"]) (z : Z mg) : Ok P w K mg base 1 "_law_dip" ["well", "upto"] spDip := D.ok fun f fd F => by
  refine F.ok sc_law_dip (fun vs H Q E h => ?_) (fun cdv A outer s H vs Q E hr h => ?_)
  · obtain ⟨p, n, a, b, c, rfl, _⟩ := h
    rfl
  · obtain ⟨p, n, a, b, c, rfl, hp, n0, n1, a0, b0, b1, c0, c1, q⟩ := h
    refine ⟨_, (pss_cons (ps_if (pt_cmpR op_gt (pe_ix ix_list (pv 0) pe_int (fun _ _ => rfl)) pe_int (nomark _)) (pss_cons (ps_set (i := 2) sc_law_dip.nd rfl (Or.inl rfl) (pe_op op_mod (pe_callTy call_int1 (by rfl) z.int (by decide +kernel) (pa_cons (pe_ix ix_list (pv 0) pe_int (fun _ _ => rfl)) pa_nil)) (pv 1)))
      (pss_cons (ps_asg (pe_op op_fdivW (pe_ix ix_list (pv 0) pe_int (fun _ _ => rfl)) (pv 1)) (pg_sub (pv 0) pe_int set_list))
      (pss_one (ps_ret (pv 2))))) pss_nil)
      (pss_cons (ps_asg (pe_op op_add (pe_ix ix_list (pv 0) pe_int (fun _ _ => rfl)) pe_int) (pg_sub (pv 0) pe_int set_list))
      (pss_cons (ps_set (i := 3) sc_law_dip.nd rfl (Or.inl rfl) (pe_ix ix_list (pv 0) pe_int (fun _ _ => rfl)))
      (pss_cons (ps_set (i := 4) sc_law_dip.nd rfl (Or.inl rfl) (pe_op op_add (pe_op op_mul (pe_op op_add (pe_ix ix_list (pv 0) pe_int (fun _ _ => rfl)) pe_int) (pe_op op_add pe_int (pe_op op_mul pe_int (pv 3)))) (pe_op op_mul (pe_op op_mul pe_int (pv 3)) (pv 3))))
      (pss_cons (ps_set (i := 4) sc_law_dip.nd rfl (Or.inl rfl) (pe_op op_mul (pe_op op_mod (pe_callTy call_int1 (by rfl) z.int (by decide +kernel) (pa_cons (pe_op op_mulW (pv 4) (pv 4)) pa_nil)) pe_int) pe_int))
      (pss_one (ps_ret (pe_op op_mod (pe_callTy call_int1 (by rfl) z.int (by decide +kernel) (pa_cons (pe_op op_fdiv (pe_op op_mod (pe_callTy call_int1 (by rfl) z.int (by decide +kernel) (pa_cons (pv 4) pa_nil)) pe_int) pe_int) pa_nil)) (pv 1))))))))), ?_⟩
    have n9 : CDivW a n := wide_div (b := 200) n0 (nab (Int.le_of_lt n0) n1) (by decide) (by decide)
    refine ⟨_, rfl, p, _, _, _, rfl, rfl, Evl.sq_of hp, rfl, _, _, rfl, rfl, _, rfl, ?_⟩
    refine ite2 (fun hc => ?_) (fun hc => ?_)
    · refine ⟨_, rfl, p, _, _, _, rfl, rfl, Evl.sq_of hp, rfl, .inl ⟨_, rfl, _, rfl, _, _, rfl, rfl, n0, ?_⟩⟩
      refine ⟨_, rfl, p, _, _, _, rfl, rfl, Evl.sq_of hp, rfl, _, rfl, _, _, rfl, rfl, n9, _, rfl, p, _, _, 0, rfl, rfl, hp, rfl, _, rfl, ?_⟩
      exact q _ _ b (Int.emod_nonneg _ (by omega)) (Int.emod_lt_of_pos _ n0) (Int.ediv_nonneg a0 (Int.le_of_lt n0)) (Int.le_refl _) (by omega)
    · refine ⟨_, rfl, p, _, _, _, rfl, rfl, Evl.sq_of hp, rfl, _, _, rfl, rfl, _, rfl, p, _, _, 1, rfl, rfl, hp, rfl, ?_⟩
      refine ⟨_, rfl, p, _, _, _, rfl, rfl, Evl.sq_of upd_same, rfl, ?_⟩
      refine ⟨_, rfl, p, _, _, _, rfl, rfl, Evl.sq_of upd_same, rfl, _, _, rfl, rfl, _, rfl, _, _, rfl, rfl, ?_⟩
      have m1 : CMul 2 (b + 1) := .inl ⟨by decide, by decide⟩
      have m2 : CMul (c + 1) (48611 + 2 * (b + 1)) := .inr ⟨by omega, by omega⟩
      have m3 : CMul 1299709 (b + 1) := .inl ⟨by decide, by decide⟩
      have m4 : CMul (1299709 * (b + 1)) (b + 1) := .inr ⟨by omega, by omega⟩
      have q1 : ((c + 1) * (48611 + 2 * (b + 1))).natAbs < 2 ^ (82 + 64) := wide_lt (nab (by omega) (by omega)) (nab (by omega) (by omega))
      have q2 : (1299709 * (b + 1) * (b + 1)).natAbs < 2 ^ (100 + 64) := wide_lt (nab (by omega) (by omega)) (nab (by omega) (by omega))
      have q3 : ((c + 1) * (48611 + 2 * (b + 1)) + 1299709 * (b + 1) * (b + 1)).natAbs < 2 ^ 200 := by
        have e1 : (2 : Nat) ^ (82 + 64) = 89202980794122492566142873090593446023921664 := by decide
        have e2 : (2 : Nat) ^ (100 + 64) = 23384026197294446691258957323460528314494920687616 := by decide
        have e3 : (2 : Nat) ^ 200 = 1606938044258990275541962092341162602522202993782792835301376 := by decide
        rw [e1] at q1
        rw [e2] at q2
        rw [e3]
        omega
      have m5 : CMulW ((c + 1) * (48611 + 2 * (b + 1)) + 1299709 * (b + 1) * (b + 1)) ((c + 1) * (48611 + 2 * (b + 1)) + 1299709 * (b + 1) * (b + 1)) := wide_mul q3 q3 (by decide) (by decide) (by decide)
      refine ⟨m1, _, _, rfl, rfl, _, _, rfl, rfl, m2, _, rfl, _, _, rfl, rfl, m3, _, rfl, _, _, rfl, rfl, m4, _, _, rfl, rfl, ?_⟩
      refine ⟨_, rfl, _, rfl, _, _, rfl, rfl, m5, .inl ⟨_, rfl, _, _, rfl, rfl, (show (0 : Int) < 2305843009213693951 by decide), _, _, rfl, rfl, .inr ⟨by decide, by decide⟩, ?_⟩⟩
      refine ⟨_, rfl, .inl ⟨_, rfl, _, _, rfl, rfl, (show (0 : Int) < 1000000000000000003 by decide), _, _, rfl, rfl, ⟨by decide, by decide⟩, .inl ⟨_, rfl, _, rfl, _, _, rfl, rfl, n0, ?_⟩⟩⟩

      exact q _ a (b + 1) (Int.emod_nonneg _ (by omega)) (Int.emod_lt_of_pos _ n0) a0 (by omega) (Int.le_refl _)
end
end TW
set_option Elab.async false
set_option linter.all false
set_option maxRecDepth 100000
set_option maxHeartbeats 4000000
namespace TW
open PySem PySem.Spec PyProof.Rows L2
section
variable {P : Program} {w : World} {K : PySem.W.Frag} {mg : Str → Option Value} {base : Heap}
/-! _law_same, of equal data -/
def isFlat : V → Bool
  | .non => true
  | .bl _ => true
  | .int _ => true
  | .str _ => true
  | _ => false
def Rep : Nat → Hp → V → V → Prop
  | 0, _, x, y => x = y ∧ isFlat x = true
  | n + 1, H, x, y => (x = y ∧ isFlat x = true) ∨ ∃ (a b : Addr) (xs ys : List V), x = .ref a ∧ y = .ref b ∧ ((H a = some (.lst xs) ∧ H b = some (.lst ys)) ∨ (H a = some (.tup xs) ∧ H b = some (.tup ys))) ∧
      xs.length = ys.length ∧ ys.length ≤ 10000 ∧ ∀ (i : Nat) x y, xs[i]? = some x → ys[i]? = some y → Rep n H x y
theorem Rep.mono : ∀ {n : Nat} {H H' : Hp} {x y : V}, Ex H H' → Rep n H x y → Rep n H' x y
  | 0, _, _, _, _, _, h => h
  | n + 1, H, H', x, y, e, h => by
    rcases h with h | ⟨a, b, xs, ys, h1, h2, h3, h4, h5, h6⟩
    · exact .inl h
    · refine .inr ⟨a, b, xs, ys, h1, h2, ?_, h4, h5, fun i x y hx hy => Rep.mono e (h6 i x y hx hy)⟩
      rcases h3 with ⟨p, q⟩ | ⟨p, q⟩
      · exact .inl ⟨e _ _ p, e _ _ q⟩
      · exact .inr ⟨e _ _ p, e _ _ q⟩
theorem Rep.flat {n : Nat} {H : Hp} {x : V} (h : isFlat x = true) : Rep n H x x := by
  cases n with
  | zero => exact ⟨rfl, h⟩
  | succ n => exact .inl ⟨rfl, h⟩
theorem sc_law_same : FnScope ["given", "due", "k"] ["given", "due"] (defScope s__law_same) := ⟨rfl, rfl, rfl, by decide +kernel, rfl, by decide +kernel, by decide +kernel⟩
def spSame (n : Nat) : Sp := fun vs H Q _ => ∃ x y : V, vs = [x, y] ∧ Rep n H x y ∧ ∀ H', Ex H H' → Q (.bl true) H'
theorem kit_ll : PySem.W.kitOne K (.type "list") (.type "list") = some true := kit_ty (by decide +kernel)
theorem kit_lt : PySem.W.kitOne K (.type "list") (.type "tuple") = some false := kit_ty (by decide +kernel)
theorem kit_tl : PySem.W.kitOne K (.type "tuple") (.type "list") = some false := kit_ty (by decide +kernel)
theorem kit_tt : PySem.W.kitOne K (.type "tuple") (.type "tuple") = some true := kit_ty (by decide +kernel)
theorem kit_any2 {a : String} {b1 b2 : Bool} (h1 : PySem.W.kitOne K (.type a) (.type "list") = some b1) (h2 : PySem.W.kitOne K (.type a) (.type "tuple") = some b2) : PySem.W.kitAny K (.type a) [.type "list", .type "tuple"] = some (b1 || b2) := by
  unfold PySem.W.kitAny
  rw [h1]
  cases b1 with
  | true => rfl
  | false =>
    unfold PySem.W.kitAny
    rw [h2]
    cases b2 <;> rfl
theorem ok_same_body {f : Addr} {fd : FuncData} (F : Fun K "_law_same" "_law_same" s__law_same f fd) (z : Z mg) (n : Nat) (O_law_same : Ok P w K mg base n "_law_same" ["given", "due"] (match n with | 0 => fun _ _ _ _ => False | m + 1 => spSame m)) : FnOk P w K mg base CX0 (n + 1) f fd ["given", "due"] (spSame n) := by
  refine F.ok sc_law_same (fun vs H Q E h => ?_) (fun cdv A outer s H vs Q E hr h => ?_)
  · obtain ⟨x, y, rfl, _⟩ := h
    rfl
  · obtain ⟨x, y, rfl, hR, q⟩ := h
    refine ⟨_, (pss_cons (ps_if (pt_val (pe_callB call_isiT (by rfl) z.isinstance (by decide +kernel) (pa_cons (pv 1) (pa_cons (pe_tup (pa_cons (pe_tyn (n := "list") (by rfl) z.list (by decide +kernel)) (pa_cons (pe_tyn (n := "tuple") (by rfl) z.tuple (by decide +kernel)) pa_nil))) pa_nil))))
      (pss_cons (ps_if (PW.pt (pw_or (pt_cmpR op_ne (pe_callB call_isi (by rfl) z.isinstance (by decide +kernel) (pa_cons (pv 0) (pa_cons (pe_tyn (n := "list") (by rfl) z.list (by decide +kernel)) pa_nil))) (pe_callB call_isi (by rfl) z.isinstance (by decide +kernel) (pa_cons (pv 1) (pa_cons (pe_tyn (n := "list") (by rfl) z.list (by decide +kernel)) pa_nil))) (nomark _))
          (pw_or1 (pt_cmpR op_ne (pe_callB call_isi (by rfl) z.isinstance (by decide +kernel) (pa_cons (pv 0) (pa_cons (pe_tyn (n := "tuple") (by rfl) z.tuple (by decide +kernel)) pa_nil))) (pe_callB call_isi (by rfl) z.isinstance (by decide +kernel) (pa_cons (pv 1) (pa_cons (pe_tyn (n := "tuple") (by rfl) z.tuple (by decide +kernel)) pa_nil))) (nomark _))))) (pss_one (ps_ret pe_bl)) pss_nil)
      (pss_cons (ps_if (pt_cmpR op_ne (pe_callB call_len_seq (by rfl) z.len PySem.boot_len (pa_cons (pv 0) pa_nil)) (pe_callB call_len_seq (by rfl) z.len PySem.boot_len (pa_cons (pv 1) pa_nil)) (nomark _)) (pss_one (ps_ret pe_bl)) pss_nil)
      (pss_one (ps_ret (pe_callB (cr_all rfl) (by rfl) z.all (by decide +kernel) (pa_cons (pe_lc (own := [("k", 2)]) (g := gName 2) rfl sc_law_same.nd (pi_range1 (by rfl) z.range (pa_cons (pe_callB call_len_seq (by rfl) z.len PySem.boot_len (pa_cons (pv 1) pa_nil)) pa_nil)) (blkOk_by (N := ["given", "due", "k"]) (own := [("k", 2)]) (sc := defScope s__law_same) (by decide +kernel)) (fun _ _ _ _ _ => pg_name (i := 2) sc_law_same.nd rfl (Or.inl rfl)) (fun _ _ _ _ _ => pts_nil) (fun _ _ _ _ _ => (pe_o O_law_same hr (pa_cons (pe_ix (ix_any (K := K)) (pv 0) (pv 2) (fun _ _ => rfl)) (pa_cons (pe_ix (ix_any (K := K)) (pv 1) (pv 2) (fun _ _ => rfl)) pa_nil))))) pa_nil)))))) pss_nil)
      (pss_cons (ps_if (PW.pt (pw_or (pt_val (pe_callB call_isiT (by rfl) z.isinstance (by decide +kernel) (pa_cons (pv 0) (pa_cons (pe_tup (pa_cons (pe_tyn (n := "list") (by rfl) z.list (by decide +kernel)) (pa_cons (pe_tyn (n := "tuple") (by rfl) z.tuple (by decide +kernel)) pa_nil))) pa_nil))))
          (pw_or1 (pt_cmpR op_ne (pe_callB call_isi (by rfl) z.isinstance (by decide +kernel) (pa_cons (pv 0) (pa_cons (pe_tyn (n := "bool") (by rfl) z.bool (by decide +kernel)) pa_nil))) (pe_callB call_isi (by rfl) z.isinstance (by decide +kernel) (pa_cons (pv 1) (pa_cons (pe_tyn (n := "bool") (by rfl) z.bool (by decide +kernel)) pa_nil))) (nomark _))))) (pss_one (ps_ret pe_bl)) pss_nil)
      (pss_cons (ps_if (pt_cmpR op_isN (pv 1) pe_non (nomark _)) (pss_one (ps_ret (pe_cmpR op_isN (pv 0) pe_non (nomark _)))) pss_nil)
      (pss_one (ps_ret (pe_cmpR op_eq (pv 0) (pv 1) (nomark _))))))), ?_⟩
    have hcase : (x = y ∧ isFlat x = true) ∨ ∃ m, n = m + 1 ∧ ∃ (a b : Addr) (xs ys : List V), x = .ref a ∧ y = .ref b ∧ ((H a = some (.lst xs) ∧ H b = some (.lst ys)) ∨ (H a = some (.tup xs) ∧ H b = some (.tup ys))) ∧
      xs.length = ys.length ∧ ys.length ≤ 10000 ∧ ∀ (i : Nat) x y, xs[i]? = some x → ys[i]? = some y → Rep m H x y := by
      cases n with
      | zero => exact .inl hR
      | succ m =>
        rcases hR with h | h
        · exact .inl h
        · exact .inr ⟨m, rfl, h⟩
    have s2 : [V.ty "list", V.ty "tuple"].length ≤ sizeLine := sz (by show 2 ≤ 100000; decide)
    have pr : Paired ClsV [V.ty "list", V.ty "tuple"] [.type "list", .type "tuple"] := .cons (.ty _) (.cons (.ty _) .nil)
    rcases hcase with ⟨rfl, hf⟩ | ⟨m, rfl, a, b, xs, ys, rfl, rfl, h3, h4, h5, h6⟩
    · obtain ⟨T, kb, ty, kl, kt, hb⟩ : ∃ T kb, (∀ H', TyX K H' x (.type T)) ∧ PySem.W.kitOne K (.type T) (.type "list") = some false ∧ PySem.W.kitOne K (.type T) (.type "tuple") = some false ∧ PySem.W.kitOne K (.type T) (.type "bool") = some kb := by
        cases x with
        | non => exact ⟨"NoneType", false, fun _ => .base .non, kit_ty (by decide +kernel), kit_ty (by decide +kernel), kit_ty (by decide +kernel)⟩
        | bl v => exact ⟨"bool", true, fun _ => .base (.bl v), kit_ty (by decide +kernel), kit_ty (by decide +kernel), kit_ty (by decide +kernel)⟩
        | int v => exact ⟨"int", false, fun _ => .base (.int v), kit_ty (by decide +kernel), kit_ty (by decide +kernel), kit_ty (by decide +kernel)⟩
        | str v => exact ⟨"str", false, fun _ => .base (.str v), kit_ty (by decide +kernel), kit_ty (by decide +kernel), kit_ty (by decide +kernel)⟩
        | byt v => exact absurd (show false = true from hf) Bool.false_ne_true
        | flt v => exact absurd (show false = true from hf) Bool.false_ne_true
        | ref v => exact absurd (show false = true from hf) Bool.false_ne_true
        | ty v => exact absurd (show false = true from hf) Bool.false_ne_true
      refine ⟨_, rfl, s2, fun tp htp => ⟨x, tp, _, _, _, false, rfl, upd_same, pr, ty _, kit_any2 kl kt, _, rfl, ?_⟩⟩
      refine ⟨_, rfl, s2, fun tp2 htp2 => ⟨x, tp2, _, _, _, false, rfl, upd_same, pr, ty _, kit_any2 kl kt, _, rfl, ?_⟩⟩
      have ex2 : Ex H (upd (upd H tp (.tup [V.ty "list", V.ty "tuple"])) tp2 (.tup [V.ty "list", V.ty "tuple"])) := (Evl.Ex.new htp).trans (Evl.Ex.new htp2)
      refine ⟨_, rfl, x, _, _, _, kb, rfl, .ty _, ty _, hb, _, rfl, x, _, _, _, kb, rfl, .ty _, ty _, hb, rfl, _, rfl, ?_⟩
      rw [decide_eq_true (rfl : V.bl kb = V.bl kb)]
      refine ⟨_, rfl, rfl, _, rfl, ?_⟩
      refine ite2 (fun hn => ?_) (fun hn => ?_)
      · refine ⟨_, rfl, rfl, ?_⟩
        rw [hn]
        exact q _ ex2
      · refine ⟨_, rfl, _, rfl, ?_, ?_⟩
        · cases x with
          | non => rfl
          | bl v => rfl
          | int v => rfl
          | str v => rfl
          | byt v => exact absurd (show false = true from hf) Bool.false_ne_true
          | flt v => exact absurd (show false = true from hf) Bool.false_ne_true
          | ref v => exact absurd (show false = true from hf) Bool.false_ne_true
          | ty v => exact absurd (show false = true from hf) Bool.false_ne_true
        · rw [decide_eq_true (rfl : x = x)]
          exact q _ ex2
    · obtain ⟨T, kb, tb, tya, tyb, kl, kt, hlen, hia, hib⟩ : ∃ T kb tb, (∀ H', Ex H H' → TyX K H' (.ref a) (.type T)) ∧ (∀ H', Ex H H' → TyX K H' (.ref b) (.type T)) ∧ PySem.W.kitOne K (.type T) (.type "list") = some kb ∧ PySem.W.kitOne K (.type T) (.type "tuple") = some tb ∧ (kb || tb) = true ∧
          (∀ H', Ex H H' → SqL K H' a xs ∨ SqT K H' a xs) ∧ (∀ H', Ex H H' → SqL K H' b ys ∨ SqT K H' b ys) := by
        rcases h3 with ⟨ha, hb⟩ | ⟨ha, hb⟩
        · exact ⟨"list", true, false, fun H' e => .base (.lst (e _ _ ha)), fun H' e => .base (.lst (e _ _ hb)), kit_ll, kit_lt, rfl, fun H' e => .inl (Evl.sq_of (e _ _ ha)), fun H' e => .inl (Evl.sq_of (e _ _ hb))⟩
        · exact ⟨"tuple", false, true, fun H' e => .base (.tup (e _ _ ha)), fun H' e => .base (.tup (e _ _ hb)), kit_tl, kit_tt, rfl, fun H' e => .inr (Evl.st_of (e _ _ ha)), fun H' e => .inr (Evl.st_of (e _ _ hb))⟩
      refine ⟨_, rfl, s2, fun tp htp => ⟨_, tp, _, _, _, _, rfl, upd_same, pr, tyb _ (Evl.Ex.new htp), kit_any2 kl kt, _, rfl, ?_⟩⟩
      rw [hlen]
      have e1 : Ex H (upd H tp (.tup [V.ty "list", V.ty "tuple"])) := Evl.Ex.new htp
      refine ⟨_, rfl, _, _, _, _, kb, rfl, .ty _, tya _ e1, kl, _, rfl, _, _, _, _, kb, rfl, .ty _, tyb _ e1, kl, rfl, _, rfl, ?_⟩
      rw [decide_eq_true (rfl : V.bl kb = V.bl kb)]
      refine ⟨_, rfl, _, _, _, _, tb, rfl, .ty _, tya _ e1, kt, _, rfl, _, _, _, _, tb, rfl, .ty _, tyb _ e1, kt, rfl, _, rfl, ?_⟩
      rw [decide_eq_true (rfl : V.bl tb = V.bl tb)]
      refine ⟨_, rfl, a, xs, rfl, hia _ e1, _, rfl, b, ys, rfl, hib _ e1, rfl, _, rfl, ?_⟩
      rw [h4, decide_eq_true (rfl : V.int ((ys.length : Nat) : Int) = V.int ((ys.length : Nat) : Int))]
      refine ⟨_, rfl, b, ys, rfl, hib _ e1, ((ys.length : Nat) : Int), rfl, by omega, by omega, fun Dl hD => ?_⟩
      have en : ((ys.length : Nat) : Int).toNat = ys.length := by omega
      rw [en]
      refine lc_range (lo := 0) (n := ys.length) (fun i H' => Ex H H' ∧ H' Dl = some (.lst ((List.replicate i true).map V.bl))) ⟨e1.trans (Evl.Ex.new hD), by rw [upd_same]; rfl⟩ ?_ ?_
      · rintro i H2 hi ⟨e2, hL⟩
        have nD : H Dl = none := Evl.fresh_back e1 hD
        have i1 : i < xs.length := by omega
        have gx : xs[i]? = some xs[i] := List.getElem?_eq_getElem i1
        have gy : ys[i]? = some ys[i] := List.getElem?_eq_getElem hi
        have ez : (0 : Int) + (i : Int) = (i : Int) := Int.zero_add _
        rw [ez]
        have tail : ∀ H3, Ex H2 H3 → ∃ acc, H3 Dl = some (.lst acc) ∧ acc.length < sizeLine ∧ (Ex H (upd H3 Dl (.lst (acc ++ [V.bl true]))) ∧ (upd H3 Dl (.lst (acc ++ [V.bl true]))) Dl = some (.lst ((List.replicate (i + 1) true).map V.bl))) := fun H3 e3 => by
          refine ⟨_, e3 _ _ hL, szl ?_, Evl.Ex.mut (e2.trans e3) nD, ?_⟩
          · rw [List.length_map, List.length_replicate]
            omega
          · rw [upd_same, List.replicate_succ', List.map_append]
            rfl
        refine ⟨rfl, _, rfl, _, rfl, ?_⟩
        have step2 : ∀ x', x' = xs[i] → ∀ y', y' = ys[i] → spSame m [x', y'] H2 (fun y H4 => ∃ acc, H4 Dl = some (.lst acc) ∧ acc.length < sizeLine ∧ (Ex H (upd H4 Dl (.lst (acc ++ [y]))) ∧ (upd H4 Dl (.lst (acc ++ [y]))) Dl = some (.lst ((List.replicate (i + 1) true).map V.bl)))) E0 := fun x' ex y' ey =>
          ⟨x', y', rfl, Rep.mono e2 (ex ▸ ey ▸ h6 i _ _ gx gy), fun H3 e3 => tail H3 e3⟩
        have ixy : ∀ (R : V → Hp → Prop), R ys[i] H2 → rIxA K (.ref b) (.int (i : Int)) H2 R := fun R hR2 => by
          rcases hib H2 e2 with hb | hb
          · exact .inl ⟨b, ys, _, _, rfl, rfl, hb, atI_nat gy, hR2⟩
          · exact .inr ⟨b, ys, _, _, rfl, rfl, hb, atI_nat gy, hR2⟩
        have ixx : ∀ (R : V → Hp → Prop), R xs[i] H2 → rIxA K (.ref a) (.int (i : Int)) H2 R := fun R hR2 => by
          rcases hia H2 e2 with hb | hb
          · exact .inl ⟨a, xs, _, _, rfl, rfl, hb, atI_nat gx, hR2⟩
          · exact .inr ⟨a, xs, _, _, rfl, rfl, hb, atI_nat gx, hR2⟩
        refine ixx _ ?_
        refine ⟨_, rfl, _, rfl, ?_⟩
        refine ixy _ ?_
        exact step2 _ rfl _ rfl
      · rintro H2 ⟨e2, hL⟩
        refine ⟨Dl, _, rfl, Evl.sq_of hL, ?_⟩
        have ea : (List.replicate ys.length true).all id = true := by simp
        rw [ea]
        exact q H2 e2
theorem FnOk.never {CX : CXT} {f : Addr} {fd : FuncData} {ps : List Str} : FnOk P w K mg base CX 0 f fd ps (fun _ _ _ _ => False) := ⟨fun _ _ _ _ h => h.elim, fun _ _ _ _ _ _ _ _ _ _ _ _ _ h => h.elim⟩
theorem ok_same (D : Dfn K mg "_law_same" s__law_same ["given", "due"]) (z : Z mg) : ∀ n, Ok P w K mg base (n + 1) "_law_same" ["given", "due"] (spSame n) := by
  obtain ⟨f, fd, F, g, b⟩ := D
  have body := fun n h => ok_same_body (P := P) (w := w) (base := base) F z n ⟨f, fd, h, g, F.kp, b⟩
  have all : ∀ n, FnOk P w K mg base CX0 (n + 1) f fd ["given", "due"] (spSame n) := by
    intro n
    induction n with
    | zero => exact body 0 FnOk.never
    | succ m ih => exact body (m + 1) ih
  exact fun n => ⟨f, fd, all n, g, F.kp, b⟩
end
end TW
set_option Elab.async false
set_option linter.all false
set_option maxRecDepth 100000
set_option maxHeartbeats 4000000
namespace TW
open PySem PySem.Spec PyProof.Rows L2
/-! ascending lists -/
def Up (ns : List Int) : Prop := ns.Pairwise (· < ·)
theorem asc_up : ∀ {ns : List Int}, asc ns = true → Up ns
  | [], _ => List.Pairwise.nil
  | [x], _ => List.pairwise_singleton _ _
  | x :: y :: r, h => by
    have h' : (decide (x < y) && asc (y :: r)) = true := h
    rw [Bool.and_eq_true] at h'
    have ih := asc_up h'.2
    have hxy : x < y := of_decide_eq_true h'.1
    refine List.pairwise_cons.mpr ⟨fun z hz => ?_, ih⟩
    rcases List.mem_cons.mp hz with e | e
    · omega
    · have := (List.pairwise_cons.mp ih).1 z e
      omega
theorem up_asc : ∀ {ns : List Int}, Up ns → asc ns = true
  | [], _ => rfl
  | [x], _ => rfl
  | x :: y :: r, h => by
    obtain ⟨h1, h2⟩ := List.pairwise_cons.mp h
    show (decide (x < y) && asc (y :: r)) = true
    rw [up_asc h2, decide_eq_true (h1 y List.mem_cons_self)]
    rfl
theorem up_nodup {ns : List Int} (h : Up ns) : ns.Nodup := h.imp fun {a b} (c : a < b) => by
  intro e
  omega
theorem up_ext : ∀ {xs ys : List Int}, Up xs → Up ys → (∀ z, z ∈ xs ↔ z ∈ ys) → xs = ys
  | [], [], _, _, _ => rfl
  | [], y :: r, _, _, h => absurd ((h y).mpr List.mem_cons_self) List.not_mem_nil
  | x :: r, [], _, _, h => absurd ((h x).mp List.mem_cons_self) List.not_mem_nil
  | x :: r, y :: s, hx, hy, h => by
    obtain ⟨a1, a2⟩ := List.pairwise_cons.mp hx
    obtain ⟨b1, b2⟩ := List.pairwise_cons.mp hy
    have e : x = y := by
      rcases List.mem_cons.mp ((h x).mp List.mem_cons_self) with q | q
      · exact q
      · rcases List.mem_cons.mp ((h y).mpr List.mem_cons_self) with p | p
        · exact p.symm
        · have c1 := a1 y p
          have c2 := b1 x q
          omega
    subst e
    rw [up_ext a2 b2 fun z => ⟨fun hz => ?_, fun hz => ?_⟩]
    · rcases List.mem_cons.mp ((h z).mp (List.mem_cons_of_mem _ hz)) with q | q
      · have := a1 z hz
        omega
      · exact q
    · rcases List.mem_cons.mp ((h z).mpr (List.mem_cons_of_mem _ hz)) with q | q
      · have := b1 z hz
        omega
      · exact q
theorem up_of_le {ns : List Int} (h : ns.Pairwise (· ≤ ·)) (d : ns.Nodup) : Up ns := by
  refine List.Pairwise.imp₂ (fun a b (x : a ≤ b) (y : a ≠ b) => ?_) h d
  show a < b
  omega
def lotOk (ns : List Int) : Prop := Up ns ∧ (∀ z ∈ ns, 0 ≤ z) ∧ ns.length ≤ 1000
theorem isLot_of {ns : List Int} (h : lotOk ns) : isLot ns none = true := by
  unfold isLot
  rw [up_asc h.1, Bool.and_true, List.all_eq_true]
  intro z hz
  rw [decide_eq_true (h.2.1 z hz)]
  rfl
theorem inV_int (x : Int) (ns : List Int) : inV (.int x) (ns.map V.int) = decide (x ∈ ns) := by
  unfold inV
  rw [List.any_map]
  rw [Bool.eq_iff_iff, List.any_eq_true, decide_eq_true_eq]
  constructor
  · rintro ⟨y, hy, e⟩
    have e' : (y == x) = true := e
    rw [← eq_of_beq e']
    exact hy
  · intro h
    exact ⟨x, h, (show (x == x) = true from beq_self_eq_true x)⟩
theorem flat_ints (ns : List Int) : (ns.map V.int).all flatV = true := by
  rw [List.all_map]
  exact List.all_eq_true.mpr fun _ _ => rfl
theorem map_get {ns : List Int} {i : Nat} {x : V} (hi : (ns.map V.int)[i]? = some x) : ∃ n, ns[i]? = some n ∧ x = V.int n := by
  rw [List.getElem?_map] at hi
  cases e : ns[i]? with
  | none => rw [e] at hi; cases hi
  | some n => rw [e] at hi; exact ⟨n, rfl, (Option.some.inj hi).symm⟩
/-- the things that two of three lots have -/
def IsMid (a b c m : List Int) : Prop := Up m ∧ ∀ x, x ∈ m ↔ (x ∈ a ∧ (x ∈ b ∨ x ∈ c)) ∨ (x ∈ b ∧ x ∈ c)
theorem mid_of {a b c r : List Int} (ua : Up a) (ub : Up b) (hp : r.Perm (a.filter (fun x => decide (x ∈ b) || decide (x ∈ c)) ++ b.filter (fun x => decide (x ∈ c) && !decide (x ∈ a)))) (hs : r.Pairwise (· ≤ ·)) : IsMid a b c r := by
  have nd : (a.filter (fun x => decide (x ∈ b) || decide (x ∈ c)) ++ b.filter (fun x => decide (x ∈ c) && !decide (x ∈ a))).Nodup := by
    refine List.nodup_append.mpr ⟨(up_nodup ua).filter _, (up_nodup ub).filter _, fun x hx y hy e => ?_⟩
    subst e
    have h1 := (List.mem_filter.mp hx).1
    have h2 := (List.mem_filter.mp hy).2
    rw [Bool.and_eq_true] at h2
    rw [decide_eq_true h1] at h2
    exact absurd h2.2 (by decide)
  refine ⟨up_of_le hs (hp.nodup_iff.mpr nd), fun x => ?_⟩
  rw [hp.mem_iff, List.mem_append, List.mem_filter, List.mem_filter, Bool.or_eq_true, Bool.and_eq_true]
  simp only [decide_eq_true_eq, Bool.not_eq_true', decide_eq_false_iff_not]
  by_cases x ∈ a <;> by_cases x ∈ b <;> by_cases x ∈ c <;> simp_all
theorem filt_yes {α : Type} {f : α → Bool} {l : List α} {i : Nat} {n : α} (hn : l[i]? = some n) (hf : f n = true) : (l.take (i + 1)).filter f = (l.take i).filter f ++ [n] := by
  rw [take_snoc hn, List.filter_append, List.filter_cons, if_pos hf]
  rfl
theorem filt_no {α : Type} {f : α → Bool} {l : List α} {i : Nat} {n : α} (hn : l[i]? = some n) (hf : f n = false) : (l.take (i + 1)).filter f = (l.take i).filter f := by
  rw [take_snoc hn, List.filter_append, List.filter_cons, if_neg (by rw [hf]; decide)]
  exact List.append_nil _
theorem filt_len {α : Type} (f : α → Bool) (l : List α) (i : Nat) : ((l.take i).filter f).length ≤ l.length :=
  Nat.le_trans (List.length_filter_le _ _) (by rw [List.length_take]; omega)
end TW
set_option Elab.async false
set_option linter.all false
set_option maxRecDepth 100000
set_option maxHeartbeats 4000000
namespace TW
open PySem PySem.Spec PyProof.Rows L2
/-! calls by keywords alone -/
def OkKw (P : Program) (w : World) (K : PySem.W.Frag) (mg : Str → Option Value) (base : Heap) (k : Nat) (x : Str) (ps ks : List Str) (g : List Value → List Value → List Value) (gV : List V → List V → List V) (sp : Sp) : Prop :=
  ∃ (f : Addr) (fd : FuncData), FnOk P w K mg base CX0 k f fd ps sp ∧ mg x = some (.ref f) ∧ PySem.W.keepIn K (.ref f) = true ∧ KBinds K fd ps ks g gV
def tKw (sp : Sp) (gV : List V → List V → List V) (tk : TA) : TE := fun σ H Q => tk σ H fun zs H2 => sp (gV [] zs) H2 Q E0
theorem pe_kw0 {X : Cx} {k : Nat} {x : Str} {ps ks : List Str} {g : List Value → List Value → List Value} {gV : List V → List V → List V} {sp : Sp} {kws : List Keyword} {tk : TA} {p pos : Pos} (O : OkKw X.prog X.w X.K X.mg X.base k x ps ks g gV sp) (hr : Room k X.A) (hkw : PK X kws tk) (hg : Gl X x := by rfl)
    (hall : (backToKw pos (keywordEach kws X.env)).all (·.1.isSome) = true := by rfl) (hks : (backToKw pos (keywordEach kws X.env)).filterMap (·.1) = ks := by rfl) (hdb : (x == ("__debug__" : Str)) = false := by decide)
    (hpl : ((backTo pos (starEach [] X.env)).any (·.1) || (backToKw pos (keywordEach kws X.env)).any (·.1.isNone)) = false := by rfl) : PE X (.Call (.Name x p) [] kws pos) (tKw sp gV tk) := by
  obtain ⟨f, fd, F, gm, kp, b⟩ := O
  refine ⟨fun pins s σ H Q I h => wpAny_Call_Name_kw (ld_glob I hg gm ?_ hdb)⟩
  refine PySem.W.callWith_KW0 (h₀ := X.base) I.ok.mod.kin kp hall (thn (hkw.run pos pins s σ H _ I h) fun ws s2 h2 => ?_) hpl
  obtain ⟨zs, H2, I2, rz, q2⟩ := h2
  refine ⟨I2.kIn, ?_⟩
  rw [hks]
  exact run_fnk (us := []) (vs := []) F hr b pass0 I2 .nil rz q2
theorem set_same {α : Type} {l : List α} {j : Nat} {x : α} (h : l[j]? = some x) : l.set j x = l := by
  refine List.ext_getElem? fun i => ?_
  by_cases e : j = i
  · subst e
    rw [List.getElem?_set_self (List.getElem?_eq_some_iff.mp h).1, h]
  · rw [List.getElem?_set_ne e]
/-- if m: xs.append(k), both ways at once -/
theorem if_app {K : PySem.W.Frag} {D : Ends} {σ : L2.St} {H0 H : Hp} {l : List (Addr × HO)} {j sl sk : Nat} {o : Addr} {L : List Int} {k : Int} (m : Bool) (hs : σ[sl]? = some (some (.ref o))) (hk : σ[sk]? = some (some (.int k))) (T : Has H0 H l) (hj : l[j]? = some (o, .lst (L.map V.int)))
    (hz : L.length < 100000) (go : ∀ H', Has H0 H' (l.set j (o, .lst ((if m = true then L ++ [k] else L).map V.int))) → D.nx σ H') : if m = true then tDrop (tBM K "list" rAppend (tVar sl) (tCons (tVar sk) tNil)) D σ H else tNext D σ H := by
  cases m with
  | true =>
    refine ⟨_, hs, .inl ⟨rfl, _, Evl.sq_of (T.get j hj)⟩, _, hk, o, _, _, rfl, rfl, T.get j hj, szl (by rw [List.length_map]; exact hz), ?_⟩
    refine go _ ?_
    rw [if_pos rfl, List.map_append]
    exact T.set j hj
  | false =>
    refine go H ?_
    rw [if_neg (by decide), set_same hj]
    exact T
theorem rep_tup {n : Nat} {H : Hp} {t u : Addr} {m : List Int} (h : H t = some (.tup (m.map V.int))) (h' : H u = some (.tup (m.map V.int))) (hl : m.length ≤ 10000) : Rep (n + 1) H (.ref t) (.ref u) := by
  refine .inr ⟨t, u, _, _, rfl, rfl, .inr ⟨h, h'⟩, rfl, by rw [List.length_map]; exact hl, fun i x y hx hy => ?_⟩
  obtain ⟨v, hv, rfl⟩ := map_get hx
  rw [hx] at hy
  obtain rfl := Option.some.inj hy
  exact Rep.flat rfl
end TW
set_option Elab.async false
set_option linter.all false
set_option maxRecDepth 100000
set_option maxHeartbeats 4000000
namespace TW
open PySem PySem.Spec PyProof.Rows L2
section
variable {P : Program} {w : World} {K : PySem.W.Frag} {mg : Str → Option Value} {base : Heap}
def spCheckLot (K : PySem.W.Frag) : Sp := fun vs H Q _ => ∃ (a : Addr) (ns : List Int) (t : Option Int), vs = [.ref a, thV t] ∧ SqT K H a (ns.map V.int) ∧ ns.length ≤ 1000 ∧ isLot ns t = true ∧ ∀ H', Ex H H' → Q .non H'
def spMiddle (K : PySem.W.Frag) : Sp := fun vs H Q _ => ∃ (a b c : Addr) (xs ys zs : List Int), vs = [.ref a, .ref b, .ref c] ∧ SqT K H a (xs.map V.int) ∧ SqT K H b (ys.map V.int) ∧ SqT K H c (zs.map V.int) ∧ lotOk xs ∧ lotOk ys ∧ lotOk zs ∧
  ∀ (p : Addr) (H' : Hp) (m : List Int), H p = none → Ex H H' → H' p = some (.tup (m.map V.int)) → IsMid xs ys zs m → Q (.ref p) H'
end
end TW
set_option Elab.async false
set_option linter.all false
set_option maxRecDepth 100000
set_option maxHeartbeats 4000000
/-! sorted of a list of tuples of ints of any lengths, the empty one too -/
namespace TW
open PySem PySem.W PySem.Calls PyProof.Rows
theorem lex_list : ∀ xs ys : List Int, HT.lexLt xs ys = decide (xs < ys)
  | [], [] => rfl
  | [], y :: ys => (decide_eq_true (by exact List.nil_lt_cons y ys)).symm
  | x :: xs, [] => (decide_eq_false (by exact List.not_lt_nil _)).symm
  | x :: xs, y :: ys => by
    rw [HT.lexLt_cons, Bool.eq_iff_iff, decide_eq_true_eq, List.cons_lt_cons_iff]
    by_cases e : x = y
    · subst e
      rw [if_pos rfl, lex_list xs ys, decide_eq_true_eq]
      constructor
      · exact fun h => .inr ⟨rfl, h⟩
      · rintro (h | ⟨_, h⟩)
        · exact absurd h (Int.lt_irrefl x)
        · exact h
    · rw [if_neg e, decide_eq_true_eq]
      constructor
      · exact .inl
      · rintro (h | ⟨h, _⟩)
        · exact h
        · exact absurd h e
def tupD (ns : List Int) : PyData := .tuple (ns.map .int)
theorem lt_tupD (xs ys : List Int) : dataLt (tupD xs) (tupD ys) = HT.lexLt xs ys := by
  unfold tupD
  rw [dataLt_tuple, lex_list]
  exact dataLt_ints xs ys
theorem alike_tupD (xs ys : List Int) : alike (tupD xs) (tupD ys) = true := by
  unfold tupD
  simpa [alike] using alike_ints xs ys
theorem depth_tupD (xs : List Int) : (tupD xs).depth ≤ 1 := by
  unfold tupD
  simp [PyData.depth, depth_ints]
section
variable {prog : Program} {w : World} {A : Around} {E : Value → Shared → Prop} {s : Shared} {M : Model}
theorem ints_of_reads : ∀ {ns : List Int} {vs : List Value} {as : List Addr}, ReadsAll s.heap vs (ns.map .int) as → IntsAre vs ns
  | [], _, _, h => by cases h; exact .nil
  | n :: ns, _, _, h => by
    cases h with
    | cons r1 r2 =>
      cases r1
      exact .cons _ _ (ints_of_reads r2)
theorem first_lots : ∀ {vs : List Value} {ds : List PyData}, EachIs (fun v d => ∃ as, Reads s.heap v d as) vs ds → (∀ d ∈ ds, ∃ ns, d = tupD ns) →
    ∃ fs : List (Option Value), (fs.all (·.isSome) = true → ∀ d ∈ ds, ∃ x r, d = .tuple (x :: r)) ∧ ∀ {E : Value → Shared → Prop} {Q : List (Option Value) → Shared → Prop}, Q fs s → wpAny M A (vs.mapM firstOfTuple') Q E s
  | _, _, .nil, _ => ⟨[], fun _ d hd => absurd hd List.not_mem_nil, fun {E Q} h => by rw [List.mapM_nil]; exact wpAny_pure h⟩
  | v :: vs, d :: ds, .cons ⟨as, r⟩ t, hl => by
    obtain ⟨fs, h1, h2⟩ := first_lots t fun d hd => hl d (List.mem_cons_of_mem _ hd)
    obtain ⟨ns, rfl⟩ := hl d List.mem_cons_self
    unfold tupD at r
    cases r with
    | @tuple a o xs n _ _ ho hc hd hr =>
      refine ⟨xs[0]? :: fs, fun hall d hm => ?_, fun {E Q} hq => ?_⟩
      · rw [List.all_cons, Bool.and_eq_true] at hall
        rcases List.mem_cons.mp hm with e | e
        · subst e
          cases ns with
          | nil =>
            have q : xs.toList = [] := by
              cases e2 : xs.toList with
              | nil => rfl
              | cons f fr => rw [e2] at hr; cases hr
            have q2 : xs = #[] := by simpa using q
            rw [q2] at hall
            exact absurd hall.1 (by simp)
          | cons k r => exact ⟨_, _, rfl⟩
        · exact h1 hall.2 d e
      · rw [List.mapM_cons, kas_first_eq]
        refine wpAny_bind (wpAny_bind (Looks.here (show Looks M s.heap (typeOf (.ref a)) o.cls from (Looks.ld ho).andThen .now) ?_))
        rw [hc, if_neg (by simp)]
        refine wpAny_bind (listItems_at ho hd (wpAny_pure ?_))
        exact wpAny_bind (h2 (wpAny_pure hq))
theorem oneLt_tups {f : Bool} {xs ys : List Int} {a b : Value} {as bs : List Addr} {Q : Bool → Shared → Prop} (ra : Reads s.heap a (tupD xs) as) (rb : Reads s.heap b (tupD ys) bs) (hu : A.units + 3 < cLine) (hq : Q (HT.lexLt xs ys) s) : wpAny (model prog w) A (oneLt' f a b) Q E s := by
  cases f with
  | false =>
    refine oneLt_alike (fun h => absurd h Bool.false_ne_true) ra rb (alike_tupD xs ys) (fun h => by cases h) ?_ (by rw [lt_tupD]; exact hq)
    have d1 := depth_tupD xs
    omega
  | true =>
    unfold tupD at ra rb
    cases ra with
    | @tuple l o its n _ _ h1 h2 h3 h4 =>
      cases rb with
      | @tuple l' o' its' n' _ _ k1 k2 k3 k4 =>
        obtain ⟨oc, od, odat, osl⟩ := o
        obtain ⟨oc', od', odat', osl'⟩ := o'
        simp only at h2 h3 k2 k3
        subst h2 h3 k2 k3
        rw [oneLt'_eq]
        simp only [if_true]
        refine wpAny_bind (wpAny_cRoomFor (by omega) ?_)
        refine wpAny_bind (wpAny_callSpecialIfBound?_slot (T := "tuple") ⟨_, h1, rfl⟩ F.slot_tuple_lt (call_meets F.slot_tuple_lt ⟨_, h1, rfl⟩ F.entry_tuple_lt (F.args_tuple_lt_2 _ _) (HT.tuple_lt_ints l l' its its' n n' od od' osl osl' xs ys (ints_of_reads h4) (ints_of_reads k4)) ⟨h1, k1, ?_⟩))
        exact wpAny_truthy_bool hq
theorem sorts_lots {vs : List Value} {ds : List PyData} (e : EachIs (fun v d => ∃ as, Reads s.heap v d as) vs ds) (hl : ∀ d ∈ ds, ∃ ns, d = tupD ns) (hu : A.units + 5 < cLine) : SortsAt prog w A s (dataKind s.heap ds) vs := by
  have hal : AllAlike ds := fun d hd d' hd' => by
    obtain ⟨xs, rfl⟩ := hl d hd
    obtain ⟨ys, rfl⟩ := hl d' hd'
    exact alike_tupD xs ys
  obtain ⟨fs, hfs, run⟩ := first_lots (M := model prog w) (A := A) e hl
  by_cases hs : fs.all (·.isSome) = true
  · refine SortsAt.data e hal (.inl (hfs hs)) fun d hd => ?_
    obtain ⟨xs, rfl⟩ := hl d hd
    have := depth_tupD xs
    omega
  · have lt : ∀ kd : SortKind, (∀ x y, keyLt' kd x y = oneLt' true x y) ∨ (∀ x y, keyLt' kd x y = oneLt' false x y) → PyProof.Rows.H.LtAt prog w A s (dataKind s.heap ds) kd := fun kd hk E x y a b Q ha hb hq => by
      obtain ⟨d, as, hd, ra, rfl⟩ := dataKind_inv ha
      obtain ⟨d', as', hd', rb, rfl⟩ := dataKind_inv hb
      obtain ⟨xs, rfl⟩ := hl d hd
      obtain ⟨ys, rfl⟩ := hl d' hd'
      have hq' : Q (dataLt (tupD xs) (tupD ys)) s := hq
      rw [lt_tupD] at hq'
      rcases hk with hk | hk
      · rw [hk]
        exact oneLt_tups ra rb (by omega) hq'
      · rw [hk]
        exact oneLt_tups ra rb (by omega) hq'
    refine ⟨fun v hv => ?_, ?_⟩
    · obtain ⟨d, hd, as, r⟩ := e.left v hv
      exact ⟨_, dataKind_some hal hd r⟩
    · have hna : ¬ (fs.toArray.all fun x => x.isSome) = true := by simpa using hs
      by_cases h0 : (fs[0]?.bind id).isSome = true
      · refine ⟨general', lt _ (.inr fun _ _ => rfl), fun h2 E Q hq => ?_⟩
        rw [kat_kind_eq, List.mapM_toArray, map_eq_pure_bind]
        refine wpAny_bind (wpAny_bind (run (wpAny_pure ?_)))
        rw [if_neg hna, if_pos (by simpa using h0)]
        exact wpAny_pure hq
      · refine ⟨oneType', lt _ (.inl fun _ _ => rfl), fun h2 E Q hq => ?_⟩
        obtain ⟨v₁, v₂, rest, rfl⟩ : ∃ v₁ v₂ rest, vs = v₁ :: v₂ :: rest := by
          match vs, h2 with
          | v₁ :: v₂ :: rest, _ => exact ⟨v₁, v₂, rest, rfl⟩
          | [], h => exact absurd h (by decide)
          | [v], h => exact absurd h (by simp)
        rw [kat_kind_eq, List.mapM_toArray, map_eq_pure_bind]
        refine wpAny_bind (wpAny_bind (run (wpAny_pure ?_)))
        rw [if_neg hna, if_neg (by simpa using h0), oneTypeOnly'_eq, List.mapM_toArray, map_eq_pure_bind]
        refine wpAny_bind (wpAny_bind (wpAny_bind (kas_mapM (r := Value.type "tuple") _ (fun v hv Q' hq' => ?_) (wpAny_pure ?_))))
        · obtain ⟨d, hd, as, r⟩ := e.left v hv
          obtain ⟨xs, rfl⟩ := hl d hd
          exact (looks_reads r).here hq'
        · have all1 : ((List.map (fun _ => Value.type "tuple") (v₁ :: v₂ :: rest)).toArray.all fun x => x == Value.type "tuple") = true := by
            simp only [List.all_toArray, List.all_map, List.all_eq_true]
            exact fun _ _ => beq_self_eq_true _
          have at0 : (List.map (fun _ => Value.type "tuple") (v₁ :: v₂ :: rest)).toArray[0]? = some (Value.type "tuple") := by simp
          rw [at0]
          simp only [all1, if_true]
          exact wpAny_pure (wpAny_pure hq)
end
end TW
set_option Elab.async false
set_option linter.all false
set_option maxRecDepth 100000
set_option maxHeartbeats 4000000
/-! sorted of a list of data, as a rule -/
namespace TW
open PySem PySem.Spec PyProof.Rows L2
open PySem.W (EachIs AllAlike Sortable dataLt dataLe dataKind)
theorem each_of_vals : ∀ {bs : List (V × PyData)} {us : List Value}, Vals (bs.map (·.1)) us → EachIs (fun v b => RelV b.1 v) us bs
  | [], _, .nil => .nil
  | b :: bs, _, .cons r t => .cons r (each_of_vals t)
theorem vals_of_each : ∀ {us : List Value} {bs : List (V × PyData)}, EachIs (fun v b => RelV b.1 v) us bs → Vals (bs.map (·.1)) us
  | _, _, .nil => .nil
  | _, _, .cons r t => .cons r (vals_of_each t)
theorem dataLe_pw (bs : List (V × PyData)) : (bs.mergeSort (dataLe false (·.2))).Pairwise (fun x y => dataLt y.2 x.2 = false) := by
  have T := PySem.W.sortLe_total (PyProof.Rows.listOrd PyProof.Rows.itemOrd) false (fun b : V × PyData => PySem.W.keyToks b.2)
  have e : dataLe false (fun b : V × PyData => b.2) = PySem.W.sortLe (PyProof.Rows.listOrd PyProof.Rows.itemOrd) false (fun b : V × PyData => PySem.W.keyToks b.2) := rfl
  have h := List.pairwise_mergeSort (le := dataLe false (fun b : V × PyData => b.2)) (fun a b c h1 h2 => by rw [e] at h1 h2 ⊢; exact T.trans a b c h1 h2) (fun a b => by rw [e]; rcases T.total a b with h | h <;> simp [h]) bs
  refine h.imp fun {x y} h => ?_
  have h' : (!dataLt y.2 x.2) = true := h
  rw [Bool.not_eq_true'] at h'
  exact h'
def rSortD (K : PySem.W.Frag) : List V → Hp → VK → Prop := fun vs H Q => ∃ (a : Addr) (bs : List (V × PyData)), vs = [.ref a] ∧ SqL K H a (bs.map (·.1)) ∧ (∀ b ∈ bs, Dp K H b.1 b.2) ∧
  ((AllAlike (bs.map (·.2)) ∧ Sortable (bs.map (·.2))) ∨ ∀ b ∈ bs, ∃ ns, b.2 = tupD ns) ∧ (∀ b ∈ bs, b.2.depth ≤ 20) ∧
  ∀ (bs' : List (V × PyData)) (p : Addr), bs'.Perm bs → bs'.Pairwise (fun x y => dataLt y.2 x.2 = false) → H p = none → Q (.ref p) (upd H p (.lst (bs'.map (·.1))))
def rSortE (K : PySem.W.Frag) : List V → Hp → VK → Prop := fun vs H Q => ∃ (a : Addr) (bs : List (V × PyData)), vs = [.ref a] ∧ SqL K H a (bs.map (·.1)) ∧ (∀ b ∈ bs, Dp K H b.1 b.2) ∧
  ((AllAlike (bs.map (·.2)) ∧ Sortable (bs.map (·.2))) ∨ ∀ b ∈ bs, ∃ ns, b.2 = tupD ns) ∧ (∀ b ∈ bs, b.2.depth ≤ 20) ∧
  ∀ p : Addr, H p = none → Q (.ref p) (upd H p (.lst ((bs.mergeSort (dataLe false (·.2))).map (·.1))))
section
variable {X : Cx} {K : PySem.W.Frag}
theorem cr_sortE (hu : X.A.units + 64 < cLine) (hK : X.K = K := by rfl) : CallR X (.builtin "sorted") (rSortE K) := by
  subst hK
  intro pins s σ H vs us Q I r h
  obtain ⟨a, bs, rfl, hs, hd, hk, hdep, q⟩ := h
  obtain ⟨its, rv, hl, hz⟩ := I.list hs
  rw [Vals.ref1 r]
  have lz : its.length = bs.length := by rw [← rv.length, List.length_map]
  have e := each_of_vals rv
  have er : EachIs (fun v b => ∃ as, Reads s.heap v b.2 as) its bs := by
    have e2 := PySem.W.each_mem e
    exact e2.mono fun v b z => Dp.reads I b.2 b.1 v (hd b z.2) z.1
  have er' : EachIs (fun v b => ∃ as, Reads (PySem.W.sortingHeap (PySem.W.copyHeap s.heap its) (s.heap.objs.size + 1) its) v b.2 as) its bs := er.mono fun _ _ z => by
    obtain ⟨as, r⟩ := z
    exact ⟨as, PyProof.Rows.Reads.keeps (fun _ _ => PySem.W.sorting_copy_old) r⟩
  have hal : AllAlike (bs.map (·.2)) := by
    rcases hk with hk | hk
    · exact hk.1
    · intro d hd1 d' hd2
      obtain ⟨b, hb, rfl⟩ := List.mem_map.mp hd1
      obtain ⟨b', hb', rfl⟩ := List.mem_map.mp hd2
      obtain ⟨xs, e1⟩ := hk b hb
      obtain ⟨ys, e2⟩ := hk b' hb'
      rw [e1, e2]
      exact alike_tupD xs ys
  have em := PySem.W.each_map (R := fun v d => ∃ as, Reads (PySem.W.sortingHeap (PySem.W.copyHeap s.heap its) (s.heap.objs.size + 1) its) v d as) (fun b : V × PyData => b.2) er'
  have S : PySem.W.SortsAt X.prog X.w X.A.in1.in1 { s with heap := PySem.W.sortingHeap (PySem.W.copyHeap s.heap its) (s.heap.objs.size + 1) its } (dataKind (PySem.W.sortingHeap (PySem.W.copyHeap s.heap its) (s.heap.objs.size + 1) its) (bs.map (·.2))) its := by
    rcases hk with hk | hk
    · refine PySem.W.SortsAt.data em hal hk.2 fun d hd1 => ?_
      obtain ⟨b, hb, rfl⟩ := List.mem_map.mp hd1
      have := hdep b hb
      show X.A.units + 1 + 1 + b.2.depth < cLine
      omega
    · refine sorts_lots em (fun d hd1 => ?_) (by show X.A.units + 1 + 1 + 5 < cLine; omega)
      obtain ⟨b, hb, rfl⟩ := List.mem_map.mp hd1
      exact hk b hb
  refine PySem.W.sorted_vals hl.isList S (by rw [← rv.length]; exact hz) ?_
  have eo := PySem.W.sortVals_data (h' := PySem.W.sortingHeap (PySem.W.copyHeap s.heap its) (s.heap.objs.size + 1) its) (enc := fun b : V × PyData => b.2) false e er' hal
  generalize PySem.W.sortVals (dataKind (PySem.W.sortingHeap (PySem.W.copyHeap s.heap its) (s.heap.objs.size + 1) its) (bs.map (·.2))) false its its = out at eo
  obtain ⟨ep, hat⟩ := PyProof.Rows.sortedAll_at s.heap its out.toArray
  have pm : (bs.mergeSort (dataLe false (·.2))).Perm bs := List.mergeSort_perm bs _
  have hlen : ((bs.mergeSort (dataLe false (·.2))).map (·.1)).length ≤ sizeLine := by
    rw [List.length_map, pm.length_eq, ← List.length_map (f := (·.1))]
    exact hz
  exact ⟨.ref _, upd H (s.heap.objs.size + 1) (.lst ((bs.mergeSort (dataLe false (·.2))).map (·.1))), I.laid (t' := s.toks) (fun _ _ => PyProof.Rows.sortedAll_old) (Nat.le_succ _) ⟨hlen, out, ep, vals_of_each eo, hat⟩, rfl, q _ (I.hok.fresh (Nat.le_succ _))⟩
theorem cr_sortD (hu : X.A.units + 64 < cLine) (hK : X.K = K := by rfl) : CallR X (.builtin "sorted") (rSortD K) := fun pins s σ H vs us Q I r h => by
  obtain ⟨a, bs, h1, h2, h3, h4, h5, q⟩ := h
  exact cr_sortE hu hK pins s σ H vs us Q I r ⟨a, bs, h1, h2, h3, h4, h5, fun p hp => q _ p (List.mergeSort_perm bs _) (dataLe_pw bs) hp⟩
end
/-! lots -/
section
variable {K : PySem.W.Frag} {H : Hp}
theorem dpAll_ints : ∀ ns : List Int, DpAll K H (ns.map V.int) (ns.map .int)
  | [] => .nil
  | n :: ns => .cons (.int n) (dpAll_ints ns)
theorem dp_lot {t : Addr} {ns : List Int} (h : SqT K H t (ns.map V.int)) : Dp K H (.ref t) (tupD ns) := .tup h (dpAll_ints ns)
end
end TW
set_option Elab.async false
set_option linter.all false
set_option maxRecDepth 100000
set_option maxHeartbeats 4000000
/-! data that stands in the heap -/
namespace TW
open PySem PySem.Spec PyProof.Rows L2
open PySem.W (EachIs AllAlike Sortable dataLt dataLe dataKind)
inductive At (H : Hp) : V → PyData → Prop
  | non : At H .non .none
  | bl (b : Bool) : At H (.bl b) (.bool b)
  | int (i : Int) : At H (.int i) (.int i)
  | str (x : Str) : At H (.str x) (.str x)
  | lst {a : Addr} {xs : List V} {ds : List PyData} (h : H a = some (.lst xs)) (l : xs.length = ds.length) (p : ∀ (i : Nat) x d, xs[i]? = some x → ds[i]? = some d → At H x d) : At H (.ref a) (.list ds)
  | tup {a : Addr} {xs : List V} {ds : List PyData} (h : H a = some (.tup xs)) (l : xs.length = ds.length) (p : ∀ (i : Nat) x d, xs[i]? = some x → ds[i]? = some d → At H x d) : At H (.ref a) (.tuple ds)
def Ats (H : Hp) (xs : List V) (ds : List PyData) : Prop := xs.length = ds.length ∧ ∀ (i : Nat) x d, xs[i]? = some x → ds[i]? = some d → At H x d
section
variable {H H' : Hp} {K : PySem.W.Frag} {x : V} {d : PyData} {a : Addr} {xs : List V} {ds : List PyData}
theorem At.ex (e : Ex H H') (h : At H x d) : At H' x d := by
  induction h with
  | non => exact .non
  | bl b => exact .bl b
  | int i => exact .int i
  | str x => exact .str x
  | lst h l p ih => exact .lst (e _ _ h) l ih
  | tup h l p ih => exact .tup (e _ _ h) l ih
theorem Ats.ex (e : Ex H H') (h : Ats H xs ds) : Ats H' xs ds := ⟨h.1, fun i x d h1 h2 => (h.2 i x d h1 h2).ex e⟩
theorem Ats.nil : Ats H [] [] := ⟨rfl, fun i x d h _ => by cases h⟩
theorem Ats.cons (h : At H x d) (t : Ats H xs ds) : Ats H (x :: xs) (d :: ds) := ⟨by rw [List.length_cons, List.length_cons, t.1], fun i y e h1 h2 => by
  cases i with
  | zero =>
    cases h1
    cases h2
    exact h
  | succ i => exact t.2 i y e h1 h2⟩
theorem Ats.head (h : Ats H (x :: xs) (d :: ds)) : At H x d := h.2 0 x d rfl rfl
theorem Ats.rest (h : Ats H (x :: xs) (d :: ds)) : Ats H xs ds := ⟨by have := h.1; rw [List.length_cons, List.length_cons] at this; omega, fun i y e h1 h2 => h.2 (i + 1) y e h1 h2⟩
theorem Ats.snoc (h : Ats H xs ds) (t : At H x d) : Ats H (xs ++ [x]) (ds ++ [d]) := ⟨by rw [List.length_append, List.length_append, h.1]; rfl, fun i y e h1 h2 => by
  rcases Nat.lt_trichotomy i xs.length with c | c | c
  · rw [List.getElem?_append_left c] at h1
    rw [List.getElem?_append_left (by rw [← h.1]; exact c)] at h2
    exact h.2 i y e h1 h2
  · rw [List.getElem?_append_right (by omega), show i - xs.length = 0 by omega] at h1
    rw [List.getElem?_append_right (by rw [← h.1]; omega), show i - ds.length = 0 by rw [← h.1]; omega] at h2
    cases h1
    cases h2
    exact t
  · rw [List.getElem?_append_right (by omega), List.getElem?_eq_none (by rw [List.length_singleton]; omega)] at h1
    cases h1⟩
theorem Ats.append {ys : List V} {es : List PyData} (h : Ats H xs ds) (t : Ats H ys es) : Ats H (xs ++ ys) (ds ++ es) := by
  induction ys generalizing xs ds es with
  | nil =>
    cases es with
    | nil => rw [List.append_nil, List.append_nil]; exact h
    | cons e es => cases t.1
  | cons y ys ih =>
    cases es with
    | nil => cases t.1
    | cons e es =>
      have := ih (h.snoc t.head) t.rest
      rw [List.append_assoc, List.append_assoc] at this
      exact this
theorem Ats.at_ (h : Ats H xs ds) {i : Nat} (hd : ds[i]? = some d) : ∃ x, xs[i]? = some x ∧ At H x d := by
  have hi := (List.getElem?_eq_some_iff.mp hd).1
  have hx : xs[i]? = some (xs[i]'(by rw [h.1]; exact hi)) := List.getElem?_eq_getElem (by rw [h.1]; exact hi)
  exact ⟨_, hx, h.2 i _ _ hx hd⟩
theorem Ats.at' (h : Ats H xs ds) {i : Nat} (hx : xs[i]? = some x) : ∃ d, ds[i]? = some d ∧ At H x d := by
  have hi := (List.getElem?_eq_some_iff.mp hx).1
  have hd : ds[i]? = some (ds[i]'(by rw [← h.1]; exact hi)) := List.getElem?_eq_getElem (by rw [← h.1]; exact hi)
  exact ⟨_, hd, h.2 i _ _ hx hd⟩
theorem Ats.map_ {α : Type} {l : List α} {f : α → V} {g : α → PyData} (h : ∀ y ∈ l, At H (f y) (g y)) : Ats H (l.map f) (l.map g) := by
  induction l with
  | nil => exact .nil
  | cons y l ih => exact .cons (h y List.mem_cons_self) (ih fun z hz => h z (List.mem_cons_of_mem _ hz))
theorem At.mkL (h : H a = some (.lst xs)) (t : Ats H xs ds) : At H (.ref a) (.list ds) := .lst h t.1 t.2
theorem At.mkT (h : H a = some (.tup xs)) (t : Ats H xs ds) : At H (.ref a) (.tuple ds) := .tup h t.1 t.2
theorem At.isL (h : At H x (.list ds)) : ∃ a xs, x = .ref a ∧ H a = some (.lst xs) ∧ Ats H xs ds := by
  cases h with
  | lst h l p => exact ⟨_, _, rfl, h, l, p⟩
theorem At.isT (h : At H x (.tuple ds)) : ∃ a xs, x = .ref a ∧ H a = some (.tup xs) ∧ Ats H xs ds := by
  cases h with
  | tup h l p => exact ⟨_, _, rfl, h, l, p⟩
theorem At.isI {i : Int} (h : At H x (.int i)) : x = .int i := by
  cases h
  rfl
theorem At.isS {i : Str} (h : At H x (.str i)) : x = .str i := by
  cases h
  rfl
theorem ats_dp : ∀ {xs : List V} {ds : List PyData}, xs.length = ds.length → (∀ (i : Nat) x d, xs[i]? = some x → ds[i]? = some d → Dp K H x d) → DpAll K H xs ds
  | [], [], _, _ => .nil
  | [], _ :: _, h, _ => by cases h
  | _ :: _, [], h, _ => by cases h
  | x :: xs, d :: ds, h, p => .cons (p 0 x d rfl rfl) (ats_dp (by rw [List.length_cons, List.length_cons] at h; omega) fun i y e h1 h2 => p (i + 1) y e h1 h2)
theorem At.dp (h : At H x d) : Dp K H x d := by
  induction h with
  | non => exact .non
  | bl b => exact .bl b
  | int i => exact .int i
  | str x => exact .str x
  | lst h l p ih => exact .lst (Evl.sq_of h) (ats_dp l ih)
  | tup h l p ih => exact .tup (Evl.st_of h) (ats_dp l ih)
end
/-! sorted, to the item -/
def dLe : PyData → PyData → Bool := dataLe false id
theorem sort_data (bs : List (V × PyData)) : (bs.mergeSort (dataLe false (·.2))).map (·.2) = (bs.map (·.2)).mergeSort dLe := List.map_mergeSort fun _ _ _ _ => rfl
theorem ats_sort {H : Hp} {bs : List (V × PyData)} (h : ∀ b ∈ bs, At H b.1 b.2) : Ats H ((bs.mergeSort (dataLe false (·.2))).map (·.1)) ((bs.map (·.2)).mergeSort dLe) := by
  rw [← sort_data]
  exact Ats.map_ fun b hb => h b ((List.mergeSort_perm bs _).mem_iff.mp hb)
end TW
set_option Elab.async false
set_option linter.all false
set_option maxRecDepth 100000
set_option maxHeartbeats 4000000
namespace TW
open PySem PySem.Spec PyProof.Rows L2
/-! literals, rules, lots -/
abbrev Sgn := Nat × Bool
abbrev Bar := List Sgn
def sw (b : Bool) : Str := if b then "in" else "out"
def dSgn (s : Sgn) : PyData := .tuple [.int s.1, .str (sw s.2)]
def dBar (b : Bar) : PyData := .tuple (b.map dSgn)
def dBars (bs : List Bar) : PyData := .list (bs.map dBar)
def bitB (m : Int) (k : Nat) : Bool := decide (m / 2 ^ k % 2 = 1)
def lotOf (m : Int) (w : Nat) : List Int := ((List.range w).filter (bitB m)).map fun k : Nat => (k : Int)
def met (m : Int) (s : Sgn) : Bool := bitB m s.1 == s.2
def keptB (m : Int) (bs : List Bar) : Bool := bs.all fun b => b.any (met m)
theorem At.sgn {H : Hp} {v : V} {s : Sgn} (h : At H v (dSgn s)) : ∃ a, v = .ref a ∧ H a = some (.tup [.int s.1, .str (sw s.2)]) := by
  obtain ⟨a, xs, rfl, ha, hx⟩ := At.isT h
  match xs, hx with
  | [x, y], hx =>
    obtain rfl := hx.head.isI
    obtain rfl := hx.rest.head.isS
    exact ⟨a, rfl, ha⟩
  | [], hx => cases hx.1
  | [_], hx => cases hx.1
  | _ :: _ :: _ :: _, hx => cases hx.1
theorem at_sgn {H : Hp} {a : Addr} {s : Sgn} (h : H a = some (.tup [.int s.1, .str (sw s.2)])) : At H (.ref a) (dSgn s) := At.mkT h (.cons (.int _) (.cons (.str _) .nil))
theorem At.bar {H : Hp} {v : V} {b : Bar} (h : At H v (dBar b)) : ∃ a xs, v = .ref a ∧ H a = some (.tup xs) ∧ Ats H xs (b.map dSgn) := At.isT h
theorem At.bars {H : Hp} {v : V} {b : List Bar} (h : At H v (dBars b)) : ∃ a xs, v = .ref a ∧ H a = some (.lst xs) ∧ Ats H xs (b.map dBar) := At.isL h
theorem ats_get {α : Type} {H : Hp} {xs : List V} {l : List α} {f : α → PyData} (h : Ats H xs (l.map f)) {i : Nat} {x : V} (hx : xs[i]? = some x) : ∃ y, l[i]? = some y ∧ At H x (f y) := by
  obtain ⟨d, hd, hA⟩ := h.at' hx
  rw [List.getElem?_map] at hd
  cases e : l[i]? with
  | none => rw [e] at hd; cases hd
  | some y => rw [e] at hd; cases hd; exact ⟨y, rfl, hA⟩
theorem sw_in (b : Bool) : decide (V.str (sw b) = V.str "in") = b := by cases b <;> decide +kernel
theorem met_eq (m : Int) (s : Sgn) : decide (V.int (m / 2 ^ s.1 % 2 ^ 1) = V.int (if s.2 = true then 1 else 0)) = met m s := by
  unfold met bitB
  have e : m / 2 ^ s.1 % 2 ^ 1 = m / 2 ^ s.1 % 2 := by rw [Int.pow_one]
  rw [e]
  have h := Int.emod_two_eq (m / 2 ^ s.1)
  rcases h with h | h <;> rw [h] <;> cases s.2 <;> decide
section
variable {P : Program} {w : World} {K : PySem.W.Frag} {mg : Str → Option Value} {base : Heap}
def spMet : Sp := fun vs H Q _ => ∃ (m : Int) (v : V) (s : Sgn), vs = [.int m, v] ∧ At H v (dSgn s) ∧ Q (.bl (met m s)) H
def spKept : Sp := fun vs H Q _ => ∃ (m : Int) (v : V) (bs : List Bar), vs = [.int m, v] ∧ At H v (dBars bs) ∧ (∀ b ∈ bs, b.length ≤ 100) ∧ ∀ H', Ex H H' → Q (.bl (keptB m bs)) H'
theorem take_any {α : Type} (f : α → Bool) {l : List α} {i : Nat} {x : α} (h : l[i]? = some x) : ((l.take (i + 1)).map f) = (l.take i).map f ++ [f x] := by
  rw [take_snoc h, List.map_append]
  rfl
theorem any_id {α : Type} (f : α → Bool) (l : List α) : (l.map f).any id = l.any f := by
  rw [List.any_map]
  rfl
theorem all_id {α : Type} (f : α → Bool) (l : List α) : (l.map f).all id = l.all f := by
  rw [List.all_map]
  rfl
end
end TW
set_option Elab.async false
set_option linter.all false
set_option maxRecDepth 100000
set_option maxHeartbeats 4000000
namespace TW
open PySem PySem.Spec PyProof.Rows L2
section
variable {G H H' : Hp} {l : List (Addr × HO)} {t p : Addr} {u o : HO}
/-- what will not change any more goes to the ground -/
theorem Has.sink (h : Has G H ((t, u) :: l)) : Has (upd G t u) H l := by
  have ht := h.own (t, u) List.mem_cons_self
  have nd := List.nodup_cons.mp (show ((t, u).1 :: l.map (·.1)).Nodup from h.nd)
  refine ⟨fun a o e => ?_, fun q hq => ?_, nd.2⟩
  · by_cases c : a = t
    · rw [c, upd_same] at e
      cases e
      rw [c]
      exact ht.2
    · rw [upd_ne c] at e
      exact h.ex a o e
  · have hq' := h.own q (List.mem_cons_of_mem _ hq)
    refine ⟨?_, hq'.2⟩
    rw [upd_ne (fun c => nd.1 (List.mem_map.mpr ⟨q, hq, c⟩))]
    exact hq'.1
theorem Has.exS (h : Has G H ((t, u) :: l)) : Ex G (upd G t u) := Evl.Ex.new (h.own (t, u) List.mem_cons_self).1
theorem Has.perm {l' : List (Addr × HO)} (h : Has G H l) (s : l.Perm l') : Has G H l' := ⟨h.ex, fun q hq => h.own q (s.mem_iff.mpr hq), (s.map (·.1)).nodup_iff.mp h.nd⟩
theorem Has.swap {q r : Addr × HO} (h : Has G H (q :: r :: l)) : Has G H (r :: q :: l) := h.perm (List.Perm.swap _ _ _)
theorem Has.drop2 {q r : Addr × HO} (h : Has G H (q :: r :: l)) : Has G H (q :: l) := h.sub ((List.sublist_cons_self _ _).cons₂ _)
theorem Has.free (h : Has G H l) {a : Addr} (n : H a = none) : G a = none := Evl.fresh_back h.ex n
end
/-! the draws -/
def WellO (k : Nat) (o : HO) : Prop := ∃ a b c : Int, o = wl a b c ∧ 0 ≤ a ∧ 0 ≤ b ∧ b ≤ k ∧ 0 ≤ c ∧ c < 2 ^ 81
theorem WellO.up {j k : Nat} {o : HO} (h : WellO j o) (e : j ≤ k) : WellO k o := by
  obtain ⟨a, b, c, h1, h2, h3, h4, h5⟩ := h
  exact ⟨a, b, c, h1, h2, h3, by omega, h5⟩
def spDrawsW : Sp := fun vs H Q _ => ∃ c : Int, vs = [.int c] ∧ ∀ p o, H p = none → WellO 0 o → Q (.ref p) (upd H p o)
def spDipW : Sp := fun vs H Q _ => ∃ (p : Addr) (n : Nat) (o : HO) (k : Nat), vs = [.ref p, .int n] ∧ H p = some o ∧ WellO k o ∧ k < 10 ^ 9 ∧ 0 < n ∧ (n : Int) < 2 ^ 200 ∧ ∀ (r : Nat) (o' : HO), r < n → WellO (k + 1) o' → Q (.int r) (upd H p o')
section
variable {P : Program} {w : World} {K : PySem.W.Frag} {mg : Str → Option Value} {base : Heap}
theorem Ok.imp {k : Nat} {x : Str} {ps : List Str} {sp sp' : Sp} (O : Ok P w K mg base k x ps sp) (h : ∀ vs H Q E, sp' vs H Q E → sp vs H Q E) : Ok P w K mg base k x ps sp' := by
  obtain ⟨f, fd, F, r⟩ := O
  exact ⟨f, fd, F.imp h, r⟩
theorem ok_drawsW (O : Ok P w K mg base 1 "_law_draws_of" ["cell"] spDraws) : Ok P w K mg base 1 "_law_draws_of" ["cell"] spDrawsW := O.imp fun vs H Q E h => by
  obtain ⟨c, rfl, q⟩ := h
  exact ⟨c, rfl, fun p hp a b ha hb hc => q p _ hp ⟨a, 0, b, rfl, ha, Int.le_refl _, Int.le_refl _, hb, hc⟩⟩
theorem ok_dipW (O : Ok P w K mg base 1 "_law_dip" ["well", "upto"] spDip) : Ok P w K mg base 1 "_law_dip" ["well", "upto"] spDipW := O.imp fun vs H Q E h => by
  obtain ⟨p, n, o, k, rfl, hp, ⟨a, b, c, rfl, ha, hb, hk, hc, hc'⟩, hk', hn, hn', q⟩ := h
  refine ⟨p, n, a, b, c, rfl, hp, by omega, hn', ha, hb, by omega, hc, hc', fun r a' b' r0 r1 a0 b0 b1 => ?_⟩
  have e : r = ((r.toNat : Nat) : Int) := by omega
  rw [e]
  exact q r.toNat _ (by omega) ⟨a', b', c, rfl, a0, by omega, by omega, hc, hc'⟩
def spOneSign : Sp := fun vs H Q _ => ∃ (G : Hp) (l : List (Addr × HO)) (p : Addr) (o : HO) (k n : Nat), vs = [.ref p, .int n] ∧ Has G H ((p, o) :: l) ∧ WellO k o ∧ k < 10 ^ 8 ∧ 0 < n ∧ (n : Int) < 2 ^ 200 ∧
  ∀ (G' H' : Hp) (o' : HO) (x : V) (s : Sgn), Ex G G' → Has G' H' ((p, o') :: l) → WellO (k + 2) o' → s.1 < n → At G' x (dSgn s) → Q x H'
def barOk (n : Nat) (b : Bar) : Prop := b ≠ [] ∧ b.length ≤ 2 ∧ (∀ s ∈ b, s.1 < n) ∧ b.Pairwise fun s t => s.1 < t.1
def spOneBar : Sp := fun vs H Q _ => ∃ (G : Hp) (l : List (Addr × HO)) (p : Addr) (o : HO) (k n : Nat), vs = [.ref p, .int n] ∧ Has G H ((p, o) :: l) ∧ WellO k o ∧ k < 10 ^ 7 ∧ 0 < n ∧ (n : Int) < 2 ^ 200 ∧
  ∀ (G' H' : Hp) (o' : HO) (x : V) (b : Bar), Ex G G' → Has G' H' ((p, o') :: l) → WellO (k + 5) o' → barOk n b → At G' x (dBar b) → Q x H'
theorem alike_sgn (s t : Sgn) : PySem.W.alike (dSgn s) (dSgn t) = true := by
  unfold dSgn
  simp [PySem.W.alike, PySem.W.alikeAll]
theorem sgn_sort {ds : List Sgn} : PySem.W.AllAlike (ds.map dSgn) ∧ PySem.W.Sortable (ds.map dSgn) := by
  refine ⟨fun d hd d' hd' => ?_, .inl fun d hd => ?_⟩
  · obtain ⟨s, _, rfl⟩ := List.mem_map.mp hd
    obtain ⟨t, _, rfl⟩ := List.mem_map.mp hd'
    exact alike_sgn s t
  · obtain ⟨s, _, rfl⟩ := List.mem_map.mp hd
    exact ⟨_, _, rfl⟩
theorem perm_back {α β : Type} {f : α → β} : ∀ {m : List α} {l : List β}, l.Perm (m.map f) → ∃ m' : List α, m'.Perm m ∧ l = m'.map f
  | [], l, h => ⟨[], List.Perm.refl _, h.eq_nil⟩
  | a :: m, l, h => by
    obtain ⟨l1, l2, rfl⟩ := List.append_of_mem (h.mem_iff.mpr (show f a ∈ (a :: m).map f from List.mem_cons_self))
    have h2 : (f a :: (l1 ++ l2)).Perm (f a :: m.map f) := (List.perm_middle (a := f a) (l₁ := l1) (l₂ := l2)).symm.trans h
    obtain ⟨m', pm, e⟩ := perm_back h2.cons_inv
    obtain ⟨m1, m2, rfl, rfl, rfl⟩ := List.map_eq_append_iff.mp e.symm
    exact ⟨m1 ++ a :: m2, List.perm_middle.trans (pm.cons a), by rw [List.map_append, List.map_cons]⟩
theorem dep_sgn (s : Sgn) : (dSgn s).depth ≤ 1 := by
  unfold dSgn
  simp [PyData.depth, PyData.depthAll]
theorem sgn_lt {s t : Sgn} (h : PySem.W.dataLt (dSgn t) (dSgn s) = false) (n : s.1 ≠ t.1) : s.1 < t.1 := by
  refine Nat.lt_of_le_of_ne (Nat.le_of_not_lt fun c => ?_) n
  have e : PySem.W.dataLt (dSgn t) (dSgn s) = true := by
    show PyProof.Rows.lexLt PyProof.Rows.itemOrd (Sum.inl 1 :: (Sum.inl (t.1 : Int) :: _)) (Sum.inl 1 :: (Sum.inl (s.1 : Int) :: _)) = true
    rw [PyProof.Rows.lex_self, PyProof.Rows.lex_diff (O := PyProof.Rows.itemOrd) (fun e => by
      have := Sum.inl.inj e
      omega)]
    show decide ((t.1 : Int) < (s.1 : Int)) = true
    exact decide_eq_true (by omega)
  rw [e] at h
  cases h
end
end TW
set_option Elab.async false
set_option linter.all false
set_option maxRecDepth 100000
set_option maxHeartbeats 4000000
namespace TW
open PySem PySem.Spec PyProof.Rows L2
section
variable {P : Program} {w : World} {K : PySem.W.Frag} {mg : Str → Option Value} {base : Heap}
def spSomeBars : Sp := fun vs H Q _ => ∃ (G : Hp) (l : List (Addr × HO)) (p : Addr) (o : HO) (k n most : Nat), vs = [.ref p, .int n, .int most] ∧ Has G H ((p, o) :: l) ∧ WellO k o ∧ k < 10 ^ 6 ∧ 0 < n ∧ (n : Int) < 2 ^ 200 ∧ most ≤ 100 ∧
  ∀ (G' H' : Hp) (o' : HO) (x : V) (bs : List Bar), Ex G G' → Has G' H' ((p, o') :: l) → WellO (k + 501) o' → (∀ b ∈ bs, barOk n b) → bs.length ≤ most → At G' x (dBars bs) → Q x H'
def spWidth : Sp := fun vs H Q _ => ∃ (G : Hp) (l : List (Addr × HO)) (p : Addr) (o : HO) (k : Nat), vs = [.ref p] ∧ Has G H ((p, o) :: l) ∧ WellO k o ∧ k < 10 ^ 8 ∧
  ∀ (H' : Hp) (o' : HO) (n : Nat), Has G H' ((p, o') :: l) → WellO (k + 1) o' → 0 < n → n ≤ 6 → Q (.int n) H'
def spLotOf : Sp := fun vs H Q _ => ∃ (m : Int) (n : Nat), vs = [.int m, .int n] ∧ n ≤ 1000 ∧ ∀ (t : Addr) (H' : Hp), H t = none → Ex H H' → H' t = some (.tup ((lotOf m n).map V.int)) → Q (.ref t) H'
theorem lot_up (m : Int) (n : Nat) : lotOf m (n + 1) = lotOf m n ++ (if bitB m n = true then [(n : Int)] else []) := by
  unfold lotOf
  rw [List.range_succ, List.filter_append, List.map_append]
  cases h : bitB m n with
  | true => rw [List.filter_cons, if_pos h]; rfl
  | false => rw [List.filter_cons, if_neg (by rw [h]; decide)]; rfl
theorem lot_len (m : Int) (n : Nat) : (lotOf m n).length ≤ n := by
  unfold lotOf
  rw [List.length_map]
  exact Nat.le_trans (List.length_filter_le _ _) (by rw [List.length_range]; exact Nat.le_refl _)
theorem bit_eq (m : Int) (k : Nat) : decide (V.int (m / 2 ^ k % 2 ^ 1) = V.int 1) = bitB m k := by
  unfold bitB
  rw [Int.pow_one]
  by_cases h : m / 2 ^ k % 2 = 1
  · rw [h]
    rfl
  · rw [decide_eq_false h, decide_eq_false]
    intro e
    exact h (V.int.inj e)
/-! _law_mixed -/
theorem sc_law_mixed : FnScope ["well", "row", "rest", "out", "k"] ["well", "row"] (defScope s__law_mixed) := ⟨rfl, rfl, rfl, by decide +kernel, rfl, by decide +kernel, by decide +kernel⟩
def spMixed (K : PySem.W.Frag) : Sp := fun vs H Q _ => ∃ (G : Hp) (l : List (Addr × HO)) (p a : Addr) (o : HO) (k : Nat) (xs : List V), vs = [.ref p, .ref a] ∧ Has G H ((p, o) :: l) ∧ WellO k o ∧ k < 10 ^ 7 ∧ SqL K H a xs ∧ a ≠ p ∧ xs.length ≤ 1000 ∧
  ∀ (H' : Hp) (o' : HO) (t : Addr) (ys : List V), Has G H' ((t, .lst ys) :: (p, o') :: l) → WellO (k + 1000) o' → ys.Perm xs → Q (.ref t) H'
theorem perm_erase {α : Type} : ∀ {l : List α} {i : Nat} {x : α}, l[i]? = some x → (x :: l.eraseIdx i).Perm l
  | [], _, _, h => by cases h
  | y :: l, 0, x, h => by
    cases h
    exact List.Perm.refl _
  | y :: l, i + 1, x, h => (List.Perm.swap _ _ _).trans ((perm_erase (l := l) (i := i) h).cons y)
theorem ok_mixed (D : Dfn K mg "_law_mixed" s__law_mixed ["well", "row"]) (z : Z mg) (O_dip : Ok P w K mg base 1 "_law_dip" ["well", "upto"] spDipW) : Ok P w K mg base 2 "_law_mixed" ["well", "row"] (spMixed K) := D.ok fun f fd F => by
  refine F.ok sc_law_mixed (fun vs H Q E h => ?_) (fun cdv A outer s H vs Q E hr h => ?_)
  · obtain ⟨G, l, p, a, o, k, xs, rfl, _⟩ := h
    rfl
  · obtain ⟨G, l, p, a, o, k, xs, rfl, S, wo, hk, hs, nap, hl, q⟩ := h
    refine ⟨_, (pss_cons (ps_set (i := 2) sc_law_mixed.nd rfl (Or.inl rfl) (pe_callTy call_list_of (by rfl) z.list (by decide +kernel) (pa_cons (pv 1) pa_nil)))
      (pss_cons (ps_set (i := 3) sc_law_mixed.nd rfl (Or.inl rfl) (pe_lst pa_nil))
      (pss_cons (ps_for PassesOwn.never rfl (pi_range1 (by rfl) z.range (pa_cons (pe_callB call_len_seq (by rfl) z.len PySem.boot_len (pa_cons (pv 1) pa_nil)) pa_nil)) (pg_name (i := 4) sc_law_mixed.nd rfl (Or.inl rfl))
      (pss_one (ps_expr (pe_bm PySem.F.plainAttrs_list PySem.F.slot_list_append PySem.F.type_list_append mt_append (pv 3) (pa_cons (pe_bm PySem.F.plainAttrs_list PySem.F.slot_list_pop PySem.F.type_list_pop mt_popAt (pv 2) (pa_cons (pe_o O_dip hr (pa_cons (pv 0) (pa_cons (pe_callB call_len_seq (by rfl) z.len PySem.boot_len (pa_cons (pv 2) pa_nil)) pa_nil))) pa_nil)) pa_nil)))))
      (pss_one (ps_ret (pv 3)))))), ?_⟩
    refine ⟨_, rfl, a, xs, rfl, .inl hs, fun t nt => ?_⟩
    have e1 : Ex H (upd H t (.lst xs)) := Evl.Ex.new nt
    have S1 := S.new (o := .lst xs) nt
    generalize upd H t (.lst xs) = H1 at S1 e1
    refine ⟨sz (by show 0 ≤ 100000; decide), fun u nu => ?_⟩
    have e2 := e1.trans (Evl.Ex.new (o := .lst []) nu)
    have S2 := S1.new (o := .lst []) nu
    generalize upd H1 u (.lst []) = H2 at S2 e2
    refine ⟨_, rfl, a, xs, rfl, .inl (Evl.ex_l e2 hs), _, rfl, by omega, by omega, ?_⟩
    rw [show ((xs.length : Nat) : Int).toNat = xs.length by omega]
    refine for_range (lo := 0) (n := xs.length) (fun i σ H' => ∃ (v4 : Option V) (o' : HO) (rs os : List V), σ = [some (.ref p), some (.ref a), some (.ref t), some (.ref u), v4] ∧ Has G H' ((u, .lst os) :: (t, .lst rs) :: (p, o') :: l) ∧ WellO (k + i) o' ∧ (os ++ rs).Perm xs ∧ os.length = i) ⟨none, o, xs, [], rfl, S2, wo, List.Perm.refl _, rfl⟩ ?_ ?_
    · rintro i σ H3 hi ⟨v4, o3, rs, os, rfl, S3, wo3, pm, lo⟩
      have lr : rs.length = xs.length - i := by
        have := pm.length_eq
        rw [List.length_append] at this
        omega
      refine ⟨_, rfl, .inl ⟨rfl, _, Evl.sq_of (S3.get 0 rfl)⟩, _, rfl, .inl ⟨rfl, _, Evl.sq_of (S3.get 1 rfl)⟩, _, rfl, _, rfl, t, rs, rfl, .inl (Evl.sq_of (S3.get 1 rfl)), p, rs.length, o3, k + i, rfl, S3.get 2 rfl, wo3, by omega, by omega, by omega, fun r o4 hr4 wo4 => ?_⟩
      have S4 : Has G _ ((u, .lst os) :: (t, .lst rs) :: (p, o4) :: l) := S3.set 2 rfl
      generalize upd H3 p o4 = H4 at S4
      have hg : rs[r]? = some rs[r] := List.getElem?_eq_getElem hr4
      refine ⟨t, rs, ((r : Nat) : Int), r, rs[r], rfl, rfl, S4.get 1 rfl, by omega, by omega, ?_, hg, ?_⟩
      · rw [show ((rs.length : Nat) : Nat) = rs.length from rfl]
        exact (PyProof.Rows.seqIndex_at (by omega) (by omega)).trans (by rw [Int.toNat_natCast])
      have S5 : Has G _ ((u, .lst os) :: (t, .lst (rs.eraseIdx r)) :: (p, o4) :: l) := S4.set 1 rfl
      generalize upd H4 t (.lst (rs.eraseIdx r)) = H5 at S5
      refine ⟨u, os, _, rfl, rfl, S5.get 0 rfl, szl (by omega), some (.int (0 + (i : Int))), o4, rs.eraseIdx r, os ++ [rs[r]], rfl, S5.set 0 rfl, wo4, ?_, by rw [List.length_append, lo]; rfl⟩
      rw [List.append_assoc]
      exact ((perm_erase hg).append_left os).trans pm
    · rintro σ H3 ⟨v4, o3, rs, os, rfl, S3, wo3, pm, lo⟩
      have lr : rs = [] := by
        have := pm.length_eq
        rw [List.length_append] at this
        exact List.length_eq_zero_iff.mp (by omega)
      subst lr
      rw [List.append_nil] at pm
      refine ⟨_, rfl, ?_⟩
      exact q _ o3 u os S3.drop2 (wo3.up (by omega)) pm
end
end TW
set_option Elab.async false
set_option linter.all false
set_option maxRecDepth 100000
set_option maxHeartbeats 4000000
namespace TW
open PySem PySem.Spec PyProof.Rows L2
theorem lay_ints : ∀ ns : List Int, PyData.canLayAll0 (ns.map .int) = true
  | [] => rfl
  | n :: ns => by
    show (PyData.canLay0 (.int n) && PyData.canLayAll0 (ns.map .int)) = true
    rw [lay_ints ns]
    rfl
theorem shaped_ints (ns : List Int) : SeqAt.shaped (.list (ns.map .int)) = true := by
  unfold SeqAt.shaped
  rw [Bool.and_eq_true, decide_eq_true_eq]
  refine ⟨lay_ints ns, ?_⟩
  have := depth_tupD ns
  unfold tupD at this
  have e : (PyData.list (ns.map .int)).depth = (PyData.tuple (ns.map .int)).depth := by simp [PyData.depth]
  rw [e]
  omega
theorem eqv_nil (ns : List Int) : PyData.eqv (.list (ns.map .int)) (.list []) = decide (ns = []) := by
  cases ns with
  | nil => rfl
  | cons n ns => simp [PyData.eqv, PyData.eqvAll]
def masksOk (n : Nat) (ms : List Int) : Prop := Up ms ∧ ms ≠ [] ∧ ∀ m ∈ ms, 0 ≤ m ∧ m < 2 ^ n
section
variable {P : Program} {w : World} {K : PySem.W.Frag} {mg : Str → Option Value} {base : Heap}
def spSomeMasks : Sp := fun vs H Q _ => ∃ (G : Hp) (l : List (Addr × HO)) (p : Addr) (o : HO) (k n : Nat), vs = [.ref p, .int n] ∧ Has G H ((p, o) :: l) ∧ WellO k o ∧ k < 10 ^ 5 ∧ 0 < n ∧ n ≤ 6 ∧
  ∀ (G' H' : Hp) (o' : HO) (t : Addr) (ms : List Int), Ex G G' → Has G' H' ((t, .lst (ms.map V.int)) :: (p, o') :: l) → WellO (k + 1000) o' → masksOk n ms → Q (.ref t) H'
theorem sort_up {ns ns' : List Int} (pm : ns'.Perm ns) (h : ns'.Pairwise (· ≤ ·)) (nd : ns.Nodup) : Up ns' := up_of_le h (pm.nodup_iff.mpr nd)
def rangeI (n : Nat) : List Int := (List.range n).map fun k : Nat => (k : Int)
theorem rangeI_up (n : Nat) : Up (rangeI n) := by
  unfold rangeI Up
  rw [List.pairwise_map]
  exact List.pairwise_lt_range.imp fun h => by omega
theorem rangeI_mem {n : Nat} {x : Int} : x ∈ rangeI n ↔ 0 ≤ x ∧ x < n := by
  unfold rangeI
  rw [List.mem_map]
  constructor
  · rintro ⟨k, hk, rfl⟩
    have := List.mem_range.mp hk
    omega
  · rintro ⟨h1, h2⟩
    exact ⟨x.toNat, List.mem_range.mpr (by omega), by omega⟩
theorem rangeI_get {n i : Nat} (h : i < n) : (rangeI n)[i]? = some (i : Int) := by
  unfold rangeI
  rw [List.getElem?_map, List.getElem?_range h]
  rfl
theorem pow_small {n : Nat} (h0 : 0 < n) (h : n ≤ 6) : ∃ b : Nat, (1 : Int) * 2 ^ n = (b : Int) ∧ b = 2 ^ n ∧ 0 < b ∧ b ≤ 64 := by
  have : n = 1 ∨ n = 2 ∨ n = 3 ∨ n = 4 ∨ n = 5 ∨ n = 6 := by omega
  rcases this with rfl | rfl | rfl | rfl | rfl | rfl
  · exact ⟨2, rfl, rfl, by decide, by decide⟩
  · exact ⟨4, rfl, rfl, by decide, by decide⟩
  · exact ⟨8, rfl, rfl, by decide, by decide⟩
  · exact ⟨16, rfl, rfl, by decide, by decide⟩
  · exact ⟨32, rfl, rfl, by decide, by decide⟩
  · exact ⟨64, rfl, rfl, by decide, by decide⟩
theorem shl_ok {n : Nat} (h : n ≤ 6) : CShl 1 (n : Int) := ⟨by omega, by
  have : Builtin.Int.intBits 1 = 1 := by decide +kernel
  rw [this]
  omega⟩
theorem masks_tail {n : Nat} {ns ns' : List Int} (pm : ns'.Perm ns) (h : ns'.Pairwise (· ≤ ·)) (nd : ns.Nodup) (ne : ns ≠ []) (hb : ∀ m ∈ ns, 0 ≤ m ∧ m < 2 ^ n) : masksOk n ns' :=
  ⟨sort_up pm h nd, fun e => ne (by rw [e] at pm; exact pm.symm.eq_nil), fun m hm => hb m (pm.mem_iff.mp hm)⟩
theorem PE.imp {X : Cx} {e : Expr} {t t' : TE} (h : PE X e t) (i : ∀ σ H Q, t' σ H Q → t σ H Q) : PE X e t' := ⟨fun pins s σ H Q I q => h.run pins s σ H Q I (i σ H Q q)⟩
theorem PT.imp {X : Cx} {e : Expr} {t t' : TT} (h : PT X e t) (i : ∀ σ H Q, t' σ H Q → t σ H Q) : PT X e t' := ⟨fun pins s σ H Q I q => h.run pins s σ H Q I (i σ H Q q)⟩
/-- 20 or 7 -/
def tMost : TE := fun σ H Q => ∃ i j : Int, σ[2]? = some (some (.int i)) ∧ σ[1]? = some (some (.int j)) ∧ ∀ d : Nat, 0 < d → d ≤ 20 → Q (.int d) H
/-- row == [] or manner == 4 and spare not in row -/
def tTest7 : TT := fun σ H Q => ∃ (i j : Int) (a : Addr) (ns : List Int), σ[2]? = some (some (.int i)) ∧ σ[6]? = some (some (.int j)) ∧ σ[3]? = some (some (.ref a)) ∧ H a = some (.lst (ns.map V.int)) ∧
  ∀ c H', Ex H H' → (c = true → j ∉ ns) → (c = false → ns ≠ []) → Q c H'
/-- manner > 3 and len(row) > 1 and a dip -/
def tTest8 : TT := fun σ H Q => ∃ (i : Int) (a p : Addr) (ns : List Int) (G : Hp) (l : List (Addr × HO)) (o : HO) (k : Nat), σ[2]? = some (some (.int i)) ∧ σ[3]? = some (some (.ref a)) ∧ σ[0]? = some (some (.ref p)) ∧ Has G H ((a, .lst (ns.map V.int)) :: (p, o) :: l) ∧ WellO k o ∧ k < 10 ^ 6 ∧
  ∀ c H' o', Has G H' ((a, .lst (ns.map V.int)) :: (p, o') :: l) → WellO (k + 1) o' → (c = true → 1 < ns.length) → Q c H'
theorem erase_map {α β : Type} (f : α → β) : ∀ (l : List α) (r : Nat), (l.map f).eraseIdx r = (l.eraseIdx r).map f
  | [], _ => rfl
  | _ :: _, 0 => rfl
  | x :: l, r + 1 => congrArg (f x :: ·) (erase_map f l r)
theorem PS.imp {X : Cx} {e : Stmt} {t t' : TS} (h : PS X e t) (i : ∀ D σ H, t' D σ H → t D σ H) : PS X e t' := ⟨fun pins s σ H D I q => h.run pins s σ H D I (i D σ H q)⟩
def tStmt7 : TS := fun D σ H => ∃ (i j : Int) (a : Addr) (ns : List Int) (G : Hp) (l : List (Addr × HO)), σ[2]? = some (some (.int i)) ∧ σ[6]? = some (some (.int j)) ∧ σ[3]? = some (some (.ref a)) ∧ Has G H ((a, .lst (ns.map V.int)) :: l) ∧ ns.length ≤ 1000 ∧
  ∀ H' ns', Has G H' ((a, .lst (ns'.map V.int)) :: l) → ns' ≠ [] → (ns' = ns ∨ (ns' = ns ++ [j] ∧ j ∉ ns)) → D.nx σ H'
def tStmt8 : TS := fun D σ H => ∃ (i : Int) (a p : Addr) (ns : List Int) (G : Hp) (l : List (Addr × HO)) (o : HO) (k : Nat), σ[2]? = some (some (.int i)) ∧ σ[3]? = some (some (.ref a)) ∧ σ[0]? = some (some (.ref p)) ∧ Has G H ((a, .lst (ns.map V.int)) :: (p, o) :: l) ∧ WellO k o ∧ k < 10 ^ 6 ∧ ns.length ≤ 1000 ∧
  ∀ H' o' ns', Has G H' ((a, .lst (ns'.map V.int)) :: (p, o') :: l) → WellO (k + 2) o' → (ns' = ns ∨ (1 < ns.length ∧ ∃ r, ns' = ns.eraseIdx r)) → D.nx σ H'
end
end TW
set_option Elab.async false
set_option linter.all false
set_option maxRecDepth 100000
set_option maxHeartbeats 4000000
/-! sets of tuples of ints, up to 76 of them: the table of 128 places takes no more -/
namespace TW
open PySem PySem.Spec PyProof.Rows L2
/-- the set at a with the rows L, at most 76 -/
structure SW (P : Program) (w : World) (h : Heap) (a : Addr) (L : List (Addr × List Int)) (es : Array (Int × Value)) (ep : Nat) (t : SetTable) : Prop where
  ob : ∃ o, h.get? a = some o ∧ o.ExactSet ∧ o.data = .set es ep t
  rows : es.toList = rowsOf P w L
  tab : TabOk t (L.map fun p => thash P w p.2)
  nd : (L.map (·.2)).Nodup
  tup : ∀ p ∈ L, IsT P w h p.2 p.1
  plain : t.plain = true
  led : w.params.followText "set-order" = true ∨ t.led = true
  room : L.length * 5 < t.mask * 3
  most : L.length ≤ 76
section
variable {P : Program} {w : World} {A : Around} {E : Value → Shared → Prop} {s : Shared} {a : Addr} {L : List (Addr × List Int)} {es : Array (Int × Value)} {ep : Nat} {t : SetTable}
theorem SW.few (R : SW P w s.heap a L es ep t) (h : L.length < 64) : SetTR P w s.heap a L es ep t := ⟨R.ob, R.rows, R.tab, R.nd, R.tup, R.plain, R.led, R.room, h⟩
theorem SW.of (R : SetTR P w s.heap a L es ep t) : SW P w s.heap a L es ep t := ⟨R.ob, R.rows, R.tab, R.nd, R.tup, R.plain, R.led, R.room, Nat.le_trans (Nat.le_of_lt R.few) (by decide)⟩
theorem SW.size (R : SW P w s.heap a L es ep t) : es.size = L.length := by
  have h := congrArg List.length R.rows
  simpa [rowsOf] using h
theorem SW.fitsW (B : SW P w s.heap a L es ep t) : t.fits es.size = true := by
  have p := B.tab.sz
  rw [List.length_map] at p
  have q := B.size
  have r := B.room
  unfold SetTable.fits SetTable.fill
  rw [B.tab.dm, Bool.and_eq_true, beq_iff_eq, decide_eq_true_eq]
  exact ⟨by omega, by show t.place.size + 0 ≤ t.mask; omega⟩
theorem SW.entryW (B : SW P w s.heap a L es ep t) {n : Nat} {q : Addr × List Int} (hq : L[n]? = some q) : es[n]? = some (thash P w q.2, Value.ref q.1) := by
  have e : es.toList[n]? = (rowsOf P w L)[n]? := by rw [B.rows]
  rw [Array.getElem?_toList] at e
  rw [e]
  show (L.map _)[n]? = _
  rw [List.getElem?_map, hq]
  rfl
/-- the places that a search passes -/
abbrev spot (P : Program) (w : World) (t : SetTable) (k : List Int) (c : Nat) : Nat := way t.mask (thash P w k) c
abbrev pbe (P : Program) (w : World) (t : SetTable) (k : List Int) (c : Nat) : SetTable.Probe := nth t.mask (runAt t.mask (SetTable.bits (thash P w k) % (t.mask + 1)) (SetTable.bits (thash P w k))) c
theorem pbe_go (k : List Int) (c q : Nat) : nth t.mask (pbe P w t k c) q = pbe P w t k (c + q) := (nth_add t.mask c _ q).symm
theorem pbe_spot (k : List Int) (c q : Nat) : (nth t.mask (pbe P w t k c) q).j = spot P w t k (c + q) := congrArg SetTable.Probe.j (pbe_go k c q)
theorem pbe_bare (k : List Int) (c : Nat) : (pbe P w t k c).dummy = none := by
  have all : ∀ (n : Nat) (p : SetTable.Probe), p.dummy = none → (nth t.mask p n).dummy = none := by
    intro n
    induction n with
    | zero => exact fun p h => h
    | succ n ih =>
      intro p h
      refine ih (adv t.mask p) ?_
      unfold adv
      split <;> exact h
  exact all c _ rfl
/-- a search among up to 76 tuples, from its c-th place on; N is the first free one -/
theorem seek (B : SW P w s.heap a L es ep t) {x : Addr} {k : List Int} (ix : IsT P w s.heap k x) (ru : A.units < cLine) {N : Nat} (tN : N < 10 * SetTable.turns t.mask) (nN : spot P w t k N ∉ t.place.toList) (bN : ∀ c, c < N → spot P w t k c ∈ t.place.toList)
    {Q : SetFound → Shared → Prop} (yes : k ∈ L.map (·.2) → Q (.there none) s) (no : k ∉ L.map (·.2) → Q (.free (spot P w t k N) false) s) (m : Nat) :
    ∀ (c : Nat) (pr : Option SetTable.Probe), pr.getD (t.probeStart (thash P w k)) = pbe P w t k c → c ≤ N → N - c < m → (∀ (n : Nat) q, L[n]? = some q → q.2 = k → ∃ d, c ≤ d ∧ d < N ∧ t.place.toList[n]? = some (spot P w t k d)) →
      wpAny (model P w) A (setSearchFrom a (.ref x) (thash P w k) true m pr) Q E s := by
  induction m with
  | zero => exact fun c pr _ _ lt _ => absurd lt (Nat.not_lt_zero _)
  | succ m ih =>
    intro c pr hp hc lt later
    obtain ⟨o, ho, _, dat⟩ := B.ob
    have notW : ¬ t.gaveWay = true := by
      unfold SetTable.gaveWay
      rw [mask_odd B.tab.mok]
      decide
    rw [setSearchFrom_succ]
    refine wpAny_bind (wpAny_setState_of ho dat B.fitsW ?_)
    dsimp only
    refine wp_if_neg notW ?_
    try refine wpAny_bind (wpAny_pure ?_)
    have told := go_spec t B.tab.ris B.tab.dm (fun i => (es[i]?.map (·.1)).getD 0) (thash P w k) (10 * SetTable.turns t.mask) (N - c) (pbe P w t k c) (pbe_bare k c) (by omega) (fun q hq => by rw [pbe_spot]; exact bN _ (by omega)) (by rw [pbe_spot, Nat.add_sub_cancel' hc]; exact nN)
    have at_ : ∀ (n : Nat) q, L[n]? = some q → (es[n]?.map (·.1)).getD 0 = thash P w q.2 := fun n q hq => by
      rw [B.entryW hq]
      rfl
    rcases told with ⟨q, i, hq, hi, hh, free, found⟩ | ⟨free, found⟩
    · rw [pbe_spot, pbe_go] at found
      rw [hp, show t.probe (fun i => (es[i]?.map (·.1)).getD 0) (thash P w k) (pbe P w t k c) = _ from found]
      dsimp only
      rw [pbe_spot] at hi
      obtain ⟨r, hr⟩ : ∃ r, L[i]? = some r := by
        have l1 := (List.getElem?_eq_some_iff.mp hi).1
        have l2 := B.tab.sz
        rw [List.length_map] at l2
        rw [Array.length_toList] at l1
        exact ⟨_, List.getElem?_eq_getElem (by omega)⟩
      have mem := List.mem_of_getElem? hr
      have tr := B.tup r mem
      have onward : wpAny (model P w) A (searchRest a (.ref x) (thash P w k) true m es t (spot P w t k (c + q)) i (pbe P w t k (c + (q + 1)))) Q E s := by
        unfold searchRest
        rw [B.entryW hr]
        dsimp only
        refine wpAny_bind (wpAny_holding (wpAny_eqBool_tuple ru tr ix ?_))
        refine wpAny_bind (wpAny_setState_of ho dat B.fitsW ?_)
        dsimp only
        by_cases same : r.2 = k
        · exact wp_if_pos (by simp [same]) (wpAny_pure (yes (List.mem_map.mpr ⟨r, mem, same⟩)))
        · refine wp_if_neg (by simp [same]) ?_
          try refine wpAny_bind (wpAny_pure ?_)
          have sl : t.slot (spot P w t k (c + q)) = .live i := slot_live B.tab.ris hi
          rw [sameMem]
          dsimp only
          simp only [if_true, sl, B.entryW hr]
          refine wpAny_bind (wpAny_isSame_ref_self (wpAny_bind (wpAny_pure ?_)))
          simp only [if_true]
          refine wp_if_neg (by simp [same]) ?_
          refine ih (c + (q + 1)) _ rfl (by omega) (by omega) fun n0 r0 h0 k0 => ?_
          obtain ⟨d, d1, d2, d3⟩ := later n0 r0 h0 k0
          refine ⟨d, ?_, d2, d3⟩
          have h1 : ¬ d < c + q := fun z => free (d - c) n0 (by omega) (by rw [pbe_spot, Nat.add_sub_cancel' d1]; exact d3) ((at_ n0 r0 h0).trans (by rw [k0]))
          have h2 : d ≠ c + q := fun z => by
            rw [z] at d3
            have sl0 := slot_live B.tab.ris d3
            rw [sl] at sl0
            injection sl0 with sl0
            rw [← sl0, hr] at h0
            cases h0
            exact same k0
          omega
      by_cases ld : t.led = true
      · refine wp_if_neg (by simp [ld]) ?_
        try refine wpAny_bind (wpAny_pure ?_)
        exact onward
      · refine wp_if_pos (by simp [ld]) (wpAny_bind (seen_tup ix (fun y hy => ?_) ?_))
        · obtain ⟨e, he, rfl⟩ := List.mem_map.mp hy
          have he1 : e ∈ es ∧ e.1 = thash P w k := by simpa using he
          have he2 : e ∈ es.toList := by simpa using he1.1
          rw [B.rows] at he2
          obtain ⟨p2, hp2, rfl⟩ := List.mem_map.mp he2
          exact ⟨p2.2, p2.1, rfl, B.tup p2 hp2⟩
        · refine wp_if_neg (by decide) ?_
          try refine wpAny_bind (wpAny_pure ?_)
          exact onward
    · rw [pbe_spot, Nat.add_sub_cancel' hc] at found
      rw [hp, show t.probe (fun i => (es[i]?.map (·.1)).getD 0) (thash P w k) (pbe P w t k c) = _ from found]
      dsimp only
      refine wpAny_pure (no fun hm => ?_)
      obtain ⟨r0, h0, k0⟩ := List.mem_map.mp hm
      obtain ⟨n0, hn0⟩ := List.mem_iff_getElem?.mp h0
      obtain ⟨d, d1, d2, d3⟩ := later n0 r0 hn0 k0
      exact free (d - c) n0 (by omega) (by rw [pbe_spot, Nat.add_sub_cancel' d1]; exact d3) ((at_ n0 r0 hn0).trans (by rw [k0]))
theorem seekW (B : SW P w s.heap a L es ep t) {x : Addr} {k : List Int} (ix : IsT P w s.heap k x) (ru : A.units < cLine) {Q : SetFound → Shared → Prop} (yes : k ∈ L.map (·.2) → Q (.there none) s)
    (no : ∀ N, k ∉ L.map (·.2) → spot P w t k N ∉ t.place.toList → (∀ c, c < N → spot P w t k c ∈ t.place.toList) → Q (.free (spot P w t k N) false) s) : wpAny (model P w) A (setSearch a (.ref x) (thash P w k) true) Q E s := by
  have r := B.room
  obtain ⟨N, tN, nN, bN⟩ := B.tab.first (by rw [List.length_map]; omega) (thash P w k)
  have few : N < 100000 := by
    have : 10 * SetTable.turns t.mask ≤ 1420 := by
      unfold SetTable.turns
      rcases B.tab.mok with e | e | e <;> omega
    omega
  unfold setSearch
  refine seek B ix ru tN nN bN yes (fun h => no N h nN bN) 100000 0 none rfl (Nat.zero_le _) (by omega) fun n q hq hk => ?_
  have h1 : (L.map fun p => thash P w p.2)[n]? = some (thash P w k) := by rw [List.getElem?_map, hq, ← hk]; rfl
  have h2 : n < t.place.toList.length := by
    have l1 := (List.getElem?_eq_some_iff.mp hq).1
    have l2 := B.tab.sz
    rw [List.length_map] at l2
    rw [Array.length_toList]
    omega
  have h3 := List.getElem?_eq_getElem h2
  obtain ⟨d, d1, d2⟩ := B.tab.before nN h1 h3
  exact ⟨d, Nat.zero_le _, d1, h3.trans (congrArg some d2.symm)⟩
/-- the 64th, and more -/
theorem add_last (R : SW P w s.heap a L es ep t) {x : Addr} {k : List Int} (hx : IsT P w s.heap k x) (hu : A.units < cLine) (full : 63 ≤ L.length) (lt : L.length < 76) {Q : Bool → Shared → Prop}
    (go : ∀ b g L' es' ep' t', Heap.SameBut a s.heap g → SW P w g a L' es' ep' t' → (k ∈ L.map (·.2) → L' = L) → (k ∉ L.map (·.2) → L'.Perm ((x, k) :: L)) → Q b { s with heap := g }) :
    wpAny (model P w) A (setAddHashed a (.ref x) (thash P w k)) Q E s := by
  obtain ⟨o, ho, exact_, dat⟩ := R.ob
  have z1 := R.size
  have mask_eq : t.mask = 127 := by
    have := R.room
    rcases R.tab.mok with e | e | e <;> omega
  unfold setAddHashed
  rw [show (100000 : Nat) = Nat.succ 99999 from rfl, setAddHashedIn_succ]
  refine wpAny_holding (wpAny_bind (wpAny_setState_of ho dat R.fitsW ?_))
  dsimp only
  refine wp_if_neg (by simp [byScan, Value.scannable]) ?_
  try refine wpAny_bind (wpAny_pure ?_)
  refine wpAny_bind (seekW R hx hu (fun there => wpAny_pure (go false s.heap L es ep t (.refl a s.heap) R (fun _ => rfl) fun z => absurd there z)) fun c absent free busy => ?_)
  dsimp only
  refine wpAny_bind (wpAny_setState_of ho dat R.fitsW ?_)
  dsimp only
  obtain ⟨u1, u2, u3, u4, u5, u6, u7, u8, u9⟩ := R.tab.put free busy
  have plain1 : (t.put (way t.mask (thash P w k) c)).1.plain = true := u6.trans R.plain
  generalize eqp : t.put (way t.mask (thash P w k) c) = tp at u1 u3 u4 u5 u6 u7 u8 u9 plain1 ⊢
  obtain ⟨t1, at_⟩ := tp
  dsimp only at u1 u3 u4 u5 u6 u7 u8 u9 plain1 ⊢
  subst u1
  first
    | refine wp_if_pos plain1 (wpAny_bind (hashBy_tup hx ?_))
    | refine wpAny_bind (wp_if_pos plain1 (hashBy_tup hx ?_))
  simp only [if_true]
  have rows1 : (SetTable.insertAt es (SetTable.below t.place (way t.mask (thash P w k) c)) (thash P w k, Value.ref x)).toList = rowsOf P w (L.take (SetTable.below t.place (way t.mask (thash P w k) c)) ++ (x, k) :: L.drop (SetTable.below t.place (way t.mask (thash P w k) c))) :=
    (SetTable.toList_insertAt _ _ _).trans (by rw [rows_put, R.rows])
  generalize SetTable.below t.place (way t.mask (thash P w k) c) = at_ at u2 u3 rows1 ⊢
  have pm : (L.take at_ ++ (x, k) :: L.drop at_).Perm ((x, k) :: L) := L2.put_perm L at_ (x, k)
  rw [← List.map_take, ← List.map_drop, ← List.map_cons (f := fun p : Addr × List Int => thash P w p.2) (a := (x, k)), ← List.map_append] at u3
  generalize L.take at_ ++ (x, k) :: L.drop at_ = L1 at pm u3 rows1
  have len1 : L1.length = L.length + 1 := by rw [pm.length_eq, List.length_cons]
  have size1 : (SetTable.insertAt es at_ (thash P w k, Value.ref x)).size = L.length + 1 := by
    have h := congrArg List.length rows1
    rw [Array.length_toList] at h
    rw [h]
    simpa [rowsOf] using len1
  generalize SetTable.insertAt es at_ (thash P w k, Value.ref x) = es1 at rows1 size1 ⊢
  refine wpAny_bind (wpAny_storeSet_of ho dat ?_ (by rw [size1, sizeLine_eq]; omega))
  have sb : Heap.SameBut a s.heap (s.heap.update a (Obj.putSet es1 t1)) := Heap.SameBut.update ..
  have ho1 := store_at (es' := es1) (t' := t1) ho dat
  generalize s.heap.update a (Obj.putSet es1 t1) = g at sb ho1 ⊢
  have notFull : ¬ t1.tooFull = true := by
    unfold SetTable.tooFull
    rw [decide_eq_true_eq, u9, List.length_map, u4]
    omega
  first
    | refine wp_if_neg (by simp [notFull]) ?_
    | (refine wpAny_bind (wp_if_neg (by simp [notFull]) (wpAny_pure ?_)))
  refine wpAny_pure (go true g L1 es1 (ep + 1) t1 sb ?_ (fun z => absurd z absent) fun _ => pm)
  refine ⟨⟨_, ho1, ⟨exact_.1, exact_.2.1, exact_.2.2⟩, rfl⟩, rows1, u3, ?_, fun p hp => ?_, plain1, by rw [u5]; exact R.led, by rw [len1, u4]; omega, by omega⟩
  · rw [(pm.map (·.2)).nodup_iff, List.map_cons, List.nodup_cons]
    exact ⟨absent, R.nd⟩
  · rcases List.mem_cons.mp (pm.mem_iff.mp hp) with e | e
    · rw [e]
      exact isT_same hx ho dat sb
    · exact isT_same (R.tup p e) ho dat sb
/-- one more, where there are fewer than 76 -/
theorem add_w (R : SW P w s.heap a L es ep t) {x : Addr} {k : List Int} (hx : IsT P w s.heap k x) (hu : A.units < cLine) (lt : L.length < 76) {Q : Bool → Shared → Prop}
    (go : ∀ b g L' es' ep' t', Heap.SameBut a s.heap g → SW P w g a L' es' ep' t' → (k ∈ L.map (·.2) → L' = L) → (k ∉ L.map (·.2) → L'.Perm ((x, k) :: L)) → Q b { s with heap := g }) :
    wpAny (model P w) A (setAddHashed a (.ref x) (thash P w k)) Q E s := by
  by_cases c : L.length + 1 < 64
  · exact add_at (R.few (by omega)) hx hu c fun b g L' es' ep' t' sb R' c1 c2 => go b g L' es' ep' t' sb (SW.of (s := { s with heap := g }) R') c1 c2
  · exact add_last R hx hu (by omega) lt go
end
end TW
set_option Elab.async false
set_option linter.all false
set_option maxRecDepth 100000
set_option maxHeartbeats 4000000
/-! set(xs) and sorted(set) of lots -/
namespace TW
open PySem PySem.Spec PyProof.Rows L2
section
variable {P : Program} {w : World} {A : Around} {E : Value → Shared → Prop} {s : Shared}
theorem SW.keep {h h' : Heap} {a : Addr} {L : List (Addr × List Int)} {es : Array (Int × Value)} {ep : Nat} {t : SetTable} (R : SW P w h a L es ep t) (ka : ∀ o, h.get? a = some o → h'.get? a = some o) (kt : ∀ p ∈ L, IsT P w h' p.2 p.1) : SW P w h' a L es ep t := by
  obtain ⟨o, ho, r⟩ := R.ob
  exact ⟨⟨o, ka o ho, r⟩, R.rows, R.tab, R.nd, kt, R.plain, R.led, R.room, R.most⟩
/-- the loop that adds the items one by one -/
theorem set_loop {I : Addr} {fp wr : List Addr} {G : Array GenState → Array GenState → Prop} {n : Nat} {Pv : Nat → Value → Prop} {St : Nat → Shared → Prop} {R : Result → Shared → Prop}
    (W : WalksS P w A.in1 I fp wr G n Pv St) (S : Addr) (sf : S ∉ fp) (ks : List (Addr × List Int)) (hn : n = ks.length) (most : ks.length ≤ 76) (vals_ : ∀ i v, Pv i v → ∃ p, ks[i]? = some p ∧ v = .ref p.1)
    (h0 : Heap) (tk0 : ∀ p ∈ ks, IsT P w h0 p.2 p.1) (S0 : h0.get? S = none) (w0 : ∀ b ∈ wr, h0.get? b = none) (hu : A.in1.units < cLine) :
    ∀ (m i : Nat) (s : Shared), n - i = m → i ≤ n → St i s → (∀ b o, h0.get? b = some o → s.heap.get? b = some o) → (∃ L es ep t, SW P w s.heap S L es ep t ∧ Got ks i L) →
      (∀ s' L es ep t, Moved (S :: wr) G s s' → SW P w s'.heap S L es ep t → Got ks n L → (∀ b o, h0.get? b = some o → s'.heap.get? b = some o) → R (.ok (.ret .none)) s') →
      codeAny (model P w) A (.builtin "set.update.loop" ⟨[.ref S, .ref I], []⟩) R s := by
  have sw : S ∉ wr := fun h => sf (W.sub _ h)
  have wider : ∀ b ∈ wr, b ∈ S :: wr := fun b hb => List.mem_cons_of_mem _ hb
  have over : ∀ {s s' : Shared}, Moved wr G s s' → (∀ b o, h0.get? b = some o → s.heap.get? b = some o) → ∀ b o, h0.get? b = some o → s'.heap.get? b = some o := fun mv kp b o e =>
    mv.heap b o (fun hb => by rw [w0 b hb] at e; cases e) (kp b o e)
  intro m
  induction m with
  | zero =>
    intro i s hm hi st kp ⟨L, es, ep, t, hS, g⟩ fin
    obtain rfl : i = n := by omega
    refine codeAny_builtin F.entry_set_update_loop ?_
    rw [Around.under_plainId F.plain_set_update_loop _]
    change wpAny _ A.in1 (pyNext (.ref I) >>= _) _ _ s
    refine wpAny_bind (W.done s _ _ st fun s' mv => ?_)
    change wpAny _ A.in1 (ret Value.none) _ _ s'
    have kp' := over mv kp
    exact wpAny_pure (fin s' L es ep t (mv.mono wider) (hS.keep (fun o e => mv.heap S o sw e) fun p hp => isT_keep (tk0 p (List.mem_of_mem_take (g.sub p hp))) kp') g kp')
  | succ m ih =>
    intro i s hm hi st kp ⟨L, es, ep, t, hS, g⟩ fin
    have lt : i < n := by omega
    refine codeAny_builtin F.entry_set_update_loop ?_
    rw [Around.under_plainId F.plain_set_update_loop _]
    change wpAny _ A.in1 (pyNext (.ref I) >>= _) _ _ s
    refine wpAny_bind (W.item i s _ _ lt st fun v s' pv st' mv => ?_)
    obtain ⟨p, hp, rfl⟩ := vals_ i v pv
    have kp' := over mv kp
    have hS' : SW P w s'.heap S L es ep t := hS.keep (fun o e => mv.heap S o sw e) fun q hq => isT_keep (tk0 q (List.mem_of_mem_take (g.sub q hq))) kp'
    have hx : IsT P w s'.heap p.2 p.1 := isT_keep (tk0 p (List.mem_of_getElem? hp)) kp'
    change wpAny _ A.in1 (holding [Value.ref p.1] (setAdd S (.ref p.1)) >>= _) _ _ s'
    refine wpAny_bind (wpAny_holding ?_)
    unfold setAdd
    refine wpAny_holding (wpAny_bind (wpAny_pyHash_tuple hu hx ?_))
    have gl := g.len
    refine add_w (s := { s' with toks := s'.toks + (p.2.length + 1) }) hS' hx hu (by omega) fun b h' L' es' ep' t' sb hS2 c1 c2 => ?_
    have g' : Got ks (i + 1) L' := by
      by_cases c : p.2 ∈ L.map (·.2)
      · rw [c1 c]
        exact g.same hp c
      · exact g.more hp (c2 c)
    have kp2 : ∀ b o, h0.get? b = some o → h'.get? b = some o := fun b o e => (sb.2 b (fun z => by rw [z, S0] at e; cases e)).trans (kp' b o e)
    refine wpAny_pure ⟨plainId_quiet F.plain_set_update_loop _, ih (i + 1) _ (by omega) lt (W.frame _ s' _ _ st' (Nat.le_add_right _ _) fun b hb o e => ?_) kp2 ⟨L', es', ep', t', hS2, g'⟩ fun s'' L2 es2 ep2 t2 mv2 hS3 g3 kp3 => ?_⟩
    · exact (sb.2 b (fun z : b = S => sf (z ▸ hb))).trans e
    · refine fin s'' L2 es2 ep2 t2 (Moved.trans W.gtrans ((mv.mono wider).then_heap (Nat.le_add_right _ _) fun b o hb e => ?_) mv2) hS3 g3 kp3
      exact (sb.2 b (fun z : b = S => hb (z ▸ List.mem_cons_self))).trans e
theorem set_of_lots {l : Addr} {its : Array Value} (ks : List (Addr × List Int)) {Q : Value → Shared → Prop} (noh : A.handled = none) (il : s.heap.IsList l its) (ii : its.toList = ks.map fun p => Value.ref p.1)
    (tk0 : ∀ p ∈ ks, IsT P w s.heap p.2 p.1) (most : ks.length ≤ 76) (hu : A.units + 3 < cLine)
    (go : ∀ (g : Heap) (tk : Nat) L es ep t, SW P w g s.heap.objs.size L es ep t → Got ks ks.length L → (∀ b o, s.heap.get? b = some o → g.get? b = some o) → Q (.ref s.heap.objs.size) { s with heap := g, toks := tk }) :
    wpAny (model P w) A (call (.type "set") [.ref l]) Q E s := by
  have size_eq : its.size = ks.length := by
    have q := congrArg List.length ii
    simpa using q
  have C := F.called_set
  obtain ⟨c, tl, mro⟩ := C.mro
  have made_ := C.made
  have sub_ := C.sub
  have nt := C.notType
  have cc := C.canCreate
  have tc1 := F.typeCall_set_1 (.ref l)
  refine wpAny_call (codeAny_of_tree ?_)
  change wpAny _ _ (callAny (Value.type "set") ⟨[.ref l], []⟩) _ _ _
  refine wpAny_pure ⟨Code.quiet_builtin _ (by decide +kernel), codeAny_builtin F.entry_type_call ?_⟩
  rw [Around.under_plain (weight_type_call_type "set" _ _) rfl]
  repeat (any_goals (first | assumption | wp_step))
  refine codeAny_mono (code_set_led1 (.ref l) (E := E) (Q₁ := fun ob t => ob = .ref s.heap.objs.size ∧ t = { s with heap := s.heap.push (fresh0 w) }) ⟨rfl, rfl⟩) fun r t hr => ?_
  match r, hr with
  | .error e, hr => exact hr
  | .ok (.ret ob), hr =>
    obtain ⟨rfl, rfl⟩ := hr
    have at0 : (s.heap.push (fresh0 w)).get? s.heap.objs.size = some (fresh0 w) := Heap.get?_push_size _ rfl
    have ty0 : Shared.TypeIs { s with heap := s.heap.push (fresh0 w) } (.ref s.heap.objs.size) "set" := ⟨_, at0, rfl⟩
    have look_ := C.init.lookup
    have bind_ := C.init.bind (.ref s.heap.objs.size)
    repeat (any_goals (first | assumption | wp_step))
    refine codeAny_mono (codeAny_call_builtin (R := wants (fun r t => r = .none ∧ ∃ g tk L es ep tt, t = { s with heap := g, toks := tk } ∧ SW P w g s.heap.objs.size L es ep tt ∧ Got ks ks.length L ∧ (∀ b o, s.heap.get? b = some o → g.get? b = some o)) E) C.init.plain F.entry_set_init (check_set_init_1 ty0 ?_)) fun r2 t2 hr2 => ?_
    · obtain ⟨⟨lc, ld, ldat, lsl⟩, lat, e1, nl, e2⟩ := il
      simp only at e1 e2
      subst e1
      subst e2
      have lat1 : (s.heap.push (fresh0 w)).get? l = some { cls := .type "list", dict := ld, data := .seq its nl, slots := lsl } := Heap.get?_push_of_some _ lat
      have k1 := F.sub_list_set
      have k2 := F.sub_list_frozenset
      have k3 : (Value.type "list" == Value.type "dict") = false := by decide
      have il1 : (s.heap.push (fresh0 w)).IsList l its := ⟨_, lat1, rfl, nl, rfl⟩
      unfold Builtin.«set.__init__» noKeywords Builtin.Frozenset.updateFrom
      generalize ePI : pyIter = PI
      wp_walk
      subst ePI
      refine wpAny_pyIter_list il1 (wpAny_bind (wpAny_runValue ?_))
      have ll := Heap.lt_size lat
      have sz1 : (s.heap.push (fresh0 w)).objs.size = s.heap.objs.size + 1 := Heap.size_push ..
      have noh3 : A.in1.in1.in1.handled = none := by simp [noh]
      have nI : l ≠ (s.heap.push (fresh0 w)).objs.size := sz1 ▸ Nat.ne_of_lt (Nat.lt_succ_of_lt ll)
      have nS : s.heap.objs.size ∉ [(s.heap.push (fresh0 w)).objs.size, l] := by
        simp only [List.mem_cons, List.not_mem_nil, or_false, not_or]
        exact ⟨sz1 ▸ Nat.ne_of_lt (Nat.lt_succ_self _), Nat.ne_of_gt ll⟩
      have vals_ : ∀ (i : Nat) (v : Value), its[i]? = some v → ∃ p, ks[i]? = some p ∧ v = .ref p.1 := fun i v hv => by
        have q : its.toList[i]? = some v := by simpa using hv
        rw [ii, List.getElem?_map] at q
        cases hq : ks[i]? with
        | none => rw [hq] at q; cases q
        | some p => rw [hq] at q; exact ⟨p, rfl, (Option.some.inj q).symm⟩
      have beyond : ∀ b, s.heap.objs.size ≤ b → s.heap.get? b = none := fun b hb => by
        cases q : s.heap.get? b with
        | none => rfl
        | some o => exact absurd (Nat.lt_of_lt_of_le (Heap.lt_size q) hb) (Nat.lt_irrefl _)
      refine set_loop ((Walks.list noh3 _ l nI its).toS) s.heap.objs.size nS ks size_eq most vals_ s.heap tk0 (beyond _ (Nat.le_refl _)) (fun b hb => beyond b ?_) hu (its.size - 0) 0 _ (by omega) (Nat.zero_le _)
        ⟨⟨_, Heap.get?_push_size _ rfl, rfl, rfl⟩, il1.push _⟩ (fun b o e => Heap.get?_push_of_some _ (Heap.get?_push_of_some _ e)) ⟨[], #[], 0, _, SW.of (s := { s with heap := _ }) (setTR_fresh (Heap.get?_push_of_some _ at0)), Got.zero ks⟩ ?_
      · rw [List.mem_singleton.mp hb, sz1]
        exact Nat.le_succ _
      · rintro ⟨g, g2, d2, tk, os2⟩ L es ep tt mv R2 got kp
        have z1 : g2 = s.gens := mv.gens
        have z2 : d2 = s.drawn := mv.drawn
        have z3 : os2 = s.os := mv.os
        subst z1 z2 z3
        show wpAny _ _ _ _ _ _
        refine wpAny_pure ?_
        show wpAny _ _ (ret Value.none) _ _ _
        rw [size_eq] at got
        exact wpAny_pure ⟨rfl, g, tk, L, es, ep, tt, rfl, R2, got, kp⟩
    · match r2, hr2 with
      | .error e, hr2 => exact hr2
      | .ok (.ret r3), hr2 =>
        obtain ⟨rfl, g, tk, L, es, ep, tt, rfl, R2, got, kp⟩ := hr2
        repeat (any_goals (first | assumption | wp_step))
        exact go _ _ _ _ _ _ R2 got kp
      | .ok .next, hr2 => exact hr2.elim
      | .ok .brk, hr2 => exact hr2.elim
      | .ok .cont, hr2 => exact hr2.elim
  | .ok .next, hr => exact hr.elim
  | .ok .brk, hr => exact hr.elim
  | .ok .cont, hr => exact hr.elim
end
end TW
set_option Elab.async false
set_option linter.all false
set_option maxRecDepth 100000
set_option maxHeartbeats 4000000
namespace TW
open PySem PySem.Spec PyProof.Rows L2
open PySem.W (EachIs AllAlike Sortable dataLt dataLe dataKind)
/-- as SW, the tuples themselves left out -/
def SW0 (P : Program) (w : World) (h : Heap) (a : Addr) (L : List (Addr × List Int)) : Prop :=
  ∃ (es : Array (Int × Value)) (ep : Nat) (t : SetTable), (∃ o, h.get? a = some o ∧ o.ExactSet ∧ o.data = .set es ep t) ∧ es.toList = rowsOf P w L ∧ TabOk t (L.map fun p => thash P w p.2) ∧ (L.map (·.2)).Nodup ∧ t.plain = true ∧
    (w.params.followText "set-order" = true ∨ t.led = true) ∧ L.length * 5 < t.mask * 3 ∧ L.length ≤ 76
def LotSet (P : Program) (w : World) (a : Addr) (L : List (Addr × List Int)) : HO := .ext fun h => SW0 P w h a L
theorem SW.bare {P : Program} {w : World} {h : Heap} {a : Addr} {L : List (Addr × List Int)} {es : Array (Int × Value)} {ep : Nat} {t : SetTable} (R : SW P w h a L es ep t) : SW0 P w h a L :=
  ⟨es, ep, t, R.ob, R.rows, R.tab, R.nd, R.plain, R.led, R.room, R.most⟩
theorem lotSet_new {P : Program} {w : World} {H : Hp} {h : Heap} {a : Addr} {L : List (Addr × List Int)} (R : SW0 P w h a L) : ObjOk P w H h a (LotSet P w a L) := by
  have ⟨es, ep, t, ⟨o, ho, r⟩, q⟩ := R
  refine ⟨R, ⟨o, ho⟩, fun h1 h2 p k => ?_⟩
  obtain ⟨es', ep', t', ⟨o', ho', r'⟩, q'⟩ := p
  exact ⟨es', ep', t', ⟨o', k o' ho', r'⟩, q'⟩
theorem dups_of {ks L : List (Addr × List Int)} (g : Got ks ks.length L) : (∀ p ∈ L, p ∈ ks) ∧ ∀ p ∈ ks, p.2 ∈ L.map (·.2) :=
  ⟨fun p hp => List.mem_of_mem_take (g.sub p hp), fun p hp => g.all p (by rw [List.take_length]; exact hp)⟩
section
variable {X : Cx} {K : PySem.W.Frag} {P : Program} {w : World}
/-- set(xs), xs a list of up to 76 tuples of ints -/
def rSetL2 (K : PySem.W.Frag) (P : Program) (w : World) : List V → Hp → VK → Prop := fun xs H Q => ∃ (l : Addr) (ks : List (Addr × List Int)), xs = [V.ref l] ∧ SqL K H l (ks.map fun p => V.ref p.1) ∧ (∀ p ∈ ks, SqT K H p.1 (p.2.map V.int)) ∧ ks.length ≤ 76 ∧
  ∀ a L, H a = none → (∀ p ∈ L, p ∈ ks) → (∀ p ∈ ks, p.2 ∈ L.map (·.2)) → (L.map (·.2)).Nodup → Q (.ref a) (upd H a (LotSet P w a L))
theorem cr_setL (hc : X.calm = true) (hu : X.A.units + 64 < cLine) (hK : X.K = K := by rfl) (hP : X.prog = P := by rfl) (hw : X.w = w := by rfl) : CallR X (.type "set") (rSetL2 K P w) := by
  subst hK hP hw
  intro pins s σ H xs us Q I r h
  obtain ⟨l, ks, rfl, hl, hk, hf, q⟩ := h
  rw [Vals.ref1 r]
  obtain ⟨its, rv, pl, hz⟩ := I.list hl
  have hn : H s.heap.objs.size = none := I.hok.fresh (Nat.le_refl _)
  refine set_of_lots (P := X.prog) (w := X.w) ks (I.ok.hd hc) pl.isList (by simpa using refs_of_vals rv) (fun p hp => I.isT (hk p hp)) hf (by omega) fun g tk L es ep t R got kp => ?_
  obtain ⟨d1, d2⟩ := dups_of got
  exact ⟨.ref s.heap.objs.size, upd H s.heap.objs.size (LotSet X.prog X.w s.heap.objs.size L), I.laid (t' := tk) kp (Nat.le_refl _) (lotSet_new R.bare), rfl, q _ L hn d1 d2 R.nd⟩
/-- sorted(a set of tuples of ints) -/
def rSortS (K : PySem.W.Frag) (P : Program) (w : World) : List V → Hp → VK → Prop := fun vs H Q => ∃ (a : Addr) (L : List (Addr × List Int)), vs = [V.ref a] ∧ H a = some (LotSet P w a L) ∧ (∀ p ∈ L, SqT K H p.1 (p.2.map V.int)) ∧
  ∀ (L' : List (Addr × List Int)) (p : Addr), L'.Perm L → L'.Pairwise (fun x y => HT.lexLt y.2 x.2 = false) → H p = none → Q (.ref p) (upd H p (.lst (L'.map fun q => V.ref q.1)))
end
section
variable {P : Program} {w : World} {A : Around} {E : Value → Shared → Prop} {s : Shared}
theorem each_reads : ∀ {vs : List Value} {L : List (Addr × List Int)} {h : Heap}, vs = L.map (fun q => Value.ref q.1) → (∀ q ∈ L, IsT P w h q.2 q.1) → EachIs (fun v (q : Addr × List Int) => ∃ as, Reads h v (tupD q.2) as) vs L
  | [], [], _, _, _ => .nil
  | [], _ :: _, _, e, _ => by cases e
  | _ :: _, [], _, e, _ => by cases e
  | v :: vs, q :: L, h, e, ht => by
    rw [List.map_cons, List.cons.injEq] at e
    obtain ⟨rfl, e2⟩ := e
    refine .cons ?_ (each_reads e2 fun r hr => ht r (List.mem_cons_of_mem _ hr))
    obtain ⟨o, items, n, ho, hc, hd, hi⟩ := ht q List.mem_cons_self
    have rd : ∀ {k : List Int} {us : List Value}, ItemsAre (intKind P w) k us → ∃ as, ReadsAll h us (k.map .int) as := by
      intro k us hi
      induction hi with
      | nil => exact ⟨_, .nil⟩
      | @cons k0 v ks vs h1 _ ih =>
        obtain ⟨t, rfl⟩ := Value.isInt_shape h1
        obtain ⟨as, r⟩ := ih
        exact ⟨_, .cons (.int _ _) r⟩
    obtain ⟨as, r⟩ := rd hi
    exact ⟨_, .tuple ho hc hd r⟩
theorem perm_map_ex {α β : Type} [DecidableEq α] {f : α → β} : ∀ {vs : List β} {L : List α}, vs.Perm (L.map f) → ∃ L1 : List α, L1.Perm L ∧ vs = L1.map f
  | [], L, h => by
    have e : L.map f = [] := h.symm.eq_nil
    have e2 : L = [] := by simpa using e
    exact ⟨[], by rw [e2], rfl⟩
  | v :: vs, L, h => by
    obtain ⟨q, hq, e⟩ := List.mem_map.mp (h.mem_iff.mp List.mem_cons_self)
    have p1 := List.perm_cons_erase hq
    have p2 : (v :: vs).Perm (f q :: (L.erase q).map f) := h.trans (p1.map f)
    rw [e] at p2
    obtain ⟨L1, h1, h2⟩ := perm_map_ex p2.cons_inv
    exact ⟨q :: L1, (h1.cons q).trans p1.symm, by rw [List.map_cons, e, h2]⟩
theorem lexLe_pw (bs : List (Addr × List Int)) : (bs.mergeSort (dataLe false (fun q => tupD q.2))).Pairwise (fun x y => HT.lexLt y.2 x.2 = false) := by
  have T := PySem.W.sortLe_total (PyProof.Rows.listOrd PyProof.Rows.itemOrd) false (fun b : Addr × List Int => PySem.W.keyToks (tupD b.2))
  have e : dataLe false (fun b : Addr × List Int => tupD b.2) = PySem.W.sortLe (PyProof.Rows.listOrd PyProof.Rows.itemOrd) false (fun b : Addr × List Int => PySem.W.keyToks (tupD b.2)) := rfl
  have h := List.pairwise_mergeSort (le := dataLe false (fun b : Addr × List Int => tupD b.2)) (fun a b c h1 h2 => by rw [e] at h1 h2 ⊢; exact T.trans a b c h1 h2) (fun a b => by rw [e]; rcases T.total a b with h | h <;> simp [h]) bs
  refine h.imp fun {x y} h => ?_
  have h' : (!dataLt (tupD y.2) (tupD x.2)) = true := h
  rw [Bool.not_eq_true', lt_tupD] at h'
  exact h'
theorem sorted_lotset {a : Addr} {L : List (Addr × List Int)} {es : Array (Int × Value)} {ep : Nat} {t : SetTable} {Q : Value → Shared → Prop} (R : SW P w s.heap a L es ep t) (noh : A.handled = none) (hu : A.units + 64 < cLine)
    (go : ∀ s' p (out : List Value) (c : Nat) (L' : List (Addr × List Int)), (∀ b o, s.heap.get? b = some o → s'.heap.get? b = some o) → s'.gens = s.gens → s'.os = s.os → s.heap.objs.size ≤ p →
      s'.heap.get? p = some (seqObj "list" out.toArray c) → EachIs (fun v q => v = Value.ref q.1) out L' → L'.Perm L → L'.Pairwise (fun x y => HT.lexLt y.2 x.2 = false) → Q (.ref p) s') :
    wpAny (model P w) A (call (.builtin "sorted") [.ref a]) Q E s := by
  obtain ⟨o, ho, ex_, dat⟩ := R.ob
  have sz := R.size
  have most := R.most
  have fits : t.fits es.size = true := by
    have h1 := R.tab.sz
    rw [List.length_map] at h1
    have h3 := R.room
    unfold SetTable.fits SetTable.fill
    rw [R.tab.dm, Bool.and_eq_true, beq_iff_eq, decide_eq_true_eq]
    constructor
    · omega
    · change t.place.size + 0 ≤ t.mask
      omega
  refine Calls.call_function_entry kind_sorted plain_sorted entry_sorted (args_sorted1 _) ?_
  unfold Builtin.«sorted»
  refine wpAny_bind (m := checkCount "sorted" 1 1 _) (wpAny_pure ?_)
  refine wpAny_bind (collect_set (A := A.in1) noh ⟨o, ho, ex_.1, dat⟩ fits (by unfold scanBound; omega) R.tab.ris R.led fun s1 vs k1 hz g1 o1 pm => ?_)
  have es2 : es.toList.map (·.2) = L.map fun q => Value.ref q.1 := by
    rw [R.rows]
    simp [rowsOf]
  rw [es2] at pm
  obtain ⟨L1, pL, rfl⟩ := perm_map_ex pm
  have lenL : (L1.map fun q => Value.ref q.1).length ≤ sizeLine := by
    rw [List.length_map, pL.length_eq, sizeLine_eq]
    omega
  refine wpAny_bind (wpAny_newList ?_ lenL)
  have at1 : (s1.heap.push (seqObj "list" (L1.map fun q => Value.ref q.1).toArray 0)).get? s1.heap.objs.size = some (seqObj "list" (L1.map fun q => Value.ref q.1).toArray 0) := Heap.get?_push_size _ rfl
  have keep1 : ∀ b u, s.heap.get? b = some u → (s1.heap.push (seqObj "list" (L1.map fun q => Value.ref q.1).toArray 0)).get? b = some u := fun b u e => Heap.get?_push_of_some _ (k1 b u e)
  generalize hg : s1.heap.push (seqObj "list" (L1.map fun q => Value.ref q.1).toArray 0) = g at at1 keep1 ⊢
  have keep2 : ∀ b u, s.heap.get? b = some u → (PySem.W.sortingHeap g s1.heap.objs.size (L1.map fun q => Value.ref q.1)).get? b = some u := fun b u e =>
    PySem.W.sortingHeap_old (Nat.ne_of_lt (Nat.lt_of_lt_of_le (Heap.lt_size e) hz)) (keep1 b u e)
  have er := each_reads (P := P) (w := w) (h := PySem.W.sortingHeap g s1.heap.objs.size (L1.map fun q => Value.ref q.1)) rfl fun q hq => isT_keep (R.tup q (pL.mem_iff.mp hq)) keep2
  have S : PySem.W.SortsAt P w A.in1.in1 { s1 with heap := PySem.W.sortingHeap g s1.heap.objs.size (L1.map fun q => Value.ref q.1) } (dataKind (PySem.W.sortingHeap g s1.heap.objs.size (L1.map fun q => Value.ref q.1)) (L1.map fun q => tupD q.2)) (L1.map fun q => Value.ref q.1) := by
    refine sorts_lots (PySem.W.each_map (R := fun v d => ∃ as, Reads (PySem.W.sortingHeap g s1.heap.objs.size (L1.map fun q => Value.ref q.1)) v d as) (fun q : Addr × List Int => tupD q.2) er) (fun d hd => ?_) (by change A.units + 1 + 1 + 5 < cLine; omega)
    obtain ⟨q, _, rfl⟩ := List.mem_map.mp hd
    exact ⟨_, rfl⟩
  have hal : AllAlike (L1.map fun q => tupD q.2) := fun d hd d' hd' => by
    obtain ⟨q, _, rfl⟩ := List.mem_map.mp hd
    obtain ⟨q', _, rfl⟩ := List.mem_map.mp hd'
    exact alike_tupD _ _
  have e0 : EachIs (fun v (q : Addr × List Int) => v = Value.ref q.1) (L1.map fun q => Value.ref q.1) L1 := by
    clear S er keep2 keep1 at1 hg pm lenL pL hal
    induction L1 with
    | nil => exact .nil
    | cons q r ih => exact .cons rfl ih
  have eo := PySem.W.sortVals_data (h' := PySem.W.sortingHeap g s1.heap.objs.size (L1.map fun q => Value.ref q.1)) (enc := fun q : Addr × List Int => tupD q.2) false e0 er hal
  refine wpAny_bind (wpAny_holding (wpAny_call_entry slot_list_sort ⟨_, at1, rfl⟩ entry_list_sort (PySem.W.list_sort_vals at1 S lenL ⟨_, rfl, ?_⟩) (args_list_sort _)))
  generalize PySem.W.sortVals (dataKind (PySem.W.sortingHeap g s1.heap.objs.size (L1.map fun q => Value.ref q.1)) (L1.map fun q => tupD q.2)) false (L1.map fun q => Value.ref q.1) (L1.map fun q => Value.ref q.1) = out at eo
  obtain ⟨c, hc⟩ := sortedHeap_at (vs := L1.map fun q => Value.ref q.1) (out := out.toArray) at1
  refine wpAny_pure ⟨_, rfl, go _ s1.heap.objs.size out c _ (fun b u e => ?_) g1 o1 hz hc eo ((List.mergeSort_perm _ _).trans pL) (lexLe_pw L1)⟩
  have q := keep1 b u e
  change (sortedHeap g s1.heap.objs.size _ _).get? b = some u
  rw [sortedHeap_old (Nat.ne_of_lt (Nat.lt_of_lt_of_le (Heap.lt_size e) hz)) (Heap.lt_size q)]
  exact q
end
section
variable {X : Cx} {K : PySem.W.Frag} {P : Program} {w : World}
theorem vals_of_refEach : ∀ {us : List Value} {L : List (Addr × List Int)}, EachIs (fun v q => v = Value.ref q.1) us L → Vals (L.map fun q => V.ref q.1) us
  | _, _, .nil => .nil
  | _, _, .cons r t => .cons r (vals_of_refEach t)
theorem cr_sortS (hc : X.calm = true) (hu : X.A.units + 64 < cLine) (hK : X.K = K := by rfl) (hP : X.prog = P := by rfl) (hw : X.w = w := by rfl) : CallR X (.builtin "sorted") (rSortS K P w) := by
  subst hK hP hw
  intro pins s σ H vs us Q I r h
  obtain ⟨a, L, rfl, ha, hk, q⟩ := h
  obtain ⟨es, ep, t, h1, h2, h3, h4, h5, h6, h7, h8⟩ := (I.hok a _ ha).1
  rw [Vals.ref1 r]
  refine sorted_lotset (P := X.prog) (w := X.w) ⟨h1, h2, h3, h4, fun p hp => I.isT (hk p hp), h5, h6, h7, h8⟩ (I.ok.hd hc) hu fun s' p out c L' kp gp op hp hg heach pm pw => ?_
  have hlen : (L'.map fun q => V.ref q.1).length ≤ sizeLine := by rw [List.length_map, pm.length_eq, sizeLine_eq]; omega
  have hn : H p = none := I.hok.fresh hp
  have J : Inv X pins σ (upd H p (.lst (L'.map fun q => V.ref q.1))) { s with heap := s'.heap, gens := s'.gens, drawn := s'.drawn, toks := s'.toks } :=
    I.call (ch := []) (Un.laid kp hp hn) (I.hok.laid kp hp ⟨hlen, out, c, vals_of_refEach heach, hg⟩) (by rw [gp]; exact I.bare) (fun _ z => absurd z List.not_mem_nil)
  have e : s' = { s with heap := s'.heap, gens := s'.gens, drawn := s'.drawn, toks := s'.toks } := by
    obtain ⟨x1, x2, x3, x4, x5⟩ := s'
    cases op
    rfl
  rw [e]
  exact ⟨.ref p, _, J, rfl, q L' p pm pw hn⟩
end
end TW
set_option Elab.async false
set_option linter.all false
set_option maxRecDepth 100000
set_option maxHeartbeats 2000000
/-! for x in o, o of an own class whose __iter__ hands out iter(its tuple) -/
namespace TW
open PySem PySem.Spec PyProof.Rows L2
def tupIt (t : Addr) : Obj := { cls := .type "tuple_iterator", data := .fields #[.ref t, .int 0 0] }
/-- at it a new iterator over the tuple at t -/
def TiO (t it : Addr) : HO := .ext fun h => h.get? it = some (tupIt t)
def rIterT (K : PySem.W.Frag) (n : Nat) : List V → Hp → VK → Prop := fun vs H Q => ∃ (t : Addr) (zs : List V), vs = [.ref t] ∧ SqT K H t zs ∧ ∀ it, H it = none → n ≤ it → Q (.ref it) (upd H it (TiO t it))
theorem run_iterT {prog : Program} {w : World} {A : Around} {E : Value → Shared → Prop} {s : Shared} {t : Addr} {items : Array Value} {Q : Value → Shared → Prop} (ht : s.heap.IsTuple t items)
    (h : Q (.ref s.heap.objs.size) { s with heap := s.heap.push (tupIt t) }) : wpAny (model prog w) A (call (.builtin "iter") [.ref t]) Q E s := by
  refine Calls.call_function_entry (by decide +kernel) (by decide +kernel) PySem.W.kdk_entry_iter (PySem.W.kdk_args_iter _) ?_
  unfold Builtin.«iter»
  refine wpAny_bind (m := someArgs "iter" 1 2 _) (wpAny_of_eq (a := [Value.ref t]) (by first | rfl | kernel_rfl!) (wpAny_bind (wpAny_pyIter_tuple ht ?_)))
  exact wpAny_pure ⟨_, rfl, h⟩
section
variable {X : Cx}
theorem call_iterT {K : PySem.W.Frag} {n : Nat} (hK : X.K = K := by rfl) (hn : X.s_0.heap.objs.size = n := by rfl) : CallR X (.builtin "iter") (rIterT K n) := by
  subst hK hn
  intro pins s σ H vs us Q I r h
  obtain ⟨t, zs, rfl, hz, q⟩ := h
  cases Vals.ref1 r
  obtain ⟨its, rv, p, _⟩ := I.tuple hz
  exact run_iterT (show s.heap.IsTuple t its.toArray from p) ⟨.ref s.heap.objs.size, _, I.laid (t' := s.toks) (fun b u e => Heap.get?_push_of_some _ e) (Nat.le_refl _)
    (show ObjOk X.prog X.w _ _ s.heap.objs.size (TiO t s.heap.objs.size) from ⟨Heap.get?_push_size _ rfl, ⟨_, Heap.get?_push_size _ rfl⟩, fun _ _ z k => k _ z⟩), rfl, q _ (I.hok.fresh (Nat.le_refl _)) I.sz⟩
end
/-- a def that promises more of a call where the heap is this big -/
def FnY (P : Program) (w : World) (K : PySem.W.Frag) (mg : Str → Option Value) (base : Heap) (k : Nat) (f : Addr) (fd : FuncData) (ps : List Str) (sp : Nat → Sp) : Prop :=
  ∀ (A : Around) (outer : List Env) (s : Shared) (H : Hp) (us : List Value) (vs : List V) (Q : VK) , Room k A → Env0 P w K mg base A outer s H → BindsTo s fd ⟨us, []⟩ (ps.zip us) → Vals vs us → vs.length = ps.length → sp s.heap.objs.size vs H Q E0 →
    codeAny (model P w) A (.call (.ref f) ⟨us, []⟩) (CR CX0 outer P w H s Q E0) s
theorem Fun.okY {P : Program} {w : World} {K : PySem.W.Frag} {mg : Str → Option Value} {base : Heap} {k : Nat} {x qual : Str} {st : Stmt} {f : Addr} {fd : FuncData} {N ps : List Str} {sp : Nat → Sp} (F : Fun K x qual st f fd) (S : FnScope N ps (defScope st))
    (hb : ∀ (cdv : Value) (A : Around) (outer : List Env) (s : Shared) (H : Hp) (vs : List V) (Q : VK), Room k (A.deeper (envOfC qual (defScope st) s.heap.objs.size f cdv)) → sp s.heap.objs.size vs H Q E0 →
      ∃ t, PSs (cxOf CX0 P w K mg base N qual (defScope st) f cdv A outer s H E0) (defBody st) t ∧ t { nx := fun _ H' => Q .non H', rt := Q } (start N vs) H) : FnY P w K mg base (k + 1) f fd ps sp := by
  obtain ⟨oc, od, kV, doc, pm, an, cdv, ct, osl, rfl, lk, hcd⟩ := F.ex
  intro A outer s H us vs Q hr e0 hbd r hl hsp
  have KX : K.In s.heap := e0.mod.kin.keeps fun b o e => (e0.bs b o e).1
  have hkind : ∀ y ∈ ps.zip us, (defScope st).names.lookup y.1 = some .local ∨ ((defScope st).names.lookup y.1 = some .cell ∧ ((cellsFrom (s.heap.objs.size + 1) (defScope st).names []).lookup y.1).isSome = true) := by
    rintro ⟨n, v⟩ hy
    exact (S.par n (List.of_mem_zip hy).1).imp id fun q => ⟨q, PySem.W.cellsFrom_some _ _ _ (.inl q)⟩
  refine codeAny_call_function hr.depth (KX _ _ lk) rfl S.co S.gen rfl (PySem.W.codeRec_of KX hcd) (hbd _ _ _ _ (wpAny_newFunctionEnv_cells S.kind hkind ?_))
  rintro env rfl s1 x
  refine ⟨(e0.mod.nolimit.keeps fun b o e => (e0.bs b o e).1).keeps x.toInCall.keep, codeAny_func ?_⟩
  obtain ⟨t, ht, hq⟩ := hb cdv A outer s H vs Q (hr.deeper _) hsp
  refine wpAny_mono (ht.run [] s1 (start N vs) H _ (inv_start S hr.hd e0 hl r x) hq) (fun fl s' hs => ?_) fun e s' hs => hs
  cases fl with
  | ret u => exact hs.elim fun v z => z.elim fun σ' z => z.elim fun H' z => ⟨v, H', z.1.os, z.1.bare, z.1.base, z.1.hok, z.2.1, z.2.2⟩
  | next => exact hs.elim fun σ' z => z.elim fun H' z => ⟨V.non, H', z.1.os, z.1.bare, z.1.base, z.1.hok, rfl, z.2⟩
  | brk => exact hs.elim fun _ z => z.elim fun _ z => z.elim fun _ z => z.elim
  | cont => exact hs.elim fun _ z => z.elim fun _ z => z.elim fun _ z => z.elim
/-- what such an __iter__ promises: an iterator that was not there -/
def spIt (K : PySem.W.Frag) (C : Addr) (f : Str) : Nat → Sp := fun n vs H Q _ => ∃ a dx fs l zs, vs = [.ref a] ∧ H a = some (.ins C dx fs) ∧ fs.lookup f = some (.ref l) ∧ SqT K H l zs ∧ ∀ it, H it = none → n ≤ it → Q (.ref it) (upd H it (TiO l it))
def iOwn (K : PySem.W.Frag) (C : Addr) (f : Str) (te : TE) : TI := fun σ H R => te σ H fun x H1 => ∃ a dx fs l zs, x = .ref a ∧ H1 a = some (.ins C dx fs) ∧ fs.lookup f = some (.ref l) ∧ SqT K H1 l zs ∧ R (Itt K l) H1
theorem pi_own {X : Cx} {tg e : Expr} {te : TE} {k : Nat} {C fi : Addr} {fd : FuncData} {f : Str} (he : PE X e te) (h1 : PySem.W.findIn X.K (.ref C) "__iter__" = some (some (.ref fi))) (h2 : PySem.W.isFn X.K (.ref fi) = true)
    (F : FnY X.prog X.w X.K X.mg X.base k fi fd ["self"] (spIt X.K C f)) (b : Binds X.K fd ["self"] []) (hr : Room k X.A) : PI X tg e (iOwn X.K C f te) := by
  refine ⟨fun pins s σ H R I h => thn (he.run pins s σ H _ I h) fun v s1 y => ?_⟩
  obtain ⟨x, H1, I1, r1, a, dx, fs, l, zs, rfl, ha, hf, hz, q⟩ := y
  cases r1
  obtain ⟨mA, O, _⟩ := ins_get I1.hok ha
  obtain ⟨od, J, _⟩ := O.look
  obtain ⟨m, hF⟩ := I1.fr
  refine PySem.W.owit_iter hF I1.ok.mod.kin J h1 h2 (wpAny_call (codeAny_mono (F X.A X.stack s1 H1 [.ref a] [.ref a] (fun v H' => ∃ it, v = .ref it ∧ H1 it = none ∧ s1.heap.objs.size ≤ it ∧ H' = upd H1 it (TiO l it)) hr I1.env0 ?_ (.cons rfl .nil) rfl ?_) fun r s' hq => ?_))
  · have z := b s1 [.ref a] I1.kIn rfl
    rw [List.append_nil] at z
    exact z
  · exact ⟨a, dx, fs, l, zs, rfl, ha, hf, hz, fun it n1 n2 => ⟨it, rfl, n1, n2, rfl⟩⟩
  · cases r with
    | error er => exact hq.elim
    | ok fl =>
      cases fl with
      | next => exact hq.elim
      | brk => exact hq.elim
      | cont => exact hq.elim
      | ret u =>
        obtain ⟨v, H', I2, rv, it, rfl, n1, n2, rfl⟩ := I1.after hq
        cases rv
        have ho : s'.heap.get? it = some (tupIt l) := (I2.hok it _ upd_same).1
        unfold PySem.W.OwitIt
        refine wpAny_specialOf ⟨_, ho, rfl⟩ PySem.F.slot_tuple_iterator_next.lookup ?_
        have I3 := ItX.inv_drop I2 upd_same
        have fp := ItX.inv_fp I2 upd_same (Nat.le_trans I1.sz n2)
        rw [ItX.dropH_upd n1] at I3 fp
        refine ⟨it, [it], fun i h => h.IsTupleIter it l i, Itt X.K l, H1, rfl, I3, turn_tuple l it, ⟨_, ho, rfl, rfl⟩, fun b hb => ?_, q⟩
        rw [List.mem_singleton.mp hb]
        exact fp
end TW
set_option Elab.async false
set_option linter.all false
set_option maxRecDepth 100000
set_option maxHeartbeats 4000000
namespace TW
open PySem PySem.Spec PyProof.Rows L2
/-! tables -/
theorem tl_ne : ¬ (("_lots" : Str) = "_things") := by decide +kernel
def tf (n : Nat) (l : Addr) : List (Str × V) := putF "_lots" (.ref l) (putF "_things" (.int n) [])
theorem tf_things (n : Nat) (l : Addr) : (tf n l).lookup ("_things" : Str) = some (.int n) := by
  unfold tf
  rw [lookup_putF, if_neg (fun h => tl_ne h.symm), lookup_putF, if_pos rfl]
theorem tf_lots (n : Nat) (l : Addr) : (tf n l).lookup ("_lots" : Str) = some (.ref l) := by
  unfold tf
  rw [lookup_putF, if_pos rfl]
abbrev Lots := List (Addr × List Int)
def refs (L : Lots) : List V := L.map fun p => V.ref p.1
def InLots (H : Hp) (L : Lots) : Prop := ∀ p ∈ L, H p.1 = some (.tup (p.2.map V.int))
theorem InLots.ex {H H' : Hp} {L : Lots} (e : Ex H H') (h : InLots H L) : InLots H' L := fun p hp => e _ _ (h p hp)
def TabAt (C : Addr) (H : Hp) (a : Addr) (n : Nat) (L : Lots) : Prop := ∃ dx l, H a = some (.ins C dx (tf n l)) ∧ H l = some (.tup (refs L)) ∧ InLots H L
theorem TabAt.ex {C : Addr} {H H' : Hp} {a : Addr} {n : Nat} {L : Lots} (e : Ex H H') (h : TabAt C H a n L) : TabAt C H' a n L := by
  obtain ⟨dx, l, h1, h2, h3⟩ := h
  exact ⟨dx, l, e _ _ h1, e _ _ h2, h3.ex e⟩
/-- what of the lots a table keeps -/
def LotsOf (ks L : Lots) : Prop := (∀ p ∈ L, p ∈ ks) ∧ (∀ p ∈ ks, p.2 ∈ L.map (·.2)) ∧ (L.map (·.2)).Nodup ∧ L.Pairwise (fun x y => HT.lexLt y.2 x.2 = false)
structure TC (K : PySem.W.Frag) (mg : Str → Option Value) (C : Addr) : Prop where
  cl : Cls K C
  ins : C8.InsC K C
  nT : NoAttr K C "_things"
  nL : NoAttr K C "_lots"
  mg : mg "Table" = some (.ref C)
section
variable {P : Program} {w : World} {K : PySem.W.Frag} {mg : Str → Option Value} {base : Heap} {C : Addr}
def spCheckThings : Sp := fun vs H Q _ => ∃ n : Nat, vs = [.int n] ∧ 0 < n ∧ Q .non H
def lotsIn (n : Nat) (ks : Lots) : Prop := ks ≠ [] ∧ ks.length ≤ 64 ∧ ∀ p ∈ ks, isLot p.2 (some (n : Int)) = true ∧ p.2.length ≤ 1000
def spInit (C : Addr) : Sp := fun vs H Q _ => ∃ (G : Hp) (l : List (Addr × HO)) (a dx ll : Addr) (n : Nat) (ks : Lots), vs = [.ref a, .int n, .ref ll] ∧ Has G H ((a, .ins C dx []) :: l) ∧ H ll = some (.lst (refs ks)) ∧ ll ≠ a ∧ InLots G ks ∧ 0 < n ∧ lotsIn n ks ∧
  ∀ (G' H' : Hp) (dl : Addr) (L : Lots), Ex G G' → Has G' H' ((a, .ins C dx (tf n dl)) :: l) → G' dl = some (.tup (refs L)) → LotsOf ks L → Q .non H'
end
end TW
set_option Elab.async false
set_option linter.all false
set_option maxRecDepth 100000
set_option maxHeartbeats 4000000
namespace TW
open PySem PySem.Spec PyProof.Rows L2
section
variable {P : Program} {w : World} {K : PySem.W.Frag} {mg : Str → Option Value} {base : Heap} {C : Addr}
def spThings (C : Addr) : Sp := fun vs H Q _ => ∃ (a : Addr) (n : Nat) (L : Lots), vs = [.ref a] ∧ TabAt C H a n L ∧ Q (.int n) H
def spLots (C : Addr) : Sp := fun vs H Q _ => ∃ (a : Addr) (n : Nat) (L : Lots), vs = [.ref a] ∧ TabAt C H a n L ∧ ∀ t, H t = none → Q (.ref t) (upd H t (.lst (refs L)))
def spCheckTable (C : Addr) : Sp := fun vs H Q _ => ∃ (a : Addr) (n : Nat) (L : Lots), vs = [.ref a] ∧ TabAt C H a n L ∧ Q .non H
/-! _law_make_table -/
theorem lot_mem {m : Int} {n : Nat} {x : Int} : x ∈ lotOf m n ↔ ∃ k : Nat, k < n ∧ bitB m k = true ∧ x = k := by
  unfold lotOf
  rw [List.mem_map]
  constructor
  · rintro ⟨k, hk, rfl⟩
    obtain ⟨h1, h2⟩ := List.mem_filter.mp hk
    exact ⟨k, List.mem_range.mp h1, h2, rfl⟩
  · rintro ⟨k, h1, h2, rfl⟩
    exact ⟨k, List.mem_filter.mpr ⟨List.mem_range.mpr h1, h2⟩, rfl⟩
theorem lot_asc (m : Int) (n : Nat) : Up (lotOf m n) := by
  unfold lotOf Up
  rw [List.pairwise_map]
  exact (List.pairwise_lt_range.filter _).imp fun h => by omega
theorem lot_ok (m : Int) (n : Nat) : isLot (lotOf m n) (some (n : Int)) = true := by
  unfold isLot
  rw [up_asc (lot_asc m n), Bool.and_true, List.all_eq_true]
  intro x hx
  obtain ⟨k, hk, _, rfl⟩ := lot_mem.mp hx
  rw [Bool.and_eq_true]
  exact ⟨decide_eq_true (by omega), decide_eq_true (by omega)⟩
def TabOf (n : Nat) (ms : List Int) (L : Lots) : Prop := (∀ p ∈ L, ∃ m ∈ ms, p.2 = lotOf m n) ∧ (∀ m ∈ ms, lotOf m n ∈ L.map (·.2)) ∧ (L.map (·.2)).Nodup ∧ L.Pairwise (fun x y => HT.lexLt y.2 x.2 = false)
def spMakeTable (K : PySem.W.Frag) (C : Addr) : Sp := fun vs H Q _ => ∃ (G : Hp) (l : List (Addr × HO)) (a : Addr) (n : Nat) (ms : List Int), vs = [.int n, .ref a] ∧ Has G H l ∧ SqL K H a (ms.map V.int) ∧ 0 < n ∧ n ≤ 1000 ∧ ms ≠ [] ∧ ms.length ≤ 64 ∧
  ∀ (G' : Hp) (t : Addr) (H' : Hp) (L : Lots), Ex G G' → Has G' H' l → TabAt C G' t n L → TabOf n ms L → Q (.ref t) H'
structure TM (P : Program) (w : World) (K : PySem.W.Frag) (mg : Str → Option Value) (base : Heap) (C f : Addr) (fd : FuncData) : Prop where
  make : Mk K C f
  ok : FnOk P w K mg base CX0 4 f fd ["self", "things", "lots"] (spInit C)
  b : Binds K fd ["self", "things", "lots"] []
end
end TW
set_option Elab.async false
set_option linter.all false
set_option maxRecDepth 100000
set_option maxHeartbeats 4000000
namespace TW
open PySem PySem.Spec PyProof.Rows L2
/-- a walk whose body is any predicate transformer: for the inner loop of a comprehension -/
theorem inner {J : It} {n : Nat} {G : Hp → Prop} {Y : Nat → Hp → V → Hp → Prop} (k : Walk J n G Y) {B : (Hp → Prop) → V → Hp → Prop} {H0 : Hp} {Qd : Hp → Prop} (I : Nat → Hp → Prop) (h0 : I 0 H0) (hG : ∀ i H, i ≤ n → I i H → G H)
    (hs : ∀ i x H H', i < n → I i H → Y i H x H' → B (I (i + 1)) x H') (hd : ∀ H, I n H → Qd H) :
    ∃ W : Nat → Nat → Hp → Prop, (∃ m, W 0 m H0) ∧ ∀ i m H, W i m H → (J.stop i H ∧ Qd H) ∨ (J.go i H ∧ ∃ Nx : Hp → Prop, (∀ H', Nx H' → ∃ m', m' < m ∧ W (i + 1) m' H') ∧ ∀ x H', J.yld i H x H' → B Nx x H') := by
  refine ⟨fun i m H => i ≤ n ∧ I i H ∧ m + i = n, ⟨n, Nat.zero_le _, h0, rfl⟩, fun i m H ⟨hi, p, hm⟩ => ?_⟩
  rcases Nat.lt_or_eq_of_le hi with c | c
  · exact .inr ⟨k.goes i H c (hG i H hi p), I (i + 1), fun H' p' => ⟨m - 1, by omega, c, p', by omega⟩, fun x H' y => hs i x H H' c p (k.yields i H x H' c (hG i H hi p) y)⟩
  · rw [c] at p ⊢
    exact .inl ⟨k.stops H (hG n H (Nat.le_refl _) p), hd H p⟩
theorem pi_tupK {X : Cx} {K : PySem.W.Frag} {tg l : Expr} {tl : TE} (hl : PE X l tl) (h : X.K = K := by rfl) : PI X tg l (iTup K tl) := by
  subst h
  exact pi_tup hl
theorem pi_listK {X : Cx} {K : PySem.W.Frag} {tg l : Expr} {tl : TE} (hl : PE X l tl) (h : X.K = K := by rfl) : PI X tg l (iList K tl) := by
  subst h
  exact pi_list hl
def mt (ns : List Int) (s : Sgn) : Bool := decide ((s.1 : Int) ∈ ns) == s.2
theorem mt_lot {m : Int} {n : Nat} {s : Sgn} (h : s.1 < n) : mt (lotOf m n) s = met m s := by
  unfold mt met
  have : decide ((s.1 : Int) ∈ lotOf m n) = bitB m s.1 := by
    rw [Bool.eq_iff_iff, decide_eq_true_eq, lot_mem]
    constructor
    · rintro ⟨k, _, hb, e⟩
      have : s.1 = k := by omega
      rw [this]
      exact hb
    · intro hb
      exact ⟨s.1, h, hb, rfl⟩
  rw [this]
theorem dec_bl (a b : Bool) : decide (V.bl a = V.bl b) = (a == b) := by cases a <;> cases b <;> rfl
section
variable {P : Program} {w : World} {K : PySem.W.Frag} {mg : Str → Option Value} {base : Heap} {C : Addr}
def spMeets (K : PySem.W.Frag) : Sp := fun vs H Q _ => ∃ (a : Addr) (ns : List Int) (v : V) (s : Sgn), vs = [.ref a, v] ∧ SqT K H a (ns.map V.int) ∧ At H v (dSgn s) ∧ Q (.bl (mt ns s)) H
def spKeeps (K : PySem.W.Frag) : Sp := fun vs H Q _ => ∃ (a : Addr) (ns : List Int) (v : V) (b : Bar), vs = [.ref a, v] ∧ SqT K H a (ns.map V.int) ∧ At H v (dBar b) ∧ b.length ≤ 100 ∧ ∀ H', Ex H H' → Q (.bl (b.any (mt ns))) H'
/-! has_rule -/
structure TI (P : Program) (w : World) (K : PySem.W.Frag) (mg : Str → Option Value) (base : Heap) (C f : Addr) (fd : FuncData) : Prop where
  at_ : PySem.W.findIn K (.ref C) "__iter__" = some (some (.ref f))
  fn : PySem.W.isFn K (.ref f) = true
  ok : FnY P w K mg base 1 f fd ["self"] (spIt K C "_lots")
  b : Binds K fd ["self"] []
def hasR (lots : List (List Int)) (b : Bar) : Bool := lots.all fun ns => b.any (mt ns)
def spHasRule (C : Addr) : Sp := fun vs H Q _ => ∃ (a : Addr) (n : Nat) (L : Lots) (v : V) (b : Bar), vs = [.ref a, v] ∧ TabAt C H a n L ∧ At H v (dBar b) ∧ b.length ≤ 100 ∧ ∀ H', Ex H H' → Q (.bl (hasR (L.map (·.2)) b)) H'
theorem refs_get {L : Lots} {i : Nat} {x : V} (h : (refs L)[i]? = some x) : ∃ p, L[i]? = some p ∧ x = V.ref p.1 := by
  unfold refs at h
  rw [List.getElem?_map] at h
  cases e : L[i]? with
  | none => rw [e] at h; cases h
  | some p => rw [e] at h; exact ⟨p, rfl, (Option.some.inj h).symm⟩
theorem refs_len (L : Lots) : (refs L).length = L.length := List.length_map _
/-! all_literals, _law_all_signs -/
def allS (n : Nat) : List Sgn := (List.range n).flatMap fun k => [(k, true), (k, false)]
theorem allS_up (n : Nat) : allS (n + 1) = allS n ++ [(n, true), (n, false)] := by
  unfold allS
  rw [List.range_succ, List.flatMap_append]
  rfl
theorem allS_len (n : Nat) : (allS n).length = 2 * n := by
  induction n with
  | zero => rfl
  | succ n ih =>
    rw [allS_up, List.length_append, ih]
    show 2 * n + 2 = _
    omega
def spAllS : Sp := fun vs H Q _ => ∃ (G : Hp) (l : List (Addr × HO)) (n : Nat), vs = [.int n] ∧ Has G H l ∧ n ≤ 1000 ∧ ∀ (G' : Hp) (t : Addr) (xs : List V) (H' : Hp), Ex G G' → Has G' H' ((t, .lst xs) :: l) → Ats G' xs ((allS n).map dSgn) → Q (.ref t) H'
end
end TW
set_option Elab.async false
set_option linter.all false
set_option maxRecDepth 100000
set_option maxHeartbeats 4000000
namespace TW
open PySem PySem.Spec PyProof.Rows L2
open PySem.W (AllAlike Sortable dataLt dataLe)
/-! data of rules -/
theorem lay_sgn (s : Sgn) : (dSgn s).canLay0 = true := by
  have h : ∀ b, (PyData.str (sw b)).canLay0 = true := fun b => by cases b <;> decide +kernel
  show (true && ((PyData.str (sw s.2)).canLay0 && true)) = true
  rw [h]
  rfl
theorem lay_sgns : ∀ b : Bar, PyData.canLayAll0 (b.map dSgn) = true
  | [] => rfl
  | s :: b => by
    show ((dSgn s).canLay0 && PyData.canLayAll0 (b.map dSgn)) = true
    rw [lay_sgn, lay_sgns b]
    rfl
theorem lay_bars : ∀ bs : List Bar, PyData.canLayAll0 (bs.map dBar) = true
  | [] => rfl
  | b :: bs => by
    show ((dBar b).canLay0 && PyData.canLayAll0 (bs.map dBar)) = true
    rw [show (dBar b).canLay0 = true from lay_sgns b, lay_bars bs]
    rfl
theorem depth_all {n : Nat} : ∀ {ds : List PyData}, (∀ d ∈ ds, d.depth ≤ n) → PyData.depthAll ds ≤ n
  | [], _ => Nat.zero_le _
  | d :: ds, h => by
    have h1 := h d List.mem_cons_self
    have h2 := depth_all fun x hx => h x (List.mem_cons_of_mem _ hx)
    simp only [PyData.depthAll]
    omega
theorem dep_bar (b : Bar) : (dBar b).depth ≤ 2 := by
  unfold dBar
  have := depth_all (n := 1) (ds := b.map dSgn) fun d hd => by
    obtain ⟨s, _, rfl⟩ := List.mem_map.mp hd
    exact dep_sgn s
  simp only [PyData.depth]
  omega
theorem shaped_bar (b : Bar) : SeqAt.shaped (dBar b) = true := by
  unfold SeqAt.shaped
  rw [Bool.and_eq_true, decide_eq_true_eq]
  exact ⟨lay_sgns b, Nat.le_trans (dep_bar b) (by decide)⟩
theorem shaped_bars (bs : List Bar) : SeqAt.shaped (dBars bs) = true := by
  unfold SeqAt.shaped
  rw [Bool.and_eq_true, decide_eq_true_eq]
  refine ⟨lay_bars bs, ?_⟩
  unfold dBars
  have := depth_all (n := 2) (ds := bs.map dBar) fun d hd => by
    obtain ⟨s, _, rfl⟩ := List.mem_map.mp hd
    exact dep_bar s
  simp only [PyData.depth]
  omega
theorem eqv_sgn (s t : Sgn) : PyData.eqv (dSgn s) (dSgn t) = decide (s = t) := by
  obtain ⟨a, b⟩ := s
  obtain ⟨c, d⟩ := t
  have e1 : PyData.eqv (dSgn (a, b)) (dSgn (c, d)) = ((a : Int) == (c : Int) && (sw b == sw d && true)) := rfl
  have e2 : (sw b == sw d) = (b == d) := by cases b <;> cases d <;> decide +kernel
  rw [e1, e2, Bool.and_true, Bool.eq_iff_iff, decide_eq_true_eq, Bool.and_eq_true, beq_iff_eq, beq_iff_eq, Prod.mk.injEq]
  constructor
  · rintro ⟨h, rfl⟩
    exact ⟨by omega, rfl⟩
  · rintro ⟨rfl, rfl⟩
    exact ⟨rfl, rfl⟩
theorem eqv_one (s t : Sgn) : PyData.eqv (dBar [s]) (dBar [t]) = decide (s = t) := by
  show (PyData.eqv (dSgn s) (dSgn t) && true) = _
  rw [Bool.and_true, eqv_sgn]
theorem alike_bar : ∀ a b : Bar, PySem.W.alikeAll (a.map dSgn) (b.map dSgn) = true
  | [], b => by simp [PySem.W.alikeAll]
  | s :: a, [] => by simp [PySem.W.alikeAll]
  | s :: a, t :: b => by
    rw [List.map_cons, List.map_cons, PySem.W.alikeAll, alike_sgn, alike_bar a b]
    rfl
theorem bars_sort {bs : List Bar} (h : ∀ b ∈ bs, b ≠ []) : AllAlike (bs.map dBar) ∧ Sortable (bs.map dBar) := by
  refine ⟨fun d hd d' hd' => ?_, .inl fun d hd => ?_⟩
  · obtain ⟨a, _, rfl⟩ := List.mem_map.mp hd
    obtain ⟨b, _, rfl⟩ := List.mem_map.mp hd'
    unfold dBar
    rw [PySem.W.alike]
    exact alike_bar a b
  · obtain ⟨b, hb, rfl⟩ := List.mem_map.mp hd
    cases b with
    | nil => exact absurd rfl (h _ hb)
    | cons s b => exact ⟨_, _, rfl⟩
theorem ats_zip {H : Hp} {xs : List V} {ds : List PyData} (h : Ats H xs ds) : (xs.zip ds).map (·.1) = xs ∧ (xs.zip ds).map (·.2) = ds ∧ ∀ b ∈ xs.zip ds, At H b.1 b.2 := by
  refine ⟨List.map_fst_zip (by rw [h.1]; exact Nat.le_refl _), List.map_snd_zip (by rw [h.1]; exact Nat.le_refl _), fun b hb => ?_⟩
  obtain ⟨i, hi⟩ := List.mem_iff_getElem?.mp hb
  rw [List.getElem?_zip_eq_some] at hi
  exact h.2 i _ _ hi.1 hi.2
/-! what the program finds -/
def singleS (lots : List (List Int)) (n : Nat) : List Sgn := (allS n).filter fun s => hasR lots [s]
def opensS (lots : List (List Int)) (n : Nat) : List Sgn := (allS n).filter fun s => !hasR lots [s]
def pairsAt (os : List Sgn) (low : Sgn) : List Bar := (os.filter fun high => decide (low.1 < high.1)).map fun high => [low, high]
def rulesU (lots : List (List Int)) (n : Nat) : List Bar := (singleS lots n).map (fun s => [s]) ++ (((opensS lots n).flatMap (pairsAt (opensS lots n))).filter (hasR lots))
def rulesD (lots : List (List Int)) (n : Nat) : List PyData := ((rulesU lots n).map dBar).mergeSort dLe
theorem rulesU_ne {lots : List (List Int)} {n : Nat} : ∀ b ∈ rulesU lots n, b ≠ [] := fun b hb e => by
  subst e
  unfold rulesU pairsAt at hb
  rcases List.mem_append.mp hb with h | h
  · obtain ⟨s, _, e⟩ := List.mem_map.mp h
    cases e
  · obtain ⟨s, _, h2⟩ := List.mem_flatMap.mp (List.mem_filter.mp h).1
    obtain ⟨t, _, e⟩ := List.mem_map.mp h2
    cases e
theorem in_single {lots : List (List Int)} {n : Nat} {s : Sgn} (h : s ∈ allS n) : (!((singleS lots n).map fun t => dBar [t]).any fun z => PyData.eqv z (dBar [s])) = !hasR lots [s] := by
  congr 1
  rw [List.any_map, Bool.eq_iff_iff, List.any_eq_true]
  constructor
  · rintro ⟨t, ht, e⟩
    have e' : PyData.eqv (dBar [t]) (dBar [s]) = true := e
    rw [eqv_one, decide_eq_true_eq] at e'
    subst e'
    exact (List.mem_filter.mp ht).2
  · intro hq
    refine ⟨s, List.mem_filter.mpr ⟨h, hq⟩, ?_⟩
    show PyData.eqv (dBar [s]) (dBar [s]) = true
    rw [eqv_one, decide_eq_true_eq]
theorem pairsAt_len (os : List Sgn) (low : Sgn) : (pairsAt os low).length ≤ os.length := by
  unfold pairsAt
  rw [List.length_map]
  exact List.length_filter_le _ _
theorem flat_len {α β : Type} {f : α → List β} {k : Nat} : ∀ {l : List α}, (∀ x ∈ l, (f x).length ≤ k) → (l.flatMap f).length ≤ l.length * k
  | [], _ => by simp
  | x :: l, h => by
    have h1 := h x List.mem_cons_self
    have h2 := flat_len (l := l) fun y hy => h y (List.mem_cons_of_mem _ hy)
    rw [List.flatMap_cons, List.length_append, List.length_cons, Nat.succ_mul]
    omega
section
variable {X : Cx} {K : PySem.W.Frag}
theorem op_notInDK (hu : X.A.units + 65 < cLine) (h : X.K = K := by rfl) : OpR X (compareOp .NotIn) (rNotInD K) := by
  subst h
  exact op_notInD hu
end
section
variable {P : Program} {w : World} {K : PySem.W.Frag} {mg : Str → Option Value} {base : Heap} {C : Addr}
structure TG (P : Program) (w : World) (K : PySem.W.Frag) (mg : Str → Option Value) (base : Heap) (C p g : Addr) (fd : FuncData) (nm : Str) (sp : Sp) : Prop where
  at_ : PropOf K C nm p g
  ok : FnOk P w K mg base CX0 1 g fd ["self"] sp
  b : Binds K fd ["self"] []
def spRulesOf (C : Addr) : Sp := fun vs H Q _ => ∃ (G : Hp) (l : List (Addr × HO)) (a : Addr) (n : Nat) (L : Lots), vs = [.ref a] ∧ Has G H l ∧ TabAt C G a n L ∧ n ≤ 50 ∧
  ∀ (G' : Hp) (t : Addr) (xs : List V) (H' : Hp), Ex G G' → Has G' H' ((t, .lst xs) :: l) → Ats G' xs (rulesD (L.map (·.2)) n) → Q (.ref t) H'
end
end TW
set_option Elab.async false
set_option linter.all false
set_option maxRecDepth 100000
set_option maxHeartbeats 4000000
namespace TW
open PySem PySem.Spec PyProof.Rows L2
open PySem.W (AllAlike Sortable dataLt dataLe)
/-! what the law finds -/
def aM (ms : List Int) (s : Sgn) : Bool := ms.all fun m => met m s
def hasM (ms : List Int) (b : Bar) : Bool := ms.all fun m => b.any (met m)
def cnd (ms : List Int) (low high : Sgn) : Bool := !aM ms low && (!aM ms high && (!decide (low.1 = high.1) && hasM ms [low, high]))
def rowAt (ms : List Int) (S : List Sgn) (i : Nat) : List Bar := match S[i]? with
  | some low => ((S.drop (i + 1)).filter (cnd ms low)).map fun high => [low, high]
  | none => []
def sharpU (ms : List Int) (n : Nat) : List Bar := ((allS n).filter (aM ms)).map (fun s => [s]) ++ (List.range (2 * n)).flatMap (rowAt ms (allS n))
def sharpD (ms : List Int) (n : Nat) : List PyData := ((sharpU ms n).map dBar).mergeSort dLe
theorem rowAt_pair {ms : List Int} {S : List Sgn} {i : Nat} {b : Bar} (h : b ∈ rowAt ms S i) : ∃ s t, b = [s, t] := by
  unfold rowAt at h
  cases e : S[i]? with
  | none => rw [e] at h; exact absurd h List.not_mem_nil
  | some low =>
    rw [e] at h
    obtain ⟨t, _, rfl⟩ := List.mem_map.mp h
    exact ⟨_, _, rfl⟩
theorem sharpU_ne {ms : List Int} {n : Nat} : ∀ b ∈ sharpU ms n, b ≠ [] := fun b hb e => by
  subst e
  unfold sharpU at hb
  rcases List.mem_append.mp hb with h | h
  · obtain ⟨s, _, e⟩ := List.mem_map.mp h
    cases e
  · obtain ⟨s, _, h2⟩ := List.mem_flatMap.mp h
    obtain ⟨s, t, e⟩ := rowAt_pair h2
    cases e
theorem rowAt_len (ms : List Int) (S : List Sgn) (i : Nat) : (rowAt ms S i).length ≤ S.length := by
  unfold rowAt
  cases S[i]? with
  | none => exact Nat.zero_le _
  | some low =>
    rw [List.length_map]
    exact Nat.le_trans (List.length_filter_le _ _) (by rw [List.length_drop]; omega)
theorem kept_one (m : Int) (b : Bar) : keptB m [b] = b.any (met m) := by
  show (b.any (met m) && true) = _
  rw [Bool.and_true]
theorem range_flat {α : Type} (f : Nat → List α) (i : Nat) : (List.range (i + 1)).flatMap f = (List.range i).flatMap f ++ f i := by
  rw [List.range_succ, List.flatMap_append, List.flatMap_cons]
  simp
theorem drop_get {α : Type} {l : List α} {i j : Nat} : (l.drop i)[j]? = l[i + j]? := by rw [List.getElem?_drop]
section
variable {P : Program} {w : World} {K : PySem.W.Frag} {mg : Str → Option Value} {base : Heap} {C : Addr}
abbrev NS : List Str := ["masks", "wide", "signs", "alone", "row", "one", "two", "bar", "sign", "mask", "k"]
def scSign : Scope := { kind := .function, names := [(".0", .local), ("sign", .cell), ("all", .globalImplicit), ("masks", .cell)], isGenerator := false, isCoroutine := false }
def spSharp : Sp := fun vs H Q _ => ∃ (G : Hp) (l : List (Addr × HO)) (a : Addr) (n : Nat) (ms : List Int), vs = [.ref a, .int n] ∧ Has G H l ∧ G a = some (.lst (ms.map V.int)) ∧ n ≤ 50 ∧ ms.length ≤ 1000 ∧
  ∀ (G' : Hp) (t : Addr) (xs : List V) (H' : Hp), Ex G G' → Has G' H' ((t, .lst xs) :: l) → Ats G' xs (sharpD ms n) → Q (.ref t) H'
end
end TW
set_option Elab.async false
set_option linter.all false
set_option maxRecDepth 100000
set_option maxHeartbeats 4000000
namespace TW
open PySem PySem.Spec PyProof.Rows L2
open PySem.W (AllAlike Sortable dataLt dataLe)
/-! one list, told twice -/
theorem strict_ext {α : Type} {r : α → α → Prop} (as : ∀ x y, r x y → r y x → False) : ∀ {xs ys : List α}, xs.Pairwise r → ys.Pairwise r → (∀ z, z ∈ xs ↔ z ∈ ys) → xs = ys
  | [], [], _, _, _ => rfl
  | [], y :: t, _, _, h => absurd ((h y).mpr List.mem_cons_self) List.not_mem_nil
  | x :: t, [], _, _, h => absurd ((h x).mp List.mem_cons_self) List.not_mem_nil
  | x :: xs, y :: ys, hx, hy, h => by
    have cx := List.pairwise_cons.mp hx
    have cy := List.pairwise_cons.mp hy
    have e : x = y := by
      rcases List.mem_cons.mp ((h x).mp List.mem_cons_self) with q | q
      · exact q
      rcases List.mem_cons.mp ((h y).mpr List.mem_cons_self) with p | p
      · exact p.symm
      · exact (as _ _ (cx.1 y p) (cy.1 x q)).elim
    subst e
    have ir : ∀ z, r x z → z ≠ x := fun z q e => by
      subst e
      exact as _ _ q q
    rw [strict_ext as cx.2 cy.2 fun z => ⟨fun hz => ?_, fun hz => ?_⟩]
    · rcases List.mem_cons.mp ((h z).mp (List.mem_cons_of_mem _ hz)) with q | q
      · exact absurd q (ir z (cx.1 z hz))
      · exact q
    · rcases List.mem_cons.mp ((h z).mpr (List.mem_cons_of_mem _ hz)) with q | q
      · exact absurd q (ir z (cy.1 z hz))
      · exact q
def tl {α β : Type} (f : α → List α → List β) : List α → List β
  | [] => []
  | x :: r => f x r ++ tl f r
theorem tl_range {α β : Type} (f : α → List α → List β) : ∀ l : List α, (List.range l.length).flatMap (fun i => match l[i]? with | some x => f x (l.drop (i + 1)) | none => []) = tl f l
  | [] => rfl
  | x :: r => by
    rw [List.length_cons, List.range_succ_eq_map, List.flatMap_cons, List.flatMap_map]
    have ih := tl_range f r
    show f x r ++ (List.range r.length).flatMap (fun i => match r[i]? with | some x => f x (r.drop (i + 1)) | none => []) = f x r ++ tl f r
    rw [ih]
/-! the two lists of rules -/
theorem allS_lt {n : Nat} {s : Sgn} (h : s ∈ allS n) : s.1 < n := by
  unfold allS at h
  obtain ⟨k, hk, h2⟩ := List.mem_flatMap.mp h
  have := List.mem_range.mp hk
  simp only [List.mem_cons, List.not_mem_nil, or_false] at h2
  rcases h2 with rfl | rfl <;> exact this
theorem allS_le (n : Nat) : (allS n).Pairwise fun s t => s.1 ≤ t.1 := by
  induction n with
  | zero => exact List.Pairwise.nil
  | succ n ih =>
    rw [allS_up, List.pairwise_append]
    refine ⟨ih, ?_, fun s hs t ht => ?_⟩
    · refine List.pairwise_cons.mpr ⟨fun t ht => ?_, List.pairwise_singleton _ _⟩
      rw [List.mem_singleton.mp ht]
      exact Nat.le_refl _
    · have h1 := allS_lt hs
      simp only [List.mem_cons, List.not_mem_nil, or_false] at ht
      rcases ht with rfl | rfl <;> exact Nat.le_of_lt h1
def LotsAre (n : Nat) (ms : List Int) (lots : List (List Int)) : Prop := (∀ x ∈ lots, ∃ m ∈ ms, x = lotOf m n) ∧ ∀ m ∈ ms, lotOf m n ∈ lots
theorem any_mt {m : Int} {n : Nat} {b : Bar} (h : ∀ s ∈ b, s.1 < n) : b.any (mt (lotOf m n)) = b.any (met m) := by
  induction b with
  | nil => rfl
  | cons s b ih =>
    rw [List.any_cons, List.any_cons, mt_lot (h s List.mem_cons_self), ih fun t ht => h t (List.mem_cons_of_mem _ ht)]
theorem hasR_eq {n : Nat} {ms : List Int} {lots : List (List Int)} (h : LotsAre n ms lots) {b : Bar} (hb : ∀ s ∈ b, s.1 < n) : hasR lots b = hasM ms b := by
  unfold hasR hasM
  rw [Bool.eq_iff_iff, List.all_eq_true, List.all_eq_true]
  constructor
  · intro q m hm
    rw [← any_mt hb]
    exact q _ (h.2 m hm)
  · intro q x hx
    obtain ⟨m, hm, rfl⟩ := h.1 x hx
    rw [any_mt hb]
    exact q m hm
theorem hasM_one (ms : List Int) (s : Sgn) : hasM ms [s] = aM ms s := by
  unfold hasM aM
  congr 1
  funext m
  show (met m s || false) = _
  rw [Bool.or_false]
theorem filt_congr {α : Type} {f g : α → Bool} {l : List α} (h : ∀ x ∈ l, f x = g x) : l.filter f = l.filter g := by
  induction l with
  | nil => rfl
  | cons x l ih => rw [List.filter_cons, List.filter_cons, h x List.mem_cons_self, ih fun y hy => h y (List.mem_cons_of_mem _ hy)]
theorem flat_congr {α β : Type} {f g : α → List β} {l : List α} (h : ∀ x ∈ l, f x = g x) : l.flatMap f = l.flatMap g := by
  induction l with
  | nil => rfl
  | cons x l ih => rw [List.flatMap_cons, List.flatMap_cons, h x List.mem_cons_self, ih fun y hy => h y (List.mem_cons_of_mem _ hy)]
theorem filter_none {α : Type} {f : α → Bool} {l : List α} (h : ∀ x ∈ l, f x = false) : l.filter f = [] := List.filter_eq_nil_iff.mpr fun x hx => by rw [h x hx]; decide
theorem pairs_tl {ms : List Int} : ∀ (suf pre S : List Sgn), S = pre ++ suf → S.Pairwise (fun s t => s.1 ≤ t.1) →
    (suf.filter fun s => !aM ms s).flatMap (fun low => (pairsAt (S.filter fun s => !aM ms s) low).filter (hasM ms)) = tl (fun low r => (r.filter (cnd ms low)).map fun high => [low, high]) suf
  | [], _, _, _, _ => rfl
  | x :: r, pre, S, e, hS => by
    have ih := pairs_tl (ms := ms) r (pre ++ [x]) S (by rw [e, List.append_assoc]; rfl) hS
    have hS' := hS
    rw [e, List.pairwise_append, List.pairwise_cons] at hS'
    obtain ⟨hp, ⟨hx, hr⟩, hc⟩ := hS'
    cases ho : aM ms x with
    | true =>
      rw [List.filter_cons, if_neg (by rw [ho]; decide), ih]
      show _ = (r.filter (cnd ms x)).map (fun high => [x, high]) ++ _
      rw [filter_none fun y _ => by unfold cnd; rw [ho]; rfl]
      rfl
    | false =>
      rw [List.filter_cons, if_pos (by rw [ho]; rfl), List.flatMap_cons, ih]
      show _ = (r.filter (cnd ms x)).map (fun high => [x, high]) ++ _
      congr 1
      unfold pairsAt
      rw [List.filter_map, List.filter_filter, List.filter_filter]
      congr 1
      rw [e, List.filter_append, List.filter_cons]
      have h1 : pre.filter (fun a => ((hasM ms ∘ fun high => [x, high]) a && decide (x.1 < a.1)) && !aM ms a) = [] := filter_none fun y hy => by
        have := hc y hy x List.mem_cons_self
        rw [decide_eq_false (by omega), Bool.and_false, Bool.false_and]
      rw [h1, if_neg (by rw [decide_eq_false (by omega), Bool.and_false, Bool.false_and]; decide), List.nil_append]
      refine filt_congr fun y hy => ?_
      have hxy := hx y hy
      unfold cnd
      rw [ho]
      have : decide (x.1 < y.1) = !decide (x.1 = y.1) := by
        rw [Bool.eq_iff_iff, decide_eq_true_eq, Bool.not_eq_true', decide_eq_false_iff_not]
        omega
      rw [this]
      show ((hasM ms [x, y] && !decide (x.1 = y.1)) && !aM ms y) = (!false && (!aM ms y && (!decide (x.1 = y.1) && hasM ms [x, y])))
      cases hasM ms [x, y] <;> cases aM ms y <;> cases decide (x.1 = y.1) <;> rfl
theorem rules_eq {n : Nat} {ms : List Int} {lots : List (List Int)} (h : LotsAre n ms lots) : rulesU lots n = sharpU ms n := by
  have e1 : ∀ s ∈ allS n, hasR lots [s] = aM ms s := fun s hs => by
    rw [hasR_eq h fun t ht => by rw [List.mem_singleton.mp ht]; exact allS_lt hs, hasM_one]
  have eS : singleS lots n = (allS n).filter (aM ms) := filt_congr e1
  have eO : opensS lots n = (allS n).filter fun s => !aM ms s := filt_congr fun s hs => by rw [e1 s hs]
  unfold rulesU sharpU
  rw [eS, eO, List.filter_flatMap]
  congr 1
  rw [← allS_len n]
  have e2 := tl_range (fun low r => (r.filter (cnd ms low)).map fun high => [low, high]) (allS n)
  have e3 : (List.range (allS n).length).flatMap (rowAt ms (allS n)) = tl (fun low r => (r.filter (cnd ms low)).map fun high => [low, high]) (allS n) := by
    rw [← e2]
    refine flat_congr fun i _ => ?_
    unfold rowAt
    cases (allS n)[i]? <;> rfl
  rw [e3, ← pairs_tl (allS n) [] (allS n) rfl (allS_le n)]
  refine flat_congr fun low hlow => filt_congr fun b hb => hasR_eq h fun s hs => ?_
  unfold pairsAt at hb
  obtain ⟨t, ht, rfl⟩ := List.mem_map.mp hb
  simp only [List.mem_cons, List.not_mem_nil, or_false] at hs
  rcases hs with rfl | rfl
  · exact allS_lt (List.mem_filter.mp hlow).1
  · exact allS_lt (List.mem_filter.mp (List.mem_filter.mp ht).1).1
theorem rulesD_eq {n : Nat} {ms : List Int} {lots : List (List Int)} (h : LotsAre n ms lots) : rulesD lots n = sharpD ms n := by
  unfold rulesD sharpD
  rw [rules_eq h]
theorem tabOf_are {n : Nat} {ms : List Int} {L : Lots} (h : TabOf n ms L) : LotsAre n ms (L.map (·.2)) := ⟨fun x hx => by
  obtain ⟨p, hp, rfl⟩ := List.mem_map.mp hx
  exact h.1 p hp, h.2.1⟩
theorem are_perm {n : Nat} {ms ms' : List Int} {lots : List (List Int)} (p : ms'.Perm ms) (h : LotsAre n ms' lots) : LotsAre n ms lots := ⟨fun x hx => by
  obtain ⟨m, hm, e⟩ := h.1 x hx
  exact ⟨m, p.mem_iff.mp hm, e⟩, fun m hm => h.2 m (p.mem_iff.mpr hm)⟩
/-! the lots, told twice -/
theorem bits_inj : ∀ (n : Nat) (m m' : Int), 0 ≤ m → m < 2 ^ n → 0 ≤ m' → m' < 2 ^ n → (∀ k < n, m / 2 ^ k % 2 = m' / 2 ^ k % 2) → m = m'
  | 0, m, m', h1, h2, h3, h4, _ => by
    simp at h2 h4
    omega
  | n + 1, m, m', h1, h2, h3, h4, h => by
    have e : (2 : Int) ^ (n + 1) = 2 ^ n * 2 := Int.pow_succ _ _
    have h0 := h 0 (by omega)
    simp only [Int.pow_zero, Int.ediv_one] at h0
    have ih := bits_inj n (m / 2) (m' / 2) (by omega) (by omega) (by omega) (by omega) fun k hk => by
      have := h (k + 1) (by omega)
      rw [show (2 : Int) ^ (k + 1) = 2 * 2 ^ k by rw [Int.pow_succ, Int.mul_comm]] at this
      rw [Int.ediv_ediv_of_nonneg (by decide), Int.ediv_ediv_of_nonneg (by decide)]
      exact this
    omega
theorem lot_inj {n : Nat} {m m' : Int} (h1 : 0 ≤ m) (h2 : m < 2 ^ n) (h3 : 0 ≤ m') (h4 : m' < 2 ^ n) (e : lotOf m n = lotOf m' n) : m = m' := by
  refine bits_inj n m m' h1 h2 h3 h4 fun k hk => ?_
  have hb : ∀ {a : Int}, bitB a k = true ↔ (k : Int) ∈ lotOf a n := fun {a} => by
    rw [lot_mem]
    constructor
    · intro h
      exact ⟨k, hk, h, rfl⟩
    · rintro ⟨j, _, h, e⟩
      rw [show k = j by omega]
      exact h
  have h : bitB m k = true ↔ bitB m' k = true := by rw [hb, hb, e]
  unfold bitB at h
  rw [decide_eq_true_eq, decide_eq_true_eq] at h
  have c1 := Int.emod_two_eq (m / 2 ^ k)
  have c2 := Int.emod_two_eq (m' / 2 ^ k)
  omega
theorem lex_strict {xs ys : List Int} (h : HT.lexLt ys xs = false) (n : xs ≠ ys) : HT.lexLt xs ys = true := by
  rw [lex_list] at h ⊢
  rw [decide_eq_false_iff_not] at h
  rw [decide_eq_true_eq]
  exact Decidable.byContradiction fun c => n (List.le_antisymm (List.not_lt.mp h) (List.not_lt.mp c))
theorem lex_asymm (xs ys : List Int) (h : HT.lexLt xs ys = true) (h' : HT.lexLt ys xs = true) : False := by
  rw [lex_list, decide_eq_true_eq] at h h'
  exact List.lt_asymm h h'
theorem lots_strict {l : List (List Int)} (h : l.Pairwise fun x y => HT.lexLt y x = false) (n : l.Nodup) : l.Pairwise fun x y => HT.lexLt x y = true := List.Pairwise.imp₂ (fun a b p q => lex_strict p q) h n
theorem dLe_lots (xs ys : List Int) : dLe (tupD xs) (tupD ys) = !HT.lexLt ys xs := by
  rw [← lt_tupD]
  rfl
theorem dLe_pw (ds : List PyData) : (ds.mergeSort dLe).Pairwise fun x y => dLe x y = true := by
  have T := PySem.W.sortLe_total (PyProof.Rows.listOrd PyProof.Rows.itemOrd) false (fun b : PyData => PySem.W.keyToks b)
  have e : dLe = PySem.W.sortLe (PyProof.Rows.listOrd PyProof.Rows.itemOrd) false (fun b : PyData => PySem.W.keyToks b) := rfl
  rw [e]
  exact List.pairwise_mergeSort (fun a b c h1 h2 => T.trans a b c h1 h2) (fun a b => by rcases T.total a b with h | h <;> simp [h]) ds
theorem lots_told {n : Nat} {ms : List Int} {L : Lots} (h : TabOf n ms L) (hm : masksOk n ms) : (ms.map fun m => tupD (lotOf m n)).mergeSort dLe = (L.map (·.2)).map tupD := by
  have pm := List.mergeSort_perm (ms.map fun m => tupD (lotOf m n)) dLe
  have pw := dLe_pw (ms.map fun m => tupD (lotOf m n))
  have em : (ms.map fun m => tupD (lotOf m n)) = (ms.map fun m => lotOf m n).map tupD := by rw [List.map_map]; rfl
  generalize (ms.map fun m => tupD (lotOf m n)).mergeSort dLe = Z at pm pw
  rw [em] at pm
  obtain ⟨W, pW, rfl⟩ := perm_back pm
  congr 1
  have nd : (ms.map fun m => lotOf m n).Nodup := by
    unfold List.Nodup
    rw [List.pairwise_map]
    refine List.Pairwise.imp_of_mem (fun {a b} ha hb (hn : a ≠ b) e => hn ?_) (up_nodup hm.1)
    obtain ⟨a1, a2⟩ := hm.2.2 a ha
    obtain ⟨b1, b2⟩ := hm.2.2 b hb
    exact lot_inj a1 a2 b1 b2 e
  rw [List.pairwise_map] at pw
  refine strict_ext lex_asymm (lots_strict (pw.imp fun {x y} q => ?_) (pW.nodup_iff.mpr nd)) (lots_strict (by rw [List.pairwise_map]; exact h.2.2.2) h.2.2.1) fun z => ?_
  · rw [dLe_lots] at q
    rw [Bool.not_eq_true'] at q
    exact q
  · rw [pW.mem_iff, List.mem_map]
    constructor
    · rintro ⟨m, hm', rfl⟩
      exact h.2.1 m hm'
    · intro hz
      obtain ⟨p, hp, rfl⟩ := List.mem_map.mp hz
      obtain ⟨m, hm', e⟩ := h.1 p hp
      exact ⟨m, hm', e.symm⟩
end TW
set_option Elab.async false
set_option linter.all false
set_option maxRecDepth 100000
set_option maxHeartbeats 4000000
namespace TW
open PySem PySem.Spec PyProof.Rows L2
/-! alike by parts -/
theorem rep_list {k : Nat} {H : Hp} {x y : V} {ds : List PyData} (hx : At H x (.list ds)) (hy : At H y (.list ds)) (hl : ds.length ≤ 10000) (h : ∀ d ∈ ds, ∀ x y, At H x d → At H y d → Rep k H x y) : Rep (k + 1) H x y := by
  obtain ⟨a, xs, rfl, ha, hxs⟩ := hx.isL
  obtain ⟨b, ys, rfl, hb, hys⟩ := hy.isL
  refine .inr ⟨a, b, xs, ys, rfl, rfl, .inl ⟨ha, hb⟩, hxs.1.trans hys.1.symm, by rw [hys.1]; exact hl, fun i u v hu hv => ?_⟩
  obtain ⟨d, hd, hA⟩ := hxs.at' hu
  exact h d (List.mem_of_getElem? hd) u v hA (hys.2 i v d hv hd)
theorem rep_tuple {k : Nat} {H : Hp} {x y : V} {ds : List PyData} (hx : At H x (.tuple ds)) (hy : At H y (.tuple ds)) (hl : ds.length ≤ 10000) (h : ∀ d ∈ ds, ∀ x y, At H x d → At H y d → Rep k H x y) : Rep (k + 1) H x y := by
  obtain ⟨a, xs, rfl, ha, hxs⟩ := hx.isT
  obtain ⟨b, ys, rfl, hb, hys⟩ := hy.isT
  refine .inr ⟨a, b, xs, ys, rfl, rfl, .inr ⟨ha, hb⟩, hxs.1.trans hys.1.symm, by rw [hys.1]; exact hl, fun i u v hu hv => ?_⟩
  obtain ⟨d, hd, hA⟩ := hxs.at' hu
  exact h d (List.mem_of_getElem? hd) u v hA (hys.2 i v d hv hd)
theorem rep_sgn {H : Hp} {x y : V} {s : Sgn} (hx : At H x (dSgn s)) (hy : At H y (dSgn s)) : Rep 1 H x y := by
  refine rep_tuple hx hy (by show 2 ≤ 10000; decide) fun d hd u v hu hv => ?_
  simp only [List.mem_cons, List.not_mem_nil, or_false] at hd
  rcases hd with rfl | rfl
  · rw [hu.isI, hv.isI]
    exact Rep.flat rfl
  · rw [hu.isS, hv.isS]
    exact Rep.flat rfl
theorem rep_bar {H : Hp} {x y : V} {b : Bar} (hl : b.length ≤ 100) (hx : At H x (dBar b)) (hy : At H y (dBar b)) : Rep 2 H x y := by
  refine rep_tuple hx hy (by rw [List.length_map]; omega) fun d hd u v hu hv => ?_
  obtain ⟨s, _, rfl⟩ := List.mem_map.mp hd
  exact rep_sgn hu hv
theorem rep_sharp {H : Hp} {x y : V} {ms : List Int} {n : Nat} (hn : n ≤ 6) (hx : At H x (.list (sharpD ms n))) (hy : At H y (.list (sharpD ms n))) : Rep 3 H x y := by
  have pm : (sharpD ms n).Perm ((sharpU ms n).map dBar) := List.mergeSort_perm _ _
  have hl : (sharpU ms n).length ≤ 12 + 12 * 12 := by
    unfold sharpU
    rw [List.length_append, List.length_map]
    have h1 := List.length_filter_le (aM ms) (allS n)
    have al := allS_len n
    have h2 := flat_len (f := rowAt ms (allS n)) (k := 12) (l := List.range (2 * n)) fun s _ => Nat.le_trans (rowAt_len ms _ s) (by omega)
    rw [List.length_range] at h2
    omega
  refine rep_list hx hy (by rw [pm.length_eq, List.length_map]; omega) fun d hd u v hu hv => ?_
  obtain ⟨b, hb, rfl⟩ := List.mem_map.mp (pm.mem_iff.mp hd)
  refine rep_bar ?_ hu hv
  unfold sharpU at hb
  rcases List.mem_append.mp hb with h | h
  · obtain ⟨s, _, rfl⟩ := List.mem_map.mp h
    show 1 ≤ 100
    decide
  · obtain ⟨i, _, h2⟩ := List.mem_flatMap.mp h
    obtain ⟨s, t, rfl⟩ := rowAt_pair h2
    show 2 ≤ 100
    decide
theorem rep_lots {H : Hp} {x y : V} {ls : List (List Int)} (hl : ls.length ≤ 1000) (hb : ∀ l ∈ ls, l.length ≤ 1000) (hx : At H x (.list (ls.map tupD))) (hy : At H y (.list (ls.map tupD))) : Rep 2 H x y := by
  refine rep_list hx hy (by rw [List.length_map]; omega) fun d hd u v hu hv => ?_
  obtain ⟨l, h, rfl⟩ := List.mem_map.mp hd
  refine rep_tuple hu hv (by rw [List.length_map]; have := hb l h; omega) fun d hd u v hu hv => ?_
  obtain ⟨i, _, rfl⟩ := List.mem_map.mp hd
  rw [hu.isI, hv.isI]
  exact Rep.flat rfl
theorem at_lot {H : Hp} {a : Addr} {ns : List Int} (h : H a = some (.tup (ns.map V.int))) : At H (.ref a) (tupD ns) := At.mkT h (Ats.map_ fun i _ => .int i)
/-! masks -/
theorem up_len : ∀ {ns : List Int} {lo : Int} {k : Nat}, Up ns → (∀ z ∈ ns, lo ≤ z ∧ z < lo + k) → ns.length ≤ k
  | [], _, _, _, _ => Nat.zero_le _
  | x :: r, lo, k, u, h => by
    have c := List.pairwise_cons.mp u
    have hx := h x List.mem_cons_self
    cases k with
    | zero => omega
    | succ k =>
      have := up_len (ns := r) (lo := lo + 1) (k := k) c.2 fun z hz => by
        have h1 := c.1 z hz
        have h2 := h z (List.mem_cons_of_mem _ hz)
        omega
      rw [List.length_cons]
      omega
theorem masks_len {n : Nat} {ms : List Int} (hn : 0 < n) (hn' : n ≤ 6) (h : masksOk n ms) : ms.length ≤ 64 := by
  obtain ⟨b, hb1, hb2, hb0, hb64⟩ := pow_small hn hn'
  refine Nat.le_trans (up_len (lo := 0) (k := b) h.1 fun z hz => ?_) hb64
  have := h.2.2 z hz
  rw [← hb1, Int.one_mul]
  omega
theorem masks_sub {n : Nat} {ms ms' : List Int} (h : masksOk n ms) (s : ms'.Sublist ms) (ne : ms' ≠ []) : masksOk n ms' := ⟨List.Pairwise.sublist s h.1, ne, fun m hm => h.2.2 m (s.subset hm)⟩
theorem cut_to {xs : List V} {r : Nat} (h : r ≤ xs.length) : cutV xs none (some (r : Int)) = xs.take r := by
  unfold cutV
  rw [HT.sIx_nat, HT.sIx_none]
  simp [Nat.min_eq_left h]
theorem cut_last {xs : List V} (h : 0 < xs.length) : cutV xs (some (-1)) none = xs.drop (xs.length - 1) := by
  unfold cutV
  rw [HT.sIx_none]
  have e : HT.sIx xs.length 0 (some (-1)) = xs.length - 1 := by
    unfold HT.sIx
    simp
    omega
  rw [e]
  exact List.take_of_length_le (by rw [List.length_drop]; omega)
end TW
set_option Elab.async false
set_option linter.all false
set_option maxRecDepth 100000
set_option maxHeartbeats 4000000
namespace TW
open PySem PySem.Spec PyProof.Rows L2
def lotP (ns : List Int) : Prop := lotOk ns
/-- the things of a part ascend -/
def ascB (b : Bar) : Bool := asc (b.map fun s : Sgn => (s.1 : Int))
def insB (b : Bar) (t : Option Int) : Bool := b.all fun s => inThings (s.1 : Int) t
section
variable {P : Program} {w : World} {K : PySem.W.Frag} {mg : Str → Option Value} {base : Heap} {C : Addr}
/-! is_ascending, of a list of ints -/
def spIsAscL (K : PySem.W.Frag) : Sp := fun vs H Q _ => ∃ (t : Addr) (ns : List Int), vs = [.ref t] ∧ SqL K H t (ns.map V.int) ∧ ns.length ≤ 1000 ∧ ∀ H', Ex H H' → Q (.bl (asc ns)) H'
def spIsLiteral : Sp := fun vs H Q _ => ∃ (v : V) (s : Sgn) (t : Option Int), vs = [v, thV t] ∧ At H v (dSgn s) ∧ ∀ H', Ex H H' → Q (.bl (inThings (s.1 : Int) t)) H'
def spCheckLiteral : Sp := fun vs H Q _ => ∃ (v : V) (s : Sgn) (t : Option Int), vs = [v, thV t] ∧ At H v (dSgn s) ∧ inThings (s.1 : Int) t = true ∧ ∀ H', Ex H H' → Q .non H'
def spIsPart : Sp := fun vs H Q _ => ∃ (v : V) (b : Bar) (t : Option Int), vs = [v, thV t] ∧ At H v (dBar b) ∧ b.length ≤ 1000 ∧ insB b t = true ∧ ascB b = true ∧ ∀ H', Ex H H' → Q (.bl true) H'
def spCheckPart : Sp := fun vs H Q _ => ∃ (v : V) (b : Bar) (t : Option Int), vs = [v, thV t] ∧ At H v (dBar b) ∧ b.length ≤ 1000 ∧ insB b t = true ∧ ascB b = true ∧ ∀ H', Ex H H' → Q .non H'
end
end TW
set_option Elab.async false
set_option linter.all false
set_option maxRecDepth 100000
set_option maxHeartbeats 4000000
namespace TW
open PySem PySem.Spec PyProof.Rows L2
def LotsOk (L : Lots) : Prop := ∀ p ∈ L, lotOk p.2
def fitL (L : Lots) (b : Bar) : List (Addr × List Int) := L.filter fun p => b.all (mt p.2)
section
variable {P : Program} {w : World} {K : PySem.W.Frag} {mg : Str → Option Value} {base : Heap} {C : Addr}
def spContrary : Sp := fun vs H Q _ => ∃ (G : Hp) (l : List (Addr × HO)) (v : V) (s : Sgn), vs = [v] ∧ Has G H l ∧ At G v (dSgn s) ∧ ∀ (G' H' : Hp) (x : V), Ex G G' → Has G' H' l → At G' x (dSgn (s.1, !s.2)) → Q x H'
theorem sw_not (b : Bool) : (if decide (V.str (sw b) = V.str "in") = true then V.str "out" else V.str "in") = V.str (sw (!b)) := by
  rw [sw_in]
  cases b <;> rfl
def spFits (K : PySem.W.Frag) : Sp := fun vs H Q _ => ∃ (a : Addr) (ns : List Int) (v : V) (b : Bar), vs = [.ref a, v] ∧ SqT K H a (ns.map V.int) ∧ lotOk ns ∧ At H v (dBar b) ∧ b.length ≤ 1000 ∧ ascB b = true ∧ ∀ H', Ex H H' → Q (.bl (b.all (mt ns))) H'
theorem ins_none (b : Bar) : insB b none = true := List.all_eq_true.mpr fun _ _ => rfl
def spFitting (C : Addr) : Sp := fun vs H Q _ => ∃ (a : Addr) (n : Nat) (L : Lots) (v : V) (b : Bar), vs = [.ref a, v] ∧ TabAt C H a n L ∧ LotsOk L ∧ L.length ≤ 1000 ∧ At H v (dBar b) ∧ b.length ≤ 1000 ∧ ascB b = true ∧
  ∀ (t : Addr) (H' : Hp), H t = none → Ex H H' → H' t = some (.lst (refs (fitL L b))) → Q (.ref t) H'
def canB (lots : List (List Int)) (b : Bar) : Bool := lots.any fun ns => b.all (mt ns)
def spCanBe (C : Addr) : Sp := fun vs H Q _ => ∃ (a : Addr) (n : Nat) (L : Lots) (v : V) (b : Bar), vs = [.ref a, v] ∧ TabAt C H a n L ∧ LotsOk L ∧ L.length ≤ 1000 ∧ At H v (dBar b) ∧ b.length ≤ 1000 ∧ insB b (some (n : Int)) = true ∧ ascB b = true ∧ ∀ H', Ex H H' → Q (.bl (canB (L.map (·.2)) b)) H'
theorem can_len (L : Lots) (b : Bar) : decide (((fitL L b).length : Int) > 0) = canB (L.map (·.2)) b := by
  unfold canB fitL
  rw [Bool.eq_iff_iff, decide_eq_true_eq, List.any_map, List.any_eq_true]
  constructor
  · intro h
    obtain ⟨p, hp⟩ := List.exists_mem_of_length_pos (l := L.filter fun p => b.all (mt p.2)) (by omega)
    exact ⟨p, (List.mem_filter.mp hp).1, (List.mem_filter.mp hp).2⟩
  · rintro ⟨p, hp, hq⟩
    have := List.length_pos_of_mem (List.mem_filter.mpr ⟨hp, hq⟩ : p ∈ L.filter fun p => b.all (mt p.2))
    omega
def spMetAll : Sp := fun vs H Q _ => ∃ (m : Int) (v : V) (b : Bar), vs = [.int m, v] ∧ At H v (dBar b) ∧ b.length ≤ 1000 ∧ ∀ H', Ex H H' → Q (.bl (b.all (met m))) H'
def spLawFitting (K : PySem.W.Frag) : Sp := fun vs H Q _ => ∃ (a : Addr) (ms : List Int) (v : V) (b : Bar), vs = [.ref a, v] ∧ SqL K H a (ms.map V.int) ∧ ms.length ≤ 1000 ∧ At H v (dBar b) ∧ b.length ≤ 1000 ∧
  ∀ (t : Addr) (H' : Hp), H t = none → Ex H H' → H' t = some (.lst ((ms.filter fun m => b.all (met m)).map V.int)) → Q (.ref t) H'
end
end TW
set_option Elab.async false
set_option linter.all false
set_option maxRecDepth 100000
set_option maxHeartbeats 4000000
namespace TW
open PySem PySem.Spec PyProof.Rows L2
/-- things ascend -/
def UpB (b : Bar) : Prop := b.Pairwise fun s t => s.1 < t.1
theorem upB_asc {b : Bar} (h : UpB b) : ascB b = true := by
  unfold ascB
  refine up_asc ?_
  unfold Up
  rw [List.pairwise_map]
  exact h.imp fun q => by omega
theorem upB_snoc {b : Bar} {s : Sgn} (h : UpB b) (l : ∀ t ∈ b, t.1 < s.1) : UpB (b ++ [s]) := by
  unfold UpB
  rw [List.pairwise_append]
  exact ⟨h, List.pairwise_singleton _ _, fun t ht u hu => by rw [List.mem_singleton.mp hu]; exact l t ht⟩
theorem ins_lt {b : Bar} {n : Nat} (h : ∀ s ∈ b, s.1 < n) : insB b (some (n : Int)) = true := List.all_eq_true.mpr fun s hs => decide_eq_true (by have := h s hs; omega)
/-- a literal of the k-th thing is told, or not -/
def tPick (lo : Bool) : TS := fun D σ H => ∃ (k dr : Nat) (held : Int) (o : Addr) (ys : List V) (G : Hp) (l : List (Addr × HO)), σ[3]? = some (some (.int held)) ∧ σ[4]? = some (some (.bl lo)) ∧ σ[5]? = some (some (.ref o)) ∧ σ[6]? = some (some (.int k)) ∧ σ[7]? = some (some (.int dr)) ∧
  Has G H ((o, .lst ys) :: l) ∧ ys.length ≤ 1000 ∧ D.nx σ H ∧ ∀ (b : Bool) (G' H' : Hp) (x : V), Ex G G' → Has G' H' ((o, .lst (ys ++ [x])) :: l) → At G' x (dSgn (k, b)) → D.nx σ H'
section
variable {P : Program} {w : World} {K : PySem.W.Frag} {mg : Str → Option Value} {base : Heap} {C : Addr}
def spSomePart : Sp := fun vs H Q _ => ∃ (G : Hp) (l : List (Addr × HO)) (p a : Addr) (o : HO) (k n : Nat) (ms : List Int), vs = [.ref p, .int n, .ref a] ∧ Has G H ((p, o) :: l) ∧ WellO k o ∧ k < 10 ^ 7 ∧ n ≤ 1000 ∧ G a = some (.lst (ms.map V.int)) ∧ ms ≠ [] ∧ ms.length ≤ 1000 ∧
  ∀ (G' H' : Hp) (o' : HO) (x : V) (b : Bar), Ex G G' → Has G' H' ((p, o') :: l) → WellO (k + 1002) o' → At G' x (dBar b) → b.length ≤ n → (∀ s ∈ b, s.1 < n) → UpB b → Q x H'
end
end TW
set_option Elab.async false
set_option linter.all false
set_option maxRecDepth 100000
set_option maxHeartbeats 4000000
namespace TW
open PySem PySem.Spec PyProof.Rows L2
/-! NoLot -/
structure TN (K : PySem.W.Frag) (mg : Str → Option Value) (x : Str) (N : Addr) : Prop where
  g : mg x = some (.ref N)
  ex : PySem.W.excIn K N [.type "ValueError", .type "Exception", .type "BaseException", .type "object"] "ValueError.__new__" = true
  k : PySem.W.keepIn K (.ref N) = true
  b : PySem.W.subIn K (.ref N) (.type "BaseException") = some true
  t : PySem.W.typeIn K (.ref N) = some (.type "type")
  e : PySem.W.exmOne K (.ref N) (.ref N) = some true
def closL (ls : Lots) (n : Nat) : Bar := (allS n).filter fun s => ls.all fun p => mt p.2 s
section
variable {P : Program} {w : World} {K : PySem.W.Frag} {mg : Str → Option Value} {base : Heap} {C N : Addr}
abbrev NC : List Str := ["table", "part", "lots", "literals", "lot", "literal"]
def scLit : Scope := { kind := .function, names := [(".0", .local), ("literal", .cell), ("all", .globalImplicit), ("lots", .cell)], isGenerator := false, isCoroutine := false }
def spClosure (C N : Addr) : Sp := fun vs H Q E => ∃ (G : Hp) (l : List (Addr × HO)) (a : Addr) (n : Nat) (L : Lots) (v : V) (b : Bar), vs = [.ref a, v] ∧ Has G H l ∧ TabAt C G a n L ∧ LotsOk L ∧ L.length ≤ 1000 ∧ n ≤ 1000 ∧ At G v (dBar b) ∧ b.length ≤ 1000 ∧ insB b (some (n : Int)) = true ∧ ascB b = true ∧
  (fitL L b = [] → ∀ H', Has G H' l → E (.ref N) none H') ∧ (fitL L b ≠ [] → ∀ (G' H' : Hp) (x : V), Ex G G' → Has G' H' l → At G' x (dBar (closL (fitL L b) n)) → Q x H')
end
end TW
set_option Elab.async false
set_option linter.all false
set_option maxRecDepth 100000
set_option maxHeartbeats 4000000
namespace TW
open PySem PySem.Spec PyProof.Rows L2
section
variable {X : Cx} {K : PySem.W.Frag}
theorem op_catAK (h : X.K = K := by rfl) : OpR X (binaryOp .Add) (rCatA K) := by
  subst h
  exact op_catA
end
theorem Has.down {G G' H : Hp} {l : List (Addr × HO)} (e : Ex G G') (h : Has G' H l) : Has G H l := ⟨e.trans h.ex, fun q hq => ⟨Evl.fresh_back e (h.own q hq).1, (h.own q hq).2⟩, h.nd⟩
theorem At.lot {H : Hp} {v : V} {ns : List Int} (h : At H v (tupD ns)) : ∃ a, v = .ref a ∧ H a = some (.tup (ns.map V.int)) := by
  obtain ⟨a, xs, rfl, ha, hx⟩ := At.isT h
  have e : xs = ns.map V.int := by
    clear ha h
    induction ns generalizing xs with
    | nil => exact List.length_eq_zero_iff.mp hx.1
    | cons n ns ih =>
      cases xs with
      | nil => cases hx.1
      | cons x xs =>
        obtain rfl := hx.head.isI
        rw [ih xs hx.rest]
        rfl
  rw [e] at ha
  exact ⟨a, rfl, ha⟩
theorem lots_of_ats {G : Hp} : ∀ {xs : List V} {ls : List (List Int)}, Ats G xs (ls.map tupD) → ∃ ks : Lots, xs = refs ks ∧ InLots G ks ∧ ks.map (·.2) = ls
  | [], [], _ => ⟨[], rfl, fun p hp => absurd hp List.not_mem_nil, rfl⟩
  | [], _ :: _, h => by cases h.1
  | _ :: _, [], h => by cases h.1
  | x :: xs, l :: ls, h => by
    obtain ⟨a, rfl, ha⟩ := At.lot h.head
    obtain ⟨ks, e, hk, el⟩ := lots_of_ats (xs := xs) (ls := ls) h.rest
    refine ⟨(a, l) :: ks, by rw [e]; rfl, fun p hp => ?_, by rw [List.map_cons, el]⟩
    rcases List.mem_cons.mp hp with rfl | hp
    · exact ha
    · exact hk p hp
/-! all lots, as the program makes them -/
def lotsL : Nat → List (List Int)
  | 0 => [[]]
  | n + 1 => lotsL n ++ (lotsL n).map (· ++ [(n : Int)])
theorem lotsL_len (n : Nat) : (lotsL n).length = 2 ^ n := by
  induction n with
  | zero => rfl
  | succ n ih =>
    show (lotsL n ++ (lotsL n).map _).length = _
    rw [List.length_append, List.length_map, ih, Nat.pow_succ]
    omega
theorem bit_low {m : Nat} {n : Nat} (h : m < 2 ^ n) : bitB (m : Int) n = false := by
  unfold bitB
  have e : ((m : Int) / 2 ^ n) = 0 := Int.ediv_eq_zero_of_lt (by omega) (by exact_mod_cast h)
  rw [e]
  decide
theorem bit_high {m : Nat} {n : Nat} (h : m < 2 ^ n) : bitB ((2 ^ n + m : Nat) : Int) n = true := by
  unfold bitB
  have p : (0 : Int) < 2 ^ n := Int.pow_pos (by decide)
  have e : (((2 ^ n + m : Nat) : Int) / 2 ^ n) = 1 := by
    have e1 : ((2 ^ n + m : Nat) : Int) = (m : Int) + 2 ^ n := by push_cast; omega
    rw [e1, Int.add_ediv_of_dvd_right (Int.dvd_refl _), Int.ediv_self (by omega), Int.ediv_eq_zero_of_lt (by omega) (by exact_mod_cast h)]
    rfl
  rw [e]
  decide
theorem bit_same {m : Nat} {n k : Nat} (h : k < n) : bitB ((2 ^ n + m : Nat) : Int) k = bitB (m : Int) k := by
  unfold bitB
  have p : (0 : Int) < 2 ^ k := Int.pow_pos (by decide)
  have e1 : ((2 ^ n + m : Nat) : Int) = (m : Int) + 2 ^ (n - k - 1) * 2 * 2 ^ k := by
    have : (2 : Int) ^ n = 2 ^ (n - k - 1) * 2 * 2 ^ k := by
      rw [← Int.pow_succ, ← Int.pow_add]
      congr 1
      omega
    push_cast
    omega
  rw [e1, Int.add_mul_ediv_right _ _ (by omega), Int.add_mul_emod_self_right]
theorem lot_same {m n w : Nat} (h : w ≤ n) : lotOf ((2 ^ n + m : Nat) : Int) w = lotOf (m : Int) w := by
  induction w with
  | zero => rfl
  | succ w ih => rw [lot_up, lot_up, ih (by omega), bit_same (by omega)]
theorem lotsL_eq (n : Nat) : lotsL n = (List.range (2 ^ n)).map fun m : Nat => lotOf (m : Int) n := by
  induction n with
  | zero => rfl
  | succ n ih =>
    show lotsL n ++ (lotsL n).map _ = _
    rw [show 2 ^ (n + 1) = 2 ^ n + 2 ^ n by rw [Nat.pow_succ]; omega, List.range_add, List.map_append, ih, List.map_map, List.map_map]
    congr 1
    · refine List.map_congr_left fun m hm => ?_
      rw [lot_up, bit_low (List.mem_range.mp hm), if_neg (by decide), List.append_nil]
    · refine List.map_congr_left fun m hm => ?_
      show lotOf (m : Int) n ++ [(n : Int)] = lotOf ((2 ^ n + m : Nat) : Int) (n + 1)
      rw [lot_up, bit_high (List.mem_range.mp hm), if_pos rfl, lot_same (Nat.le_refl n)]
def keptM (n : Nat) (bs : List Bar) : List Int := (rangeI (2 ^ n)).filter fun m => keptB m bs
def ruleP (n : Nat) (bs : List Bar) : Prop := ∀ b ∈ bs, barOk n b
theorem lots_kept {n : Nat} {bs : List Bar} (h : ruleP n bs) : (lotsL n).filter (fun ns => bs.all fun b => b.any (mt ns)) = (keptM n bs).map fun m => lotOf m n := by
  rw [lotsL_eq]
  unfold keptM rangeI
  rw [List.filter_map, List.filter_map, List.map_map]
  have e : (List.range (2 ^ n)).filter ((fun ns => bs.all fun b => b.any (mt ns)) ∘ fun m : Nat => lotOf (m : Int) n) = (List.range (2 ^ n)).filter ((fun m => keptB m bs) ∘ fun k : Nat => (k : Int)) := by
    refine filt_congr fun m hm => ?_
    show (bs.all fun b => b.any (mt (lotOf (m : Int) n))) = keptB (m : Int) bs
    unfold keptB
    rw [Bool.eq_iff_iff, List.all_eq_true, List.all_eq_true]
    constructor
    · intro q b hb
      rw [← any_mt (h b hb).2.2.1]
      exact q b hb
    · intro q b hb
      rw [any_mt (h b hb).2.2.1]
      exact q b hb
  rw [e]
  rfl
section
variable {P : Program} {w : World} {K : PySem.W.Frag} {mg : Str → Option Value} {base : Heap} {C N : Addr}
def spKeepsAll (K : PySem.W.Frag) : Sp := fun vs H Q _ => ∃ (a : Addr) (ns : List Int) (v : V) (bs : List Bar), vs = [.ref a, v] ∧ SqT K H a (ns.map V.int) ∧ At H v (dBars bs) ∧ (∀ b ∈ bs, b.length ≤ 100) ∧ ∀ H', Ex H H' → Q (.bl (bs.all fun b => b.any (mt ns))) H'
/-! all_lots -/
abbrev NAL : List Str := ["things", "lots", "thing", "lot"]
def spAllLots : Sp := fun vs H Q _ => ∃ (G : Hp) (l : List (Addr × HO)) (n : Nat), vs = [.int n] ∧ Has G H l ∧ n ≤ 6 ∧ ∀ (G' H' : Hp) (t : Addr) (xs : List V), Ex G G' → Has G' H' ((t, .lst xs) :: l) → Ats G' xs ((lotsL n).map tupD) → Q (.ref t) H'
theorem lotsL_small {i n : Nat} (h : i ≤ n) (hn : n ≤ 6) : 2 ^ i ≤ 64 := Nat.le_trans (Nat.pow_le_pow_right (by decide) h) (Nat.le_trans (Nat.pow_le_pow_right (by decide) hn) (by decide))
theorem lotsL_bound {n : Nat} : ∀ l ∈ lotsL n, l.length ≤ n := fun l hl => by
  rw [lotsL_eq] at hl
  obtain ⟨m, _, rfl⟩ := List.mem_map.mp hl
  exact lot_len _ _
def spIsRule : Sp := fun vs H Q _ => ∃ (v : V) (b : Bar) (n : Nat), vs = [v, .int n] ∧ At H v (dBar b) ∧ barOk n b ∧ ∀ H', Ex H H' → Q (.bl true) H'
theorem ascB_of {b : Bar} (h : b.Pairwise fun s t => s.1 < t.1) : ascB b = true := by
  unfold ascB
  refine up_asc ?_
  unfold Up
  rw [List.pairwise_map]
  exact h.imp fun q => by omega
theorem ins_of {n : Nat} {b : Bar} (h : ∀ s ∈ b, s.1 < n) : insB b (some (n : Int)) = true := by
  unfold insB
  rw [List.all_eq_true]
  intro s hs
  show decide ((s.1 : Int) < (n : Int)) = true
  exact decide_eq_true (by have := h s hs; omega)
def spCheckRules : Sp := fun vs H Q _ => ∃ (v : V) (bs : List Bar) (n : Nat), vs = [v, .int n] ∧ At H v (dBars bs) ∧ ruleP n bs ∧ bs.length ≤ 1000 ∧ ∀ H', Ex H H' → Q .non H'
/-! table_of -/
abbrev NTO : List Str := ["things", "rules", "lots", "lot"]
/-- a list that stands there as long as these things do -/
def Stays (G : Hp) (l : List (Addr × HO)) (a : Addr) (o : HO) : Prop := ∀ H', Has G H' l → H' a = some o
theorem Stays.down {G G' : Hp} {l l' : List (Addr × HO)} {a : Addr} {o : HO} (h : Stays G l a o) (e : Ex G G') (s : l.Sublist l') : Stays G' l' a o := fun H' S => h H' ((S.down e).sub s)
theorem Stays.cell {G : Hp} {l : List (Addr × HO)} {a : Addr} {o : HO} (i : Nat) (h : l[i]? = some (a, o)) : Stays G l a o := fun _ S => S.get i h
theorem Stays.grd {G : Hp} {l : List (Addr × HO)} {a : Addr} {o : HO} (h : G a = some o) : Stays G l a o := fun _ S => S.ex _ _ h
def spTableOf (C N : Addr) : Sp := fun vs H Q E => ∃ (G : Hp) (l : List (Addr × HO)) (n : Nat) (a : Addr) (xs : List V) (bs : List Bar), vs = [.int n, .ref a] ∧ Has G H l ∧ 0 < n ∧ n ≤ 6 ∧ Stays G l a (.lst xs) ∧ Ats G xs (bs.map dBar) ∧ ruleP n bs ∧ bs.length ≤ 1000 ∧
  (keptM n bs = [] → ∀ H', Has G H' l → E (.ref N) none H') ∧ (keptM n bs ≠ [] → ∀ (G' H' : Hp) (t : Addr) (L : Lots), Ex G G' → Has G' H' l → TabAt C G' t n L → TabOf n (keptM n bs) L → Q (.ref t) H')
theorem keptM_len {n : Nat} {bs : List Bar} (hn : n ≤ 6) : (keptM n bs).length ≤ 64 := by
  unfold keptM rangeI
  refine Nat.le_trans (List.length_filter_le _ _) ?_
  rw [List.length_map, List.length_range]
  exact lotsL_small (Nat.le_refl n) hn
end
end TW
set_option Elab.async false
set_option linter.all false
set_option maxRecDepth 100000
set_option maxHeartbeats 4000000
namespace TW
open PySem PySem.Spec PyProof.Rows L2
def dueD (n : Nat) (bs : List Bar) : List PyData := ((keptM n bs).map fun m => tupD (lotOf m n)).mergeSort dLe
theorem keptM_ok {n : Nat} {bs : List Bar} (h : keptM n bs ≠ []) : masksOk n (keptM n bs) := ⟨List.Pairwise.sublist List.filter_sublist (rangeI_up _), h, fun m hm => by
  have := rangeI_mem.mp ((List.mem_filter.mp hm).1)
  have e : ((2 ^ n : Nat) : Int) = (2 : Int) ^ n := by push_cast; rfl
  rw [← e]
  exact this⟩
section
variable {P : Program} {w : World} {K : PySem.W.Frag} {mg : Str → Option Value} {base : Heap} {C N : Addr}
/-! _law_lots_due -/
abbrev NLD : List Str := ["wide", "bars", "mask"]
def spLotsDue : Sp := fun vs H Q _ => ∃ (G : Hp) (l : List (Addr × HO)) (n : Nat) (a : Addr) (xs : List V) (bs : List Bar), vs = [.int n, .ref a] ∧ Has G H l ∧ 0 < n ∧ n ≤ 6 ∧ Stays G l a (.lst xs) ∧ Ats G xs (bs.map dBar) ∧ ruleP n bs ∧
  ∀ (G' H' : Hp) (t : Addr) (ys : List V), Ex G G' → Has G' H' ((t, .lst ys) :: l) → Ats G' ys (dueD n bs) → Q (.ref t) H'
/-! _law_told_table -/
abbrev NTT : List Str := ["wide", "bars", "none", "book"]
def spToldTable : Sp := fun vs H Q _ => ∃ (G : Hp) (l : List (Addr × HO)) (n : Nat) (a : Addr) (xs : List V) (bs : List Bar), vs = [.int n, .ref a] ∧ Has G H l ∧ 0 < n ∧ n ≤ 6 ∧ Stays G l a (.lst xs) ∧ Ats G xs (bs.map dBar) ∧ ruleP n bs ∧ bs.length ≤ 1000 ∧
  ∀ (G' H' : Hp) (t : Addr) (ys : List V), Ex G G' → Has G' H' ((t, .lst ys) :: l) → Ats G' ys (dueD n bs) → Q (.ref t) H'
theorem ats_refs {G : Hp} {L : Lots} (h : InLots G L) : Ats G (refs L) ((L.map (·.2)).map tupD) := by
  rw [List.map_map]
  exact Ats.map_ fun q hq => at_lot (h q hq)
end
end TW
set_option Elab.async false
set_option linter.all false
set_option maxRecDepth 100000
set_option maxHeartbeats 4000000
namespace TW
open PySem PySem.Spec PyProof.Rows L2
def sw2 {α : Type} : List α → List α → List α
  | [], [a, b] => [b, a]
  | _, _ => []
theorem sw2_rel {vs : List V} {us : List Value} {zs : List V} {ws : List Value} (h1 : Vals vs us) (h2 : Vals zs ws) : Vals (sw2 vs zs) (sw2 us ws) := by
  cases h1 with
  | cons a b => exact .nil
  | nil =>
    cases h2 with
    | nil => exact .nil
    | cons a b =>
      cases b with
      | nil => exact .nil
      | cons c d =>
        cases d with
        | nil => exact .cons c (.cons a .nil)
        | cons e f => exact .nil
/-- a def that may raise, called by names alone, where it does not -/
theorem pe_kwC {X : Cx} {CX : CXT} {k : Nat} {x : Str} {ps ks : List Str} {g : List Value → List Value → List Value} {gV : List V → List V → List V} {sp : Sp} {E : XK} {kws : List Keyword} {tk : TA} {p pos : Pos} {f : Addr} {fd : FuncData}
    (F : FnOk X.prog X.w X.K X.mg X.base CX k f fd ps sp) (gm : X.mg x = some (.ref f)) (kp : PySem.W.keepIn X.K (.ref f) = true) (b : KBinds X.K fd ps ks g gV) (hx : Passes CX X E) (hr : Room k X.A) (hkw : PK X kws tk) (hg : Gl X x := by rfl)
    (hall : (backToKw pos (keywordEach kws X.env)).all (·.1.isSome) = true := by rfl) (hks : (backToKw pos (keywordEach kws X.env)).filterMap (·.1) = ks := by rfl) (hdb : (x == ("__debug__" : Str)) = false := by decide)
    (hpl : ((backTo pos (starEach [] X.env)).any (·.1) || (backToKw pos (keywordEach kws X.env)).any (·.1.isNone)) = false := by rfl) : PE X (.Call (.Name x p) [] kws pos) (fun σ H Q => tk σ H fun zs H2 => sp (gV [] zs) H2 Q E) := by
  refine ⟨fun pins s σ H Q I h => wpAny_Call_Name_kw (ld_glob I hg gm (PySem.W.callWith_KW0 (h₀ := X.base) I.ok.mod.kin kp hall (thn (hkw.run pos pins s σ H _ I h) fun ws s2 h2 => ?_) hpl) hdb)⟩
  obtain ⟨zs, H2, I2, rz, q2⟩ := h2
  rw [hks]
  exact ⟨I2.kIn, run_fnk (us := []) (vs := []) F hr b hx I2 .nil rz q2⟩
end TW
set_option Elab.async false
set_option linter.all false
set_option maxRecDepth 100000
set_option maxHeartbeats 4000000
/-! len(x) of an own class with its own __len__ -/
namespace TW
open PySem PySem.Spec PyProof.Rows L2
section
variable {prog : Program} {w : World} {A : Around} {E : Value → Shared → Prop} {s : Shared} {K : PySem.W.Frag} {x C f : Addr} {ox : Obj} {odd : Option Obj}
theorem len_ownW {Q : Value → Shared → Prop} (X : K.In s.heap) (I : PySem.W.InstAt s.heap x ox C odd) (hs : PySem.W.findIn K (.ref C) "__len__" = some (some (.ref f))) (hf : PySem.W.isFn K (.ref f) = true)
    (h : wpAny (model prog w) A.in1 (call (.ref f) [.ref x]) (fun r s' => ∃ n u, r = Value.int n u ∧ 0 ≤ n ∧ n < 2 ^ 63 ∧ Q (.int n s'.toks) { s' with toks := s'.toks + 1 }) E s) : wpAny (model prog w) A (call (.builtin "len") [.ref x]) Q E s := by
  refine Calls.call_function_entry kind_len plain_len entry_len (args_len1 _) ?_
  unfold Builtin.«len»
  refine wpAny_bind (m := oneArg "len" _) (wpAny_pure ?_)
  refine wpAny_bind (m := callSpecial? (.ref x) (Str.ofString "__len__")) (PySem.W.special_fn X I hs (beq_iff_eq.mp hf) (wpAny_mono h (fun r s' hr => ?_) fun _ _ y => y))
  obtain ⟨n, u, rfl, h0, h1, hq⟩ := hr
  refine wpAny_bind (wpAny_holding (wpAny_pure ?_))
  refine wpAny_bind (wpAny_letGo ?_)
  show wpAny _ _ (if n < 0 then _ else _) _ _ _
  rw [if_neg (by omega)]
  show wpAny _ _ (if n ≥ 2 ^ 63 then _ else _) _ _ _
  rw [if_neg (by omega)]
  exact wpAny_bind (wpAny_mkInt (wpAny_pure ⟨_, rfl, hq⟩))
end
def rLenOwn (C : Addr) (sp : Sp) : List V → Hp → VK → Prop := fun xs H Q => ∃ a dx fs, xs = [V.ref a] ∧ H a = some (.ins C dx fs) ∧ sp [.ref a] H (fun z H' => ∃ n : Int, z = .int n ∧ 0 ≤ n ∧ n < 2 ^ 63 ∧ Q (.int n) H') E0
theorem call_lenOwn {X : Cx} {k : Nat} {C f : Addr} {fd : FuncData} {sp : Sp} (hs : PySem.W.findIn X.K (.ref C) "__len__" = some (some (.ref f))) (hf : PySem.W.isFn X.K (.ref f) = true) (F : FnOk X.prog X.w X.K X.mg X.base CX0 k f fd ["self"] sp)
    (hb : Binds X.K fd ["self"] []) (hr : Room (k + 1) X.A) : CallR X (.builtin "len") (rLenOwn C sp) := by
  intro pins s σ H xs us Q I r h
  obtain ⟨a, dx, fs, rfl, ea, q⟩ := h
  obtain ⟨u, rfl, ru⟩ := r.one
  cases (show u = Value.ref a from ru)
  obtain ⟨mA, O, _, _, _, _⟩ := ins_get I.hok ea
  obtain ⟨od, J, _⟩ := O.look
  refine len_ownW I.kIn J hs hf (wpAny_call (codeAny_mono (F.run X.A.in1 X.stack s H ⟨[.ref a], []⟩ [.ref a] [.ref a] _ E0 hr.in1 I.env0.in1 (hb _ [.ref a] I.kIn rfl) (.cons rfl .nil) q) fun r s' hq => ?_))
  cases r with
  | error er => exact False.elim hq
  | ok fl =>
    cases fl with
    | ret u =>
      obtain ⟨v, H', I3, rv, n, rfl, h0, h1, q3⟩ := I.after hq
      obtain ⟨t, rfl⟩ : ∃ t, u = Value.int n t := rv
      exact ⟨n, t, rfl, h0, h1, .int n, H', I3.tok _, ⟨_, rfl⟩, q3⟩
    | next => exact False.elim hq
    | brk => exact False.elim hq
    | cont => exact False.elim hq
end TW
set_option Elab.async false
set_option linter.all false
set_option maxRecDepth 100000
set_option maxHeartbeats 4000000
/-! x in t, t a tuple of data -/
namespace TW
open PySem PySem.Spec PyProof.Rows L2
section
variable {X : Cx} {K : PySem.W.Frag}
def rInDT (K : PySem.W.Frag) : R2 := fun x y H Q => ∃ d ds, Dp K H x d ∧ Dp K H y (.tuple ds) ∧ SeqAt.shaped d = true ∧ SeqAt.shaped (.tuple ds) = true ∧ Q (.bl (ds.any fun z => PyData.eqv z d)) H
def rNotInDT (K : PySem.W.Frag) : R2 := fun x y H Q => ∃ d ds, Dp K H x d ∧ Dp K H y (.tuple ds) ∧ SeqAt.shaped d = true ∧ SeqAt.shaped (.tuple ds) = true ∧ Q (.bl (!ds.any fun z => PyData.eqv z d)) H
theorem op_inDT (hu : X.A.units + 65 < cLine) (h : X.K = K := by rfl) : OpR X (compareOp .In) (rInDT K) := by
  subst h
  intro pins s σ H x y v u Q I rx ry h
  obtain ⟨d, ds, hd, he, sd, se, q⟩ := h
  obtain ⟨as, r1⟩ := Dp.reads I d x v hd rx
  obtain ⟨bs, r2⟩ := Dp.reads I (.tuple ds) y u he ry
  exact SeqAt.in_tuple_reads r2 r1 (SeqAt.canLay_of_shaped se) (SeqAt.canLay_of_shaped sd) (room_in_shaped sd hu) ⟨.bl _, H, I, rfl, q⟩
theorem op_notInDT (hu : X.A.units + 65 < cLine) (h : X.K = K := by rfl) : OpR X (compareOp .NotIn) (rNotInDT K) := by
  subst h
  intro pins s σ H x y v u Q I rx ry h
  obtain ⟨d, ds, hd, he, sd, se, q⟩ := h
  obtain ⟨as, r1⟩ := Dp.reads I d x v hd rx
  obtain ⟨bs, r2⟩ := Dp.reads I (.tuple ds) y u he ry
  exact SeqAt.notIn_tuple_reads r2 r1 (SeqAt.canLay_of_shaped se) (SeqAt.canLay_of_shaped sd) (room_in_shaped sd hu) ⟨.bl _, H, I, rfl, q⟩
end
end TW
set_option Elab.async false
set_option linter.all false
set_option maxRecDepth 100000
set_option maxHeartbeats 4000000
/-! sorted of a tuple of data -/
namespace TW
open PySem PySem.Spec PyProof.Rows L2
open PySem.W (EachIs AllAlike Sortable dataLt dataLe dataKind)
def rSortTE (K : PySem.W.Frag) : List V → Hp → VK → Prop := fun vs H Q => ∃ (a : Addr) (bs : List (V × PyData)), vs = [.ref a] ∧ SqT K H a (bs.map (·.1)) ∧ (∀ b ∈ bs, Dp K H b.1 b.2) ∧ AllAlike (bs.map (·.2)) ∧ Sortable (bs.map (·.2)) ∧ (∀ b ∈ bs, b.2.depth ≤ 20) ∧
  ∀ p : Addr, H p = none → Q (.ref p) (upd H p (.lst ((bs.mergeSort (dataLe false (·.2))).map (·.1))))
section
variable {X : Cx} {K : PySem.W.Frag}
theorem cr_sortT (hu : X.A.units + 64 < cLine) (hK : X.K = K := by rfl) : CallR X (.builtin "sorted") (rSortTE K) := by
  subst hK
  intro pins s σ H vs us Q I r h
  obtain ⟨a, bs, rfl, hs, hd, hal, hso, hdep, q⟩ := h
  obtain ⟨its, rv, ⟨o, ho, hc, n, hdt⟩, hz⟩ := I.tuple hs
  rw [Vals.ref1 r]
  have lz : its.length = bs.length := by rw [← rv.length, List.length_map]
  have lz2 : its.length ≤ sizeLine := by rw [lz, ← List.length_map (f := (·.1))]; exact hz
  have e := each_of_vals rv
  refine Calls.call_function_entry kind_sorted plain_sorted entry_sorted (args_sorted1 _) ?_
  unfold Builtin.«sorted»
  refine wpAny_bind (m := checkCount "sorted" 1 1 _) (wpAny_pure ?_)
  refine wpAny_bind (wpAny_collect_seq a (.inr rfl) ho hc hdt (fun h' hk => ?_) (by rw [List.size_toArray]; exact lz2))
  rw [show its.toArray.toList = its by simp]
  have I1 := I.kept (t' := s.toks) hk
  refine wpAny_bind (wpAny_newList ?_ lz2)
  have at1 : (h'.push (seqObj "list" its.toArray 0)).get? h'.objs.size = some (seqObj "list" its.toArray 0) := Heap.get?_push_size _ rfl
  have keep1 : ∀ b u, h'.get? b = some u → (h'.push (seqObj "list" its.toArray 0)).get? b = some u := fun b u e => Heap.get?_push_of_some _ e
  generalize hg : h'.push (seqObj "list" its.toArray 0) = g at at1 keep1 ⊢
  have keep2 : ∀ b u, h'.get? b = some u → (PySem.W.sortingHeap g h'.objs.size its).get? b = some u := fun b u e =>
    PySem.W.sortingHeap_old (Nat.ne_of_lt (Heap.lt_size e)) (keep1 b u e)
  have er : EachIs (fun v (b : V × PyData) => ∃ as, Reads (PySem.W.sortingHeap g h'.objs.size its) v b.2 as) its bs := by
    have e2 := PySem.W.each_mem e
    refine e2.mono fun v b z => ?_
    obtain ⟨as, r⟩ := Dp.reads I1 b.2 b.1 v (hd b z.2) z.1
    exact ⟨as, PyProof.Rows.Reads.keeps (fun _ _ => keep2 _ _) r⟩
  have em := PySem.W.each_map (R := fun v d => ∃ as, Reads (PySem.W.sortingHeap g h'.objs.size its) v d as) (fun b : V × PyData => b.2) er
  have S : PySem.W.SortsAt X.prog X.w X.A.in1.in1 { s with heap := PySem.W.sortingHeap g h'.objs.size its } (dataKind (PySem.W.sortingHeap g h'.objs.size its) (bs.map (·.2))) its := by
    refine PySem.W.SortsAt.data em hal hso fun d hd1 => ?_
    obtain ⟨b, hb, rfl⟩ := List.mem_map.mp hd1
    have := hdep b hb
    show X.A.units + 1 + 1 + b.2.depth < cLine
    omega
  have eo := PySem.W.sortVals_data (h' := PySem.W.sortingHeap g h'.objs.size its) (enc := fun b : V × PyData => b.2) false e er hal
  refine wpAny_bind (wpAny_holding (wpAny_call_entry slot_list_sort ⟨_, at1, rfl⟩ entry_list_sort (PySem.W.list_sort_vals at1 S lz2 ⟨_, rfl, ?_⟩) (args_list_sort _)))
  generalize PySem.W.sortVals (dataKind (PySem.W.sortingHeap g h'.objs.size its) (bs.map (·.2))) false its its = out at eo
  obtain ⟨c, hc2⟩ := sortedHeap_at (vs := its) (out := out.toArray) at1
  have pm : (bs.mergeSort (dataLe false (·.2))).Perm bs := List.mergeSort_perm bs _
  have hlen : ((bs.mergeSort (dataLe false (·.2))).map (·.1)).length ≤ sizeLine := by
    rw [List.length_map, pm.length_eq, ← lz]
    exact lz2
  refine wpAny_pure ⟨_, rfl, .ref _, upd H h'.objs.size (.lst ((bs.mergeSort (dataLe false (·.2))).map (·.1))), I1.laid (t' := s.toks) (fun b u e => ?_) (Nat.le_refl _) ⟨hlen, out, c, vals_of_each eo, hc2⟩, rfl, q _ (I1.hok.fresh (Nat.le_refl _))⟩
  have q := keep1 b u e
  change (sortedHeap g h'.objs.size _ _).get? b = some u
  rw [sortedHeap_old (Nat.ne_of_lt (Heap.lt_size e)) (Heap.lt_size q)]
  exact q
/-! the rules of hand, their K apart -/
theorem op_neDK (hu : X.A.units + 64 < cLine) (h : X.K = K := by rfl) : OpR X (compareOp .NotEq) (rNeD K) := by
  subst h
  exact op_neD hu
end
end TW
set_option Elab.async false
set_option linter.all false
set_option maxRecDepth 100000
set_option maxHeartbeats 4000000
/-! x in o, x not in o, o of an own class with its own __contains__ -/
namespace TW
open PySem PySem.Spec PyProof.Rows L2
section
variable {M : Model} {A : Around} {E : Value → Shared → Prop} {s : Shared} {K : PySem.W.Frag} {x C f : Addr} {ox : Obj} {odd : Option Obj}
theorem contains_own {Q : Bool → Shared → Prop} {v : Value} (X : K.In s.heap) (I : PySem.W.InstAt s.heap x ox C odd) (hs : PySem.W.findIn K (.ref C) "__contains__" = some (some (.ref f))) (hf : PySem.W.isFn K (.ref f) = true)
    (h : wpAny M A (call (.ref f) [.ref x, v]) (fun r s' => ∃ b, r = Value.bool b ∧ Q b s') E s) : wpAny M A (contains (.ref x) v) Q E s := by
  unfold contains
  refine wpAny_holding ?_
  show wpAny M A (specialOf (.ref x) "__contains__" >>= _) Q E s
  refine wpAny_bind (wpAny_bind (I.type.here ((PySem.W.looks_findIn X hs).here ?_)))
  rw [if_neg (by simp)]
  refine wpAny_bind ?_
  unfold callSpecialUnlessNone?
  refine wpAny_bind (wpAny_bind (I.type.here ((PySem.W.looks_findIn X hs).here ?_)))
  refine wpAny_holding (wpAny_bind ((PySem.W.bind_fn X _ (beq_iff_eq.mp hf)).here ?_))
  dsimp only
  rw [if_neg (by simp)]
  refine wpAny_bind (wpAny_mono h (fun r s' hr => ?_) fun _ _ z => z)
  obtain ⟨b, rfl, hq⟩ := hr
  exact wpAny_pure (wpAny_pure hq)
end
def rInOwn (C : Addr) (sp : Sp) (neg : Bool) : R2 := fun x y H Q => ∃ a dx fs, y = .ref a ∧ H a = some (.ins C dx fs) ∧ sp [.ref a, x] H (fun z H' => ∃ b : Bool, z = .bl b ∧ Q (.bl (if neg then !b else b)) H') E0
section
variable {X : Cx} {k : Nat} {C f : Addr} {fd : FuncData} {sp : Sp}
theorem contains_run (hs : PySem.W.findIn X.K (.ref C) "__contains__" = some (some (.ref f))) (hf : PySem.W.isFn X.K (.ref f) = true) (F : FnOk X.prog X.w X.K X.mg X.base CX0 k f fd ["self", "value"] sp)
    (hb : Binds X.K fd ["self", "value"] []) (hr : Room k X.A) {pins : List (Addr × Obj)} {σ : L2.St} {s : Shared} {H : Hp} {a dx : Addr} {fs : List (Str × V)} {x : V} {v : Value} {R : Bool → Hp → Prop} {Q : Bool → Shared → Prop} {E : Value → Shared → Prop} (I : Inv X pins σ H s) (ea : H a = some (.ins C dx fs)) (rx : RelV x v)
    (q : sp [.ref a, x] H (fun z H' => ∃ b : Bool, z = .bl b ∧ R b H') E0) (hQ : ∀ b s' H', Inv X pins σ H' s' → R b H' → Q b s') : wpAny (model X.prog X.w) X.A (contains (.ref a) v) Q E s := by
  obtain ⟨mA, O, _, _, _, _⟩ := ins_get I.hok ea
  obtain ⟨od, J, _⟩ := O.look
  refine contains_own I.kIn J hs hf (wpAny_call (codeAny_mono (F.run X.A X.stack s H ⟨[.ref a, v], []⟩ [.ref a, v] [.ref a, x] _ E0 hr I.env0 (hb _ [.ref a, v] I.kIn rfl) (.cons rfl (.cons rx .nil)) q) fun r s' hq => ?_))
  cases r with
  | error er => exact False.elim hq
  | ok fl =>
    cases fl with
    | ret u =>
      obtain ⟨z, H', I3, rv, b, rfl, q3⟩ := I.after hq
      obtain rfl : u = Value.bool b := rv
      exact ⟨b, rfl, hQ b _ H' I3 q3⟩
    | next => exact False.elim hq
    | brk => exact False.elim hq
    | cont => exact False.elim hq
theorem op_inOwn (hs : PySem.W.findIn X.K (.ref C) "__contains__" = some (some (.ref f))) (hf : PySem.W.isFn X.K (.ref f) = true) (F : FnOk X.prog X.w X.K X.mg X.base CX0 k f fd ["self", "value"] sp)
    (hb : Binds X.K fd ["self", "value"] []) (hr : Room k X.A) : OpR X (compareOp .In) (rInOwn C sp false) := by
  intro pins s σ H x y v u Q I rx ry h
  obtain ⟨a, dx, fs, rfl, ea, q⟩ := h
  cases (show u = Value.ref a from ry)
  exact wpAny_bind (contains_run hs hf F hb hr I ea rx q fun b s' H' I' q' => wpAny_pure ⟨.bl b, H', I', rfl, q'⟩)
theorem op_notInOwn (hs : PySem.W.findIn X.K (.ref C) "__contains__" = some (some (.ref f))) (hf : PySem.W.isFn X.K (.ref f) = true) (F : FnOk X.prog X.w X.K X.mg X.base CX0 k f fd ["self", "value"] sp)
    (hb : Binds X.K fd ["self", "value"] []) (hr : Room k X.A) : OpR X (compareOp .NotIn) (rInOwn C sp true) := by
  intro pins s σ H x y v u Q I rx ry h
  obtain ⟨a, dx, fs, rfl, ea, q⟩ := h
  cases (show u = Value.ref a from ry)
  exact wpAny_bind (contains_run hs hf F hb hr I ea rx q fun b s' H' I' q' => wpAny_pure ⟨.bl (!b), H', I', rfl, q'⟩)
end
end TW
set_option Elab.async false
set_option linter.all false
set_option maxRecDepth 100000
set_option maxHeartbeats 1000000
/-! x == y, both of an own class with its own __eq__ -/
namespace TW
open PySem PySem.Spec PyProof.Rows L2
def rEqOwn (C : Addr) (sp : Sp) : R2 := fun x y H Q => ∃ a b dx dy fs gs, x = .ref a ∧ y = .ref b ∧ H a = some (.ins C dx fs) ∧ H b = some (.ins C dy gs) ∧ sp [.ref a, .ref b] H (fun z H' => ∃ t : Bool, z = .bl t ∧ Q (.bl t) H') E0
section
variable {X : Cx} {k : Nat} {C f : Addr} {fd : FuncData} {sp : Sp}
theorem op_eqOwn (hs : PySem.W.findIn X.K (.ref C) "__eq__" = some (some (.ref f))) (hf : PySem.W.isFn X.K (.ref f) = true) (F : FnOk X.prog X.w X.K X.mg X.base CX0 k f fd ["self", "other"] sp)
    (hb : Binds X.K fd ["self", "other"] []) (hr : Room k X.A) : OpR X (compareOp .Eq) (rEqOwn C sp) := by
  intro pins s σ H x y v u Q I rx ry h
  obtain ⟨a, b, dx, dy, fs, gs, rfl, rfl, ha, hb', q⟩ := h
  cases (show v = Value.ref a from rx)
  cases (show u = Value.ref b from ry)
  obtain ⟨mA, J, _⟩ := ins_get I.hok ha
  obtain ⟨mB, J', _⟩ := ins_get I.hok hb'
  obtain ⟨od, J, _⟩ := J.look
  obtain ⟨od', J', _⟩ := J'.look
  obtain ⟨m, hF⟩ := I.fr
  show wpAny (model X.prog X.w) X.A (richCompare .Eq (.ref a) (.ref b)) (EP X pins σ Q) X.xe s
  refine PySem.W.cmp_K (op := .Eq) (tb := .ref C) hr.units0 hF I.ok.mod.kin J J'.type (by simp [PySem.W.notFirst]) hs hf ?_
  refine wpAny_call (codeAny_mono (F.run X.A X.stack s H ⟨[.ref a, .ref b], []⟩ [.ref a, .ref b] [.ref a, .ref b] _ E0 hr I.env0 (hb _ [.ref a, .ref b] I.kIn rfl) (.cons rfl (.cons rfl .nil)) q) fun r s' hq => ?_)
  cases r with
  | error er => exact False.elim hq
  | ok fl =>
    cases fl with
    | ret w =>
      obtain ⟨z, H', I3, rz, t, rfl, q3⟩ := I.after hq
      obtain rfl : w = Value.bool t := rz
      exact ⟨.bl t, H', I3, rfl, q3⟩
    | next => exact False.elim hq
    | brk => exact False.elim hq
    | cont => exact False.elim hq
end
end TW
set_option Elab.async false
set_option linter.all false
set_option maxRecDepth 100000
set_option maxHeartbeats 1000000
/-! sorted(set of ints), any number of them up to 4000 -/
namespace L2
open PySem PySem.Spec PyProof.Rows
section
variable {P : Program} {w : World} {A : Around} {E : Value → Shared → Prop} {s : Shared} {a : Addr}
theorem sorted_setN {S : Int → Bool} {n : Nat} {Q : Value → Shared → Prop} (R : SetR w s.heap a S n) (hh : A.handled = none) (hn4 : n ≤ 4000)
    (hQ : ∀ s' p (out : Array Value) (c : Nat) (ns : List Int), (∀ b o, s.heap.get? b = some o → s'.heap.get? b = some o) → s'.gens = s.gens → s'.os = s.os → s.heap.objs.size ≤ p →
      s'.heap.get? p = some (seqObj "list" out c) → IntsAre out.toList ns → ns.Pairwise (· < ·) → (∀ k, k ∈ ns ↔ S k = true) → ns.length = n → Q (.ref p) s') :
    wpAny (model P w) A (call (.builtin "sorted") [.ref a]) Q E s := by
  obtain ⟨o, es, ep, t, ho, hex, hd, g, nd, hm, hb, hf, hn, hr, hl⟩ := R
  refine Calls.call_function_entry kind_sorted plain_sorted entry_sorted (args_sorted1 _) ?_
  unfold Builtin.«sorted»
  refine wpAny_bind (m := checkCount "sorted" 1 1 _) (wpAny_pure ?_)
  refine wpAny_bind (collect_set (A := A.in1) hh ⟨o, ho, hex.1, hd⟩ hf hb hr hl fun s1 vs k1 hz g1 o1 pm => ?_)
  have hvl : vs.length = n := by rw [pm.length_eq, List.length_map, Array.length_toList]; exact hn
  have hI : IntsAre vs (vs.map Builtin.Re.reRawOf) := ints_of vs fun v hv => by
    obtain ⟨e, he, q⟩ := List.mem_map.mp (pm.mem_iff.mp hv)
    obtain ⟨k, tk, h1, _⟩ := g e he
    exact ⟨k, tk, by rw [← q]; exact h1⟩
  have pk : (vs.map Builtin.Re.reRawOf).Perm (es.toList.map keyOf) := by
    have q := pm.map Builtin.Re.reRawOf
    rw [List.map_map] at q
    exact q
  have lz : vs.length ≤ sizeLine := by rw [hvl, sizeLine_eq]; omega
  refine wpAny_bind (wpAny_newList ?_ lz)
  have hoL : (s1.heap.push (seqObj "list" vs.toArray 0)).get? s1.heap.objs.size = some (seqObj "list" vs.toArray 0) := Heap.get?_push_size _ rfl
  refine wpAny_bind (wpAny_holding (wpAny_call_entry slot_list_sort ⟨_, hoL, rfl⟩ entry_list_sort (SrtO.list_sort_ord SrtO.swo_int hoL lz (fun h2 => SrtO.ints_sortable hI h2) fun out h1 h2 => ⟨_, rfl, ?_⟩) (args_list_sort _)))
  obtain ⟨a1, a2, a3⟩ := SrtO.ints_out hI h1 h2
  obtain ⟨c, hc⟩ := sortedHeap_at (vs := vs) (out := out.toArray) hoL
  have pn : (out.map SrtO.iv).Perm (es.toList.map keyOf) := a2.trans pk
  refine wpAny_pure ⟨_, rfl, hQ _ s1.heap.objs.size out.toArray c (out.map SrtO.iv) (fun b u e => ?_) g1 o1 hz hc a1 (lt_of_le_nodup _ a3 (pn.nodup_iff.mpr nd)) (fun k => by rw [pn.mem_iff, ← hm k]) ?_⟩
  · have q := k1 b u e
    have hlt := Heap.lt_size q
    show (sortedHeap (s1.heap.push (seqObj "list" vs.toArray 0)) s1.heap.objs.size vs out.toArray).get? b = some u
    rw [sortedHeap_old (Nat.ne_of_lt hlt) (by rw [size_push']; exact Nat.lt_succ_of_lt hlt)]
    exact Heap.get?_push_of_some _ q
  · rw [pn.length_eq, List.length_map, Array.length_toList]; exact hn
end
def rSortedSetN (w : World) : List V → Hp → VK → Prop := fun vs H Q => ∃ (a : Addr) (S : Int → Bool) (n : Nat), vs = [V.ref a] ∧ H a = some (SetO w a S n) ∧ n ≤ 4000 ∧
  ∀ (ns : List Int) (p : Addr), ns.Pairwise (· < ·) → (∀ k : Int, k ∈ ns ↔ S k = true) → ns.length = n → H p = none → Q (.ref p) (upd H p (.lst (ns.map V.int)))
section
variable {X : Cx}
theorem cr_sortedSetN {w : World} (hc : X.calm = true) (hw : X.w = w := by rfl) : CallR X (.builtin "sorted") (rSortedSetN w) := by
  subst hw
  intro pins s σ H vs us Q I r h
  obtain ⟨a, S, n, rfl, ha, h4, q⟩ := h
  have R := setO_get I ha
  rw [Vals.ref1 r]
  refine sorted_setN R (I.ok.hd hc) h4 fun s' p out c ns k g o hp hg hi hs hm hl => ?_
  have hlen : (ns.map V.int).length ≤ sizeLine := by rw [List.length_map, hl, sizeLine_eq]; omega
  have hn : H p = none := I.hok.fresh hp
  have J : Inv X pins σ (upd H p (.lst (ns.map V.int))) { s with heap := s'.heap, gens := s'.gens, drawn := s'.drawn, toks := s'.toks } :=
    I.call (ch := []) (Un.laid k hp hn) (I.hok.laid k hp ⟨hlen, out.toList, c, vals_of_ints hi, hg⟩) (by rw [g]; exact I.bare) (fun _ z => nomatch z)
  have e : s' = { s with heap := s'.heap, gens := s'.gens, drawn := s'.drawn, toks := s'.toks } := by
    cases s'
    cases s
    cases o
    rfl
  rw [e]
  exact ⟨.ref p, _, J, rfl, q ns p hs hm hl hn⟩
end
end L2
set_option Elab.async false
set_option linter.all false
set_option maxRecDepth 100000
set_option maxHeartbeats 1000000
/-! for (a, b), v in d.items(), d a dict with tuple keys (locked) -/
namespace L2
open PySem PySem.Spec PyProof.Rows
section
variable {X : Cx} {pins : List (Addr × Obj)} {σ : St} {H : Hp} {s : Shared} {d : Addr} {o : Obj}
theorem Inv.frzT2 {kvs : List (List Key × V)} (I : Inv X pins σ H s) (h : H d = some (.frz o (.dT kvs))) :
    (d == sysModules) = false ∧ ∃ (es : Array DictEntry) (ep : Nat), s.heap.DictRaw d es ep ∧ es.size = kvs.length ∧
      ∀ (i : Nat) (k : List Key) (v : V), kvs[i]? = some (k, v) → ∃ (hi : i < es.size) (q : Addr), es[i].key = .ref q ∧ H q = some (.tup (k.map kV)) ∧ RelV v es[i].val := by
  obtain ⟨hd, z, hs, xs, pr, o', es, ep, ho, hx, hdt, he, _⟩ := I.hok d _ h
  refine ⟨hs, es, ep, ⟨o', ho, hx, hdt⟩, ?_, fun i k v e => ?_⟩
  · have l1 : es.size = xs.length := size_of_entries he
    have l2 : kvs.length = xs.length := Paired.length pr
    omega
  · obtain ⟨b, hb, e1, e2, e3⟩ := paired_get pr e
    have q := entry_at he i
    rw [hb] at q
    obtain ⟨hi, eq⟩ := Array.getElem?_eq_some_iff.mp q
    refine ⟨hi, b.2.1, ?_, e2, ?_⟩
    · rw [eq]
      rfl
    · rw [eq]
      exact e3
end
def Itit (d : Addr) (o : Obj) (kvs : List (List Key × V)) : It :=
  ⟨fun i H => H d = some (.frz o (.dT kvs)) ∧ i < kvs.length, fun i H x H' => ∃ (T q : Addr) (k : List Key) (v : V), kvs[i]? = some (k, v) ∧ x = .ref T ∧ H T = none ∧ H q = some (.tup (k.map kV)) ∧ H' = upd H T (.tup [.ref q, v]), fun i H => H d = some (.frz o (.dT kvs)) ∧ kvs.length ≤ i⟩
theorem raw_ep {h : Heap} {d : Addr} {es es' : Array DictEntry} {ep ep' : Nat} (a : h.DictRaw d es ep) (b : h.DictRaw d es' ep') : es' = es ∧ ep' = ep := by
  obtain ⟨o, h1, _, h2⟩ := a
  obtain ⟨o', h1', _, h2'⟩ := b
  rw [h1] at h1'
  cases h1'
  exact dict_ep h2 h2'
section
variable {P : Program} {w : World} {K : PySem.W.Frag} {d : Addr} {o : Obj} {es : Array DictEntry} {ep : Nat}
theorem turn_itemsT {kvs : List (List Key × V)} {elts : List Expr} {kk : Nat} {tpos : Pos} (it : Addr) (hod : o.data = .dict es ep) :
    Turn P w K (.Tuple elts kk tpos) (Itit d o kvs) [it] it (fun i h => ∃ ok ov, IsItemIter h it d i kvs.length ep ok ov) where
  mem := by simp
  obj := fun i h st b hb => by
    have e : b = it := by simpa using hb
    subst e
    obtain ⟨ok, ov, e⟩ := st
    exact ⟨_, e, fun v z => nomatch z⟩
  keep := fun i h h' st k => let ⟨ok, ov, e⟩ := st; ⟨ok, ov, k it (by simp) _ e⟩
  item := by
    intro X hP hw hK hc i pins s σ H E I hf st hg
    subst hP hw hK
    obtain ⟨hd, hi⟩ := hg
    obtain ⟨hs, es', ep', hr, hsz, ent⟩ := I.frzT2 hd
    obtain ⟨hs0, hgd, hx0, es0, ep0, hdt0, _⟩ := I.frzT hd
    obtain ⟨rfl, rfl⟩ := dict_ep hod hdt0
    obtain ⟨rfl, rfl⟩ := raw_ep ⟨o, hgd, hx0, hod⟩ hr
    obtain ⟨⟨k, v⟩, hkv⟩ : ∃ p, kvs[i]? = some p := ⟨kvs[i], List.getElem?_eq_getElem hi⟩
    obtain ⟨hie, q, hkey, hq, hval⟩ := ent i k v hkv
    obtain ⟨ok, ov, he⟩ := st
    rw [← hsz] at he
    have hlt : it < s.heap.objs.size := Heap.lt_size he
    refine wpAny_pyNext_items_item_raw he hr hie fun h' ho hT hz hk => ?_
    rw [hkey] at ho hT
    generalize hu : es'[i].val = u at ho hT hval
    refine ⟨_, rfl, wpAny_letOwnedTupleGo_items (s := { s with heap := h' }) ho fun h'' he' sb => ?_⟩
    have hT2 : h''.get? s.heap.objs.size = some { cls := .type "tuple", data := .seq #[.ref q, u] } := (sb.2 _ (Nat.ne_of_gt hlt)).trans hT
    have new : ObjOk X.prog X.w (upd H s.heap.objs.size (.tup [.ref q, v])) h'' s.heap.objs.size (.tup [.ref q, v]) :=
      ⟨by show 2 ≤ sizeLine; decide, [.ref q, u], .cons rfl (.cons hval .nil), ⟨_, hT2, rfl, _, rfl⟩⟩
    have I1 : Inv X pins σ (upd H s.heap.objs.size (.tup [.ref q, v])) { s with heap := h'' } :=
      I.turnedNew (t' := s.toks) (ch := [it]) (fun b ob hb e => (sb.2 b (by simpa using hb)).trans (hk b ob (by simpa using hb) e)) hf (Nat.le_refl _) new
    refine ⟨.ref s.heap.objs.size, _, I1, rfl, ⟨_, q, k, v, hkv, rfl, I.hok.fresh (Nat.le_refl _), hq, rfl⟩, ⟨.ref q, u, ?_⟩, fun b hb => ?_⟩
    · rw [← hsz]; exact he'
    · have e : b = it := by simpa using hb
      rw [e, upd_ne (Nat.ne_of_lt hlt)]
      exact (hf it (by simp)).1
  done := by
    intro X hP hw hK hc i pins s σ H E I hf st hg
    subst hP hw hK
    obtain ⟨hd, hi⟩ := hg
    obtain ⟨f0, f1, f2, f3, f4, f5⟩ := hf it (by simp)
    obtain ⟨hs, es', ep', hr, hsz, ent⟩ := I.frzT2 hd
    obtain ⟨hs0, hgd, hx0, es0, ep0, hdt0, _⟩ := I.frzT hd
    obtain ⟨rfl, rfl⟩ := dict_ep hod hdt0
    obtain ⟨rfl, rfl⟩ := raw_ep ⟨o, hgd, hx0, hod⟩ hr
    obtain ⟨ok, ov, he⟩ := st
    rw [← hsz] at he
    exact wpAny_pyNext_items_end_raw (I.ok.hd hc) he hr (by omega) fun h' eb => ⟨rfl, I.turned (t' := s.toks) (fun b ob hb e => eb b ob hb e) f0 f1 f3 f4 f5⟩
  self := fun A i s Q E st h => let ⟨_, _, e⟩ := st; PySem.W.kcp_self e h
end
def iItemsT (td : TE) : TI := fun σ H R => td σ H fun x H1 => ∃ d o kvs, x = .ref d ∧ H1 d = some (.frz o (.dT kvs)) ∧ R (Itit d o kvs) H1
section
variable {X : Cx} {tg e : Expr} {td : TE} {apos cpos : Pos}
theorem pi_itemsT {elts : List Expr} {kk : Nat} {tpos : Pos} (he : PE X e td) (hbase : attributeBase e "items" X.env (eval e X.env) = eval e X.env := by rfl) (hline : (apos.endLine == cpos.line) = true := by rfl) :
    PI X (.Tuple elts kk tpos) (.Call (.Attribute e "items" apos) [] [] cpos) (iItemsT td) := by
  refine ⟨fun pins s σ H R I h => ?_⟩
  refine wpAny_Call_method (T := "dict") (id := "dict.items") hbase rfl hline F.plainAttrs_dict F.slot_dict_items F.type_dict_items (thn (he.run pins s σ H _ I h) fun u s1 ⟨x, H1, I1, rx, d, o, kvs, ex, hd, q⟩ => ?_)
  subst ex
  obtain rfl : u = Value.ref d := rx
  obtain ⟨hs, es, ep, hr, hsz, ent⟩ := I1.frzT2 hd
  obtain ⟨hs0, hgd, hx0, es0, ep0, hdt0, _⟩ := I1.frzT hd
  obtain ⟨rfl, rfl⟩ := raw_ep ⟨o, hgd, hx0, hdt0⟩ hr
  have nd : ∀ b, Value.ref d = .ref b → ∃ ob, s1.heap.get? b = some ob ∧ ob.dict = none := fun b e => by
    cases e
    exact ⟨o, hgd, hx0.2.1⟩
  refine ⟨hr.typeIs, nd, ?_⟩
  have I2 : Inv X pins σ H1 { s1 with heap := s1.heap.push { cls := .type "dict_items", data := .fields #[.ref d] } } := I1.kept (t' := s1.toks) fun b ob q => Heap.get?_push_of_some _ q
  have fin : wpAny (model X.prog X.w) X.A (pyIter (.ref s1.heap.objs.size)) (PIE X pins σ (.Tuple elts kk tpos) R) X.xe { s1 with heap := s1.heap.push { cls := .type "dict_items", data := .fields #[.ref d] } } := by
    refine wpAny_pyIter_items_raw (d := d) ⟨_, Heap.get?_push_size _ rfl, rfl, rfl⟩ (hr.at fun _ e => Heap.get?_push_of_some _ e) (pi_one (tk := s1.toks) I2 _ (turn_itemsT _ hdt0) ⟨.none, .none, ?_⟩ q)
    rw [← hsz]
    exact Heap.get?_push_size _ rfl
  show wpAny _ _ (callWith cpos (.builtin "dict.items") [.ref d] [] []) _ X.xe s1
  exact method_meetsIn F.slot_dict_items F.entry_dict_items rfl (PySem.evalArgs_none ⟨rfl, hr.typeIs, F.args_dict_items_1 _, _, meets_dict_items_raw d hs, ⟨es, ep, hr⟩, fin⟩)
end
section
variable {d : Addr} {o : Obj}
theorem walk_itemsT {kvs : List (List Key × V)} : Walk (Itit d o kvs) kvs.length (fun H => H d = some (.frz o (.dT kvs)))
    (fun i H x H' => ∃ (T q : Addr) (k : List Key) (v : V), kvs[i]? = some (k, v) ∧ x = .ref T ∧ H T = none ∧ H q = some (.tup (k.map kV)) ∧ H' = upd H T (.tup [.ref q, v])) :=
  ⟨fun _ _ hi q => ⟨q, hi⟩, fun _ q => ⟨q, Nat.le_refl _⟩, fun _ _ _ _ _ _ y => y⟩
end
end L2
set_option Elab.async false
set_option linter.all false
set_option maxRecDepth 100000
set_option maxHeartbeats 1000000
namespace TW
open PySem PySem.Spec PyProof.Rows L2
/-! ties: two places and a weight -/
abbrev Arc := Nat × Nat × Nat
def arcL (t : Arc) : List Int := [(t.1 : Int), (t.2.1 : Int), (t.2.2 : Int)]
def arcD (t : Arc) : PyData := tupD (arcL t)
def arcOk (n : Nat) (t : Arc) : Prop := t.1 < n ∧ t.2.1 < n ∧ t.1 ≠ t.2.1
def endsA (t : Arc) : Nat × Nat := (min t.1 t.2.1, max t.1 t.2.1)
def wOf (ts : List Arc) (p : Nat × Nat) : Nat := ((ts.filter fun t => decide (endsA t = p)).map fun t => t.2.2).sum
def pairsN (n : Nat) : List (Nat × Nat) := (List.range n).flatMap fun a => ((List.range n).filter fun b => decide (a < b)).map fun b => (a, b)
def sumA (n : Nat) (ts : List Arc) : List Arc := ((pairsN n).filter fun p => decide (0 < wOf ts p)).map fun p => (p.1, p.2, wOf ts p)
theorem arcL_inj {s t : Arc} (h : arcL s = arcL t) : s = t := by
  unfold arcL at h
  simp only [List.cons.injEq, Int.natCast_inj, and_true] at h
  obtain ⟨h1, h2, h3⟩ := h
  exact Prod.ext h1 (Prod.ext h2 h3)
theorem mem_pairsN {n : Nat} {p : Nat × Nat} : p ∈ pairsN n ↔ p.1 < p.2 ∧ p.2 < n := by
  unfold pairsN
  rw [List.mem_flatMap]
  constructor
  · rintro ⟨a, ha, h⟩
    obtain ⟨b, hb, rfl⟩ := List.mem_map.mp h
    obtain ⟨h1, h2⟩ := List.mem_filter.mp hb
    exact ⟨of_decide_eq_true h2, List.mem_range.mp h1⟩
  · rintro ⟨h1, h2⟩
    exact ⟨p.1, List.mem_range.mpr (by omega), List.mem_map.mpr ⟨p.2, List.mem_filter.mpr ⟨List.mem_range.mpr h2, decide_eq_true h1⟩, rfl⟩⟩
theorem pairsN_pw (n : Nat) : (pairsN n).Pairwise fun p q => p.1 < q.1 ∨ (p.1 = q.1 ∧ p.2 < q.2) := by
  unfold pairsN
  rw [List.pairwise_flatMap]
  refine ⟨fun a _ => ?_, List.pairwise_lt_range.imp fun {a b} h x hx y hy => ?_⟩
  · rw [List.pairwise_map]
    exact (List.pairwise_lt_range.filter _).imp fun h => .inr ⟨rfl, h⟩
  · obtain ⟨_, _, rfl⟩ := List.mem_map.mp hx
    obtain ⟨_, _, rfl⟩ := List.mem_map.mp hy
    exact .inl h
theorem wOf_snoc (ts : List Arc) (t : Arc) (p : Nat × Nat) : wOf (ts ++ [t]) p = wOf ts p + (if endsA t = p then t.2.2 else 0) := by
  unfold wOf
  rw [List.filter_append, List.map_append, List.sum_append]
  congr 1
  by_cases h : endsA t = p
  · rw [if_pos h, List.filter_cons_of_pos (p := fun t => decide (endsA t = p)) (decide_eq_true h)]
    simp
  · rw [if_neg h, List.filter_cons_of_neg (p := fun t => decide (endsA t = p)) (by rw [decide_eq_false h]; decide)]
    simp
theorem wOf_perm {ts us : List Arc} (h : ts.Perm us) (p : Nat × Nat) : wOf ts p = wOf us p := ((h.filter _).map _).sum_nat
theorem wOf_none {ts : List Arc} {p : Nat × Nat} (h : ∀ t ∈ ts, endsA t ≠ p) : wOf ts p = 0 := by
  unfold wOf
  rw [List.filter_eq_nil_iff.mpr fun t ht => by rw [decide_eq_false (h t ht)]; decide]
  rfl
theorem sumA_perm {ts us : List Arc} (h : ts.Perm us) (n : Nat) : sumA n ts = sumA n us := by
  have e : wOf ts = wOf us := funext fun p => wOf_perm h p
  unfold sumA
  rw [e]
theorem mem_sumA {n : Nat} {ts : List Arc} {t : Arc} : t ∈ sumA n ts ↔ t.1 < t.2.1 ∧ t.2.1 < n ∧ t.2.2 = wOf ts (t.1, t.2.1) ∧ 0 < t.2.2 := by
  unfold sumA
  rw [List.mem_map]
  constructor
  · rintro ⟨p, hp, rfl⟩
    obtain ⟨h1, h2⟩ := List.mem_filter.mp hp
    obtain ⟨h3, h4⟩ := mem_pairsN.mp h1
    exact ⟨h3, h4, rfl, of_decide_eq_true h2⟩
  · rintro ⟨h1, h2, h3, h4⟩
    refine ⟨(t.1, t.2.1), List.mem_filter.mpr ⟨mem_pairsN.mpr ⟨h1, h2⟩, decide_eq_true (by rw [← h3]; exact h4)⟩, ?_⟩
    rw [← h3]
theorem sumA_ok {n : Nat} {ts : List Arc} : ∀ t ∈ sumA n ts, arcOk n t := fun t ht => by
  obtain ⟨h1, h2, _⟩ := mem_sumA.mp ht
  exact ⟨by omega, h2, by omega⟩
theorem sumA_pw (n : Nat) (ts : List Arc) : (sumA n ts).Pairwise fun s t => s.1 < t.1 ∨ (s.1 = t.1 ∧ s.2.1 < t.2.1) := by
  unfold sumA
  rw [List.pairwise_map]
  exact (pairsN_pw n).filter _
theorem lexLt_arc {s t : Arc} (h : s.1 < t.1 ∨ (s.1 = t.1 ∧ s.2.1 < t.2.1)) : HT.lexLt (arcL s) (arcL t) = true := by
  rw [lex_list, decide_eq_true_eq]
  unfold arcL
  rw [List.cons_lt_cons_iff]
  rcases h with h | ⟨h1, h2⟩
  · exact .inl (by omega)
  · refine .inr ⟨by omega, ?_⟩
    rw [List.cons_lt_cons_iff]
    exact .inl (by omega)
theorem sumA_lex (n : Nat) (ts : List Arc) : ((sumA n ts).map arcL).Pairwise fun x y => HT.lexLt x y = true := by
  rw [List.pairwise_map]
  exact (sumA_pw n ts).imp fun h => lexLt_arc h
theorem sumA_nodup (n : Nat) (ts : List Arc) : (sumA n ts).Nodup := (sumA_pw n ts).imp fun {a b} h e => by
  rw [e] at h
  omega
theorem wOf_sumA {n : Nat} {ts : List Arc} {p : Nat × Nat} (h1 : p.1 < p.2) (h2 : p.2 < n) : wOf (sumA n ts) p = wOf ts p := by
  have one : ∀ l : List Arc, l.Nodup → (∀ t ∈ l, t.1 < t.2.1) → (∀ t ∈ l, t.2.2 = wOf ts (t.1, t.2.1)) → wOf l p = if p ∈ l.map (fun t => (t.1, t.2.1)) then wOf ts p else 0 := by
    intro l nd lt hw
    induction l with
    | nil => rfl
    | cons t l ih =>
      have nt := (List.nodup_cons.mp nd).1
      have ih := ih (List.nodup_cons.mp nd).2 (fun u hu => lt u (List.mem_cons_of_mem _ hu)) (fun u hu => hw u (List.mem_cons_of_mem _ hu))
      have et : endsA t = (t.1, t.2.1) := by
        have := lt t List.mem_cons_self
        unfold endsA
        rw [Nat.min_eq_left (by omega), Nat.max_eq_right (by omega)]
      have ec : wOf (t :: l) p = (if endsA t = p then t.2.2 else 0) + wOf l p := by
        unfold wOf
        by_cases h : endsA t = p
        · rw [if_pos h, List.filter_cons_of_pos (p := fun t => decide (endsA t = p)) (decide_eq_true h), List.map_cons, List.sum_cons]
        · rw [if_neg h, List.filter_cons_of_neg (p := fun t => decide (endsA t = p)) (by rw [decide_eq_false h]; decide), Nat.zero_add]
      rw [ec, ih, et, List.map_cons]
      by_cases h : (t.1, t.2.1) = p
      · have hn : p ∉ l.map fun t => (t.1, t.2.1) := fun hm => by
          obtain ⟨u, hu, eu⟩ := List.mem_map.mp hm
          have e : u = t := by
            have w1 := hw u (List.mem_cons_of_mem _ hu)
            have w2 := hw t List.mem_cons_self
            have e2 : (u.1, u.2.1) = (t.1, t.2.1) := eu.trans h.symm
            rw [e2, ← w2] at w1
            injection e2 with q1 q2
            exact Prod.ext q1 (Prod.ext q2 w1)
          exact nt (e ▸ hu)
        rw [if_pos h, if_neg hn, if_pos (by rw [h]; exact List.mem_cons_self), hw t List.mem_cons_self, h, Nat.add_zero]
      · rw [if_neg h, Nat.zero_add]
        congr 1
        rw [List.mem_cons, eq_iff_iff]
        constructor
        · exact .inr
        · rintro (e | e)
          · exact absurd e.symm h
          · exact e
  rw [one _ (sumA_nodup n ts) (fun t ht => (mem_sumA.mp ht).1) fun t ht => (mem_sumA.mp ht).2.2.1]
  by_cases h : p ∈ (sumA n ts).map fun t => (t.1, t.2.1)
  · rw [if_pos h]
  · rw [if_neg h]
    by_cases h0 : 0 < wOf ts p
    · exact absurd (List.mem_map.mpr ⟨(p.1, p.2, wOf ts p), mem_sumA.mpr ⟨h1, h2, rfl, h0⟩, rfl⟩) h
    · omega
theorem sumA_idem {n : Nat} (ts : List Arc) : sumA n (sumA n ts) = sumA n ts := by
  have e1 : sumA n (sumA n ts) = ((pairsN n).filter fun p => decide (0 < wOf (sumA n ts) p)).map fun p => (p.1, p.2, wOf (sumA n ts) p) := rfl
  rw [e1]
  have e : ∀ p ∈ pairsN n, wOf (sumA n ts) p = wOf ts p := fun p hp => by
    obtain ⟨h1, h2⟩ := mem_pairsN.mp hp
    exact wOf_sumA h1 h2
  rw [show ((pairsN n).filter fun p => decide (0 < wOf (sumA n ts) p)) = (pairsN n).filter fun p => decide (0 < wOf ts p) from filt_congr fun p hp => by rw [e p hp]]
  show _ = ((pairsN n).filter fun p => decide (0 < wOf ts p)).map fun p => (p.1, p.2, wOf ts p)
  refine List.map_congr_left fun p hp => ?_
  rw [e p (List.mem_filter.mp hp).1]
/-- sorted, the sums are in their order -/
theorem sort_arcs {n : Nat} {ts A : List Arc} (nd : A.Nodup) (h : ∀ t, t ∈ A ↔ t ∈ sumA n ts) : (A.map arcD).mergeSort dLe = (sumA n ts).map arcD := by
  have pm := List.mergeSort_perm (A.map arcD) dLe
  have pw := dLe_pw (A.map arcD)
  have em : A.map arcD = (A.map arcL).map tupD := by rw [List.map_map]; rfl
  generalize (A.map arcD).mergeSort dLe = Z at pm pw
  rw [em] at pm
  obtain ⟨W, pW, rfl⟩ := perm_back pm
  have e2 : (sumA n ts).map arcD = ((sumA n ts).map arcL).map tupD := by rw [List.map_map]; rfl
  rw [e2]
  congr 1
  have ndL : (A.map arcL).Nodup := by
    unfold List.Nodup
    rw [List.pairwise_map]
    exact List.Pairwise.imp (fun {a b} (hn : a ≠ b) e => hn (arcL_inj e)) nd
  rw [List.pairwise_map] at pw
  refine strict_ext lex_asymm (lots_strict (pw.imp fun {x y} q => ?_) (pW.nodup_iff.mpr ndL)) (sumA_lex n ts) fun z => ?_
  · rw [dLe_lots] at q
    rw [Bool.not_eq_true'] at q
    exact q
  · rw [pW.mem_iff, List.mem_map, List.mem_map]
    constructor
    · rintro ⟨t, ht, e⟩
      exact ⟨t, (h t).mp ht, e⟩
    · rintro ⟨t, ht, e⟩
      exact ⟨t, (h t).mpr ht, e⟩
theorem At.arc {H : Hp} {v : V} {t : Arc} (h : At H v (arcD t)) : ∃ a, v = .ref a ∧ H a = some (.tup [.int t.1, .int t.2.1, .int t.2.2]) := by
  obtain ⟨a, xs, rfl, h1, h2⟩ := At.isT h
  refine ⟨a, rfl, ?_⟩
  have e : xs = [.int t.1, .int t.2.1, .int t.2.2] := by
    match xs, h2 with
    | [x, y, z], h2 =>
      have e1 := h2.head.isI
      have e2 := h2.rest.head.isI
      have e3 := h2.rest.rest.head.isI
      rw [e1, e2, e3]
    | [], h2 => exact absurd h2.1 (by simp [arcL])
    | [_], h2 => exact absurd h2.1 (by simp [arcL])
    | [_, _], h2 => exact absurd h2.1 (by simp [arcL])
    | _ :: _ :: _ :: _ :: _, h2 => exact absurd h2.1 (by simp [arcL])
  rw [h1, e]
theorem at_arc {H : Hp} {a : Addr} {t : Arc} (h : H a = some (.tup [.int t.1, .int t.2.1, .int t.2.2])) : At H (.ref a) (arcD t) := At.mkT h (.cons (.int _) (.cons (.int _) (.cons (.int _) .nil)))
theorem nodup_lenG {α : Type} [DecidableEq α] : ∀ {xs ys : List α}, xs.Nodup → (∀ x ∈ xs, x ∈ ys) → xs.length ≤ ys.length
  | [], ys, _, _ => Nat.zero_le _
  | x :: xs, ys, nd, h => by
    have hx := h x List.mem_cons_self
    have ih := nodup_lenG (xs := xs) (ys := ys.erase x) (List.nodup_cons.mp nd).2 fun y hy => (List.mem_erase_of_ne (fun e => (List.nodup_cons.mp nd).1 (by rw [← e]; exact hy))).mpr (h y (List.mem_cons_of_mem _ hy))
    rw [List.length_erase_of_mem hx] at ih
    have := List.length_pos_of_mem hx
    rw [List.length_cons]
    omega
/-! the dict of the sums -/
def keyP (p : Nat × Nat) : List Key := [.inl (p.1 : Int), .inl (p.2 : Int)]
theorem keyP_inj {p q : Nat × Nat} (h : keyP p = keyP q) : p = q := by
  unfold keyP at h
  simp only [List.cons.injEq, Sum.inl.injEq, Int.natCast_inj, and_true] at h
  exact Prod.ext h.1 h.2
def entA (t : Arc) : List Key × V := (keyP (t.1, t.2.1), .int t.2.2)
structure Book (n : Nat) (rs ps : List Arc) : Prop where
  nd : (ps.map fun t => (t.1, t.2.1)).Nodup
  lt : ∀ t ∈ ps, t.1 < t.2.1 ∧ t.2.1 < n
  w : ∀ t ∈ ps, t.2.2 = wOf rs (t.1, t.2.1)
  all : ∀ r ∈ rs, endsA r ∈ ps.map fun t => (t.1, t.2.1)
def putA (ps : List Arc) (p : Nat × Nat) (w : Nat) : List Arc := if p ∈ ps.map (fun t => (t.1, t.2.1)) then ps.map (fun t => if (t.1, t.2.1) = p then (p.1, p.2, w) else t) else ps ++ [(p.1, p.2, w)]
theorem valV_ents (p : Nat × Nat) : ∀ ps : List Arc, valV (ps.map entA) (keyP p) = (ps.find? fun t => decide ((t.1, t.2.1) = p)).map fun t => V.int t.2.2
  | [] => rfl
  | t :: ps => by
    by_cases h : (t.1, t.2.1) = p
    · rw [List.map_cons, valV_pos (show (entA t).1 = keyP p by unfold entA; rw [h]), List.find?_cons_of_pos (p := fun t : Arc => decide ((t.1, t.2.1) = p)) (decide_eq_true h)]
      rfl
    · rw [List.map_cons, valV_neg (fun e => h (keyP_inj e)), List.find?_cons_of_neg (p := fun t : Arc => decide ((t.1, t.2.1) = p)) (by rw [decide_eq_false h]; decide), valV_ents p ps]
theorem putK_ents (ps : List Arc) (p : Nat × Nat) (w : Nat) : putK (ps.map entA) (keyP p) (.int w) = (putA ps p w).map entA := by
  unfold putK putA
  have e : ((ps.map entA).any fun kv => decide (kv.1 = keyP p)) = decide (p ∈ ps.map fun t => (t.1, t.2.1)) := by
    rw [Bool.eq_iff_iff, List.any_eq_true, decide_eq_true_eq, List.mem_map]
    constructor
    · rintro ⟨x, hx, h⟩
      obtain ⟨t, ht, rfl⟩ := List.mem_map.mp hx
      exact ⟨t, ht, keyP_inj (of_decide_eq_true h)⟩
    · rintro ⟨t, ht, h⟩
      exact ⟨entA t, List.mem_map.mpr ⟨t, ht, rfl⟩, decide_eq_true (by unfold entA; rw [h])⟩
  rw [e]
  by_cases h : p ∈ ps.map fun t => (t.1, t.2.1)
  · rw [if_pos (decide_eq_true h), if_pos h, List.map_map, List.map_map]
    refine List.map_congr_left fun t _ => ?_
    by_cases q : (t.1, t.2.1) = p
    · show (if (entA t).1 = keyP p then _ else _) = entA (if (t.1, t.2.1) = p then _ else _)
      rw [if_pos (show (entA t).1 = keyP p by unfold entA; rw [q]), if_pos q]
      unfold entA
      rw [q]
    · show (if (entA t).1 = keyP p then _ else _) = entA (if (t.1, t.2.1) = p then _ else _)
      rw [if_neg (show ¬ (entA t).1 = keyP p from fun e => q (keyP_inj e)), if_neg q]
  · rw [if_neg (by rw [decide_eq_false h]; decide), if_neg h, List.map_append]
    rfl
theorem putA_keys (ps : List Arc) (p : Nat × Nat) (w : Nat) : (putA ps p w).map (fun t => (t.1, t.2.1)) = if p ∈ ps.map (fun t => (t.1, t.2.1)) then ps.map (fun t => (t.1, t.2.1)) else ps.map (fun t => (t.1, t.2.1)) ++ [p] := by
  unfold putA
  by_cases h : p ∈ ps.map fun t => (t.1, t.2.1)
  · rw [if_pos h, if_pos h, List.map_map]
    refine List.map_congr_left fun t _ => ?_
    show ((if (t.1, t.2.1) = p then (p.1, p.2, w) else t).1, (if (t.1, t.2.1) = p then (p.1, p.2, w) else t).2.1) = _
    by_cases q : (t.1, t.2.1) = p
    · rw [if_pos q]
      exact q.symm
    · rw [if_neg q]
  · rw [if_neg h, if_neg h, List.map_append]
    rfl
theorem Book.put {n : Nat} {rs ps : List Arc} (B : Book n rs ps) {r : Arc} (hr : arcOk n r) : Book n (rs ++ [r]) (putA ps (endsA r) (wOf (rs ++ [r]) (endsA r))) := by
  have hlt : (endsA r).1 < (endsA r).2 ∧ (endsA r).2 < n := by
    obtain ⟨h1, h2, h3⟩ := hr
    unfold endsA
    show min r.1 r.2.1 < max r.1 r.2.1 ∧ max r.1 r.2.1 < n
    omega
  have mem : ∀ t ∈ putA ps (endsA r) (wOf (rs ++ [r]) (endsA r)), t = ((endsA r).1, (endsA r).2, wOf (rs ++ [r]) (endsA r)) ∨ (t ∈ ps ∧ (t.1, t.2.1) ≠ endsA r) := fun t ht => by
    unfold putA at ht
    split at ht
    · obtain ⟨u, hu, e⟩ := List.mem_map.mp ht
      split at e
      · exact .inl e.symm
      · rename_i q
        subst e
        exact .inr ⟨hu, q⟩
    · rename_i q
      rcases List.mem_append.mp ht with h | h
      · exact .inr ⟨h, fun e => q (List.mem_map.mpr ⟨t, h, e⟩)⟩
      · exact .inl (List.mem_singleton.mp h)
  refine ⟨?_, fun t ht => ?_, fun t ht => ?_, fun s hs => ?_⟩
  · rw [putA_keys]
    split
    · exact B.nd
    · rename_i h
      refine List.nodup_append.mpr ⟨B.nd, by simp, fun a ha b hb e => ?_⟩
      rw [List.mem_singleton.mp hb] at e
      exact h (e ▸ ha)
  · rcases mem t ht with rfl | ⟨h, _⟩
    · exact hlt
    · exact B.lt t h
  · rcases mem t ht with rfl | ⟨h, q⟩
    · rfl
    · rw [wOf_snoc, if_neg (fun e => q e.symm), Nat.add_zero]
      exact B.w t h
  · rw [putA_keys]
    have hm : endsA s ∈ ps.map (fun t => (t.1, t.2.1)) ∨ endsA s = endsA r := by
      rcases List.mem_append.mp hs with h | h
      · exact .inl (B.all s h)
      · rw [List.mem_singleton.mp h]
        exact .inr rfl
    split
    · rename_i h
      rcases hm with q | q
      · exact q
      · rw [q]; exact h
    · rcases hm with q | q
      · exact List.mem_append_left _ q
      · rw [q]; exact List.mem_append_right _ List.mem_cons_self
theorem Book.get {n : Nat} {rs ps : List Arc} (B : Book n rs ps) (p : Nat × Nat) : ((valV (ps.map entA) (keyP p)).getD (.int 0)) = .int (wOf rs p) := by
  rw [valV_ents]
  cases h : ps.find? fun t => decide ((t.1, t.2.1) = p) with
  | none =>
    rw [List.find?_eq_none] at h
    have e : wOf rs p = 0 := wOf_none fun r hr e => by
      obtain ⟨t, ht, q⟩ := List.mem_map.mp (B.all r hr)
      exact h t ht (decide_eq_true (q.trans e))
    rw [e]
    rfl
  | some t =>
    have q := of_decide_eq_true (List.find?_some (p := fun t : Arc => decide ((t.1, t.2.1) = p)) h)
    have hw := B.w t (List.mem_of_find?_eq_some h)
    rw [q] at hw
    show V.int (t.2.2 : Int) = _
    rw [hw]
theorem Book.mem {n : Nat} {rs ps : List Arc} (B : Book n rs ps) (t : Arc) : t ∈ ps.filter (fun t => decide (0 < t.2.2)) ↔ t ∈ sumA n rs := by
  rw [List.mem_filter, mem_sumA, decide_eq_true_eq]
  constructor
  · rintro ⟨h1, h2⟩
    obtain ⟨h3, h4⟩ := B.lt t h1
    exact ⟨h3, h4, B.w t h1, h2⟩
  · rintro ⟨h1, h2, h3, h4⟩
    refine ⟨?_, h4⟩
    have hne : ∃ r ∈ rs, endsA r = (t.1, t.2.1) := Decidable.byContradiction fun c => by
      have := wOf_none (ts := rs) (p := (t.1, t.2.1)) fun r hr e => c ⟨r, hr, e⟩
      omega
    obtain ⟨r, hr, e⟩ := hne
    obtain ⟨u, hu, q⟩ := List.mem_map.mp (B.all r hr)
    have e2 : (u.1, u.2.1) = (t.1, t.2.1) := q.trans e
    have wu := B.w u hu
    rw [e2, ← h3] at wu
    injection e2 with q1 q2
    rw [← (Prod.ext q1 (Prod.ext q2 wu) : u = t)]
    exact hu
theorem Book.nodup {n : Nat} {rs ps : List Arc} (B : Book n rs ps) : (ps.filter fun t => decide (0 < t.2.2)).Nodup := by
  have h : ps.Nodup := by
    have := B.nd
    unfold List.Nodup at this ⊢
    rw [List.pairwise_map] at this
    exact this.imp fun {a b} h e => h (by rw [e])
  exact h.filter _
theorem Book.len {n : Nat} {rs ps : List Arc} (B : Book n rs ps) : ps.length ≤ n * n := by
  have h : (ps.map fun t => (t.1, t.2.1)).Nodup := B.nd
  have sub : ∀ p ∈ ps.map (fun t => (t.1, t.2.1)), p ∈ pairsN n := fun p hp => by
    obtain ⟨t, ht, rfl⟩ := List.mem_map.mp hp
    exact mem_pairsN.mpr (B.lt t ht)
  have l1 : (ps.map fun t => (t.1, t.2.1)).length ≤ (pairsN n).length := nodup_lenG h sub
  rw [List.length_map] at l1
  have l2 : (pairsN n).length ≤ n * n := by
    unfold pairsN
    rw [List.length_flatMap]
    have : ∀ l : List Nat, (l.map fun a => (((List.range n).filter fun b => decide (a < b)).map fun b => (a, b)).length).sum ≤ l.length * n := fun l => by
      induction l with
      | nil => simp
      | cons a l ih =>
        rw [List.map_cons, List.sum_cons, List.length_cons, Nat.succ_mul]
        have : (((List.range n).filter fun b => decide (a < b)).map fun b => (a, b)).length ≤ n := by
          rw [List.length_map]
          exact Nat.le_trans (List.length_filter_le _ _) (by rw [List.length_range]; exact Nat.le_refl _)
        omega
    have := this (List.range n)
    rw [List.length_range] at this
    exact this
  omega
end TW
set_option Elab.async false
set_option linter.all false
set_option maxRecDepth 100000
set_option maxHeartbeats 1000000
namespace TW
open PySem PySem.Spec PyProof.Rows L2
section
variable {P : Program} {w : World} {K : PySem.W.Frag} {mg : Str → Option Value} {base : Heap} {C N : Addr}
/-! is_place, is_told_tie, check_places -/
theorem sc_is_place : FnScope ["value", "places"] ["value", "places"] (defScope s_is_place) := ⟨rfl, rfl, rfl, by decide +kernel, rfl, by decide +kernel, by decide +kernel⟩
def spIsPlace : Sp := fun vs H Q _ => ∃ (i l : Int), vs = [.int i, .int l] ∧ Q (.bl (decide (0 ≤ i) && decide (i < l))) H
theorem ok_is_place (D : Dfn K mg "is_place" s_is_place ["value", "places"]) (O_is_integer : Ok P w K mg base 1 "is_integer" ["value", "least"] spIsInt) : Ok P w K mg base 2 "is_place" ["value", "places"] spIsPlace := D.ok fun f fd F => by
  refine F.ok sc_is_place (fun vs H Q E h => ?_) (fun cdv A outer s H vs Q E hr h => ?_)
  · obtain ⟨i, l, rfl, _⟩ := h
    rfl
  · obtain ⟨i, l, rfl, q⟩ := h
    refine ⟨_, (pss_one (ps_ret (pe_and (pe_o O_is_integer hr (pa_cons (pv 0) (pa_cons pe_int pa_nil))) (pe_one (pe_cmpR op_lt (pv 0) (pv 1) (nomark _)))))), ?_⟩
    refine ⟨_, rfl, _, _, rfl, _, rfl, ?_⟩
    cases h0 : decide (0 ≤ i) with
    | false =>
      rw [h0] at q
      exact q
    | true =>
      rw [h0] at q
      exact ⟨_, rfl, _, rfl, _, _, rfl, rfl, q⟩
theorem sc_is_told_tie : FnScope ["value", "places", "place", "other_place", "weight"] ["value", "places"] (defScope s_is_told_tie) := ⟨rfl, rfl, rfl, by decide +kernel, rfl, by decide +kernel, by decide +kernel⟩
def spToldTie : Sp := fun vs H Q _ => ∃ (v : V) (n : Nat) (t : Arc), vs = [v, .int n] ∧ At H v (arcD t) ∧ arcOk n t ∧ Q (.bl true) H
theorem ok_is_told_tie (D : Dfn K mg "is_told_tie" s_is_told_tie ["value", "places"]) (z : Z mg) (O_is_integer : Ok P w K mg base 1 "is_integer" ["value", "least"] spIsInt) (O_is_place : Ok P w K mg base 2 "is_place" ["value", "places"] spIsPlace) : Ok P w K mg base 3 "is_told_tie" ["value", "places"] spToldTie := D.ok fun f fd F => by
  refine F.ok sc_is_told_tie (fun vs H Q E h => ?_) (fun cdv A outer s H vs Q E hr h => ?_)
  · obtain ⟨v, n, t, rfl, _⟩ := h
    rfl
  · obtain ⟨v, n, t, rfl, hv, ⟨h1, h2, h3⟩, q⟩ := h
    obtain ⟨a, rfl, ha⟩ := hv.arc
    refine ⟨_, (pss_cons (ps_if (PW.pt (pw_or (pt_cmpR op_isNotTy (pe_callTy call_type1 (by rfl) z.type (by decide +kernel) (pa_cons (pv 0) pa_nil)) (pe_tyn (n := "tuple") (by rfl) z.tuple (by decide +kernel)) (nomark _)) (pw_or1 (pt_cmpR op_ne (pe_callB call_len_seq (by rfl) z.len PySem.boot_len (pa_cons (pv 0) pa_nil)) pe_int (nomark _))))) (pss_one (ps_ret pe_bl)) pss_nil)
      (pss_cons (ps_asg (pv 0) (pg_tup rfl (pgs_cons (pg_name (i := 2) sc_is_told_tie.nd rfl (Or.inl rfl)) (pgs_cons (pg_name (i := 3) sc_is_told_tie.nd rfl (Or.inl rfl)) (pgs_cons (pg_name (i := 4) sc_is_told_tie.nd rfl (Or.inl rfl)) pgs_nil)))))
      (pss_cons (ps_if (PW.pt (pw_or (pt_not (pt_val (pe_o O_is_place hr (pa_cons (pv 2) (pa_cons (pv 1) pa_nil))))) (pw_or1 (pt_not (pt_val (pe_o O_is_place hr (pa_cons (pv 3) (pa_cons (pv 1) pa_nil)))))))) (pss_one (ps_ret pe_bl)) pss_nil)
      (pss_one (ps_ret (pe_and (pe_cmpR op_ne (pv 2) (pv 3) (nomark _)) (pe_one (pe_o O_is_integer (hr.mono (by decide)) (pa_cons (pv 4) (pa_cons pe_int pa_nil)))))))))), ?_⟩
    refine ⟨_, rfl, _, _, rfl, .tup (Evl.st_of ha), _, _, rfl, rfl, _, rfl, ?_⟩
    refine ⟨_, rfl, a, _, rfl, .inr (Evl.st_of ha), rfl, _, rfl, ?_⟩
    refine ⟨_, rfl, a, _, rfl, Evl.st_of ha, rfl, ?_⟩
    refine ⟨_, _, rfl, _, _, rfl, _, _, rfl, rfl, ?_⟩
    have b1 : (decide (0 ≤ (t.1 : Int)) && decide ((t.1 : Int) < (n : Int))) = true := by rw [Bool.and_eq_true]; exact ⟨decide_eq_true (by omega), decide_eq_true (by omega)⟩
    have b2 : (decide (0 ≤ (t.2.1 : Int)) && decide ((t.2.1 : Int) < (n : Int))) = true := by rw [Bool.and_eq_true]; exact ⟨decide_eq_true (by omega), decide_eq_true (by omega)⟩
    refine ⟨_, rfl, _, rfl, _, _, rfl, ?_⟩
    rw [b1]
    refine ⟨_, rfl, _, rfl, _, rfl, _, _, rfl, ?_⟩
    rw [b2]
    refine ⟨_, rfl, ?_⟩
    refine ⟨_, rfl, _, rfl, rfl, ?_⟩
    have hne : ¬ (V.int (t.1 : Int) = V.int (t.2.1 : Int)) := fun e => h3 (by have := V.int.inj e; omega)
    rw [decide_eq_false hne]
    refine ⟨_, rfl, _, rfl, _, _, rfl, ?_⟩
    rw [decide_eq_true (show (0 : Int) ≤ (t.2.2 : Int) by omega)]
    exact q
theorem sc_check_places : FnScope ["places"] ["places"] (defScope s_check_places) := ⟨rfl, rfl, rfl, by decide +kernel, rfl, by decide +kernel, by decide +kernel⟩
theorem ok_check_places (D : Dfn K mg "check_places" s_check_places ["places"]) (O_is_integer : Ok P w K mg base 1 "is_integer" ["value", "least"] spIsInt) : Ok P w K mg base 2 "check_places" ["places"] spCheckThings := D.ok fun f fd F => by
  refine F.ok sc_check_places (fun vs H Q E h => ?_) (fun cdv A outer s H vs Q E hr h => ?_)
  · obtain ⟨n, rfl, _⟩ := h
    rfl
  · obtain ⟨n, rfl, hn, q⟩ := h
    refine ⟨_, (pss_one (ps_if (pt_not (pt_val (pe_o O_is_integer hr (pa_cons (pv 0) (pa_cons pe_int pa_nil))))) (pss_one ps_never) pss_nil)), ?_⟩
    refine ⟨_, rfl, n, 1, rfl, ?_⟩
    rw [decide_eq_true (show (1 : Int) ≤ n by omega)]
    exact ⟨_, rfl, q⟩
/-! ends_of -/
theorem sc_ends_of : FnScope ["place", "other_place"] ["place", "other_place"] (defScope s_ends_of) := ⟨rfl, rfl, rfl, by decide +kernel, rfl, by decide +kernel, by decide +kernel⟩
def spEnds : Sp := fun vs H Q _ => ∃ (a b : Nat), vs = [.int a, .int b] ∧ ∀ t, H t = none → Q (.ref t) (upd H t (.tup [.int (min a b : Nat), .int (max a b : Nat)]))
theorem ok_ends_of (D : Dfn K mg "ends_of" s_ends_of ["place", "other_place"]) (zmin : mg "min" = none) (zmax : mg "max" = none) : Ok P w K mg base 1 "ends_of" ["place", "other_place"] spEnds := D.ok fun f fd F => by
  refine F.ok sc_ends_of (fun vs H Q E h => ?_) (fun cdv A outer s H vs Q E hr h => ?_)
  · obtain ⟨a, b, rfl, _⟩ := h
    rfl
  · obtain ⟨a, b, rfl, q⟩ := h
    refine ⟨_, (pss_one (ps_ret (pe_tup (pa_cons (pe_callB (call_min2 rfl) (by rfl) zmin (by decide +kernel) (pa_cons (pv 0) (pa_cons (pv 1) pa_nil))) (pa_cons (pe_callB (call_max2 rfl) (by rfl) zmax (by decide +kernel) (pa_cons (pv 0) (pa_cons (pv 1) pa_nil))) pa_nil))))), ?_⟩
    refine ⟨_, rfl, _, rfl, _, _, rfl, _, rfl, _, rfl, _, _, rfl, sz (by show 2 ≤ 100000; decide), fun t nt => ?_⟩
    have e1 : (if (b : Int) < (a : Int) then (b : Int) else a) = ((min a b : Nat) : Int) := by
      split <;> omega
    have e2 : (if (b : Int) > (a : Int) then (b : Int) else a) = ((max a b : Nat) : Int) := by
      split <;> omega
    rw [e1, e2]
    exact q t nt
/-! _joined_ties -/
abbrev NJT : List Str := ["ties", "weights", "place", "other_place", "weight", "ends", "low", "high"]
theorem sc__joined_ties : FnScope NJT ["ties"] (defScope s__joined_ties) := ⟨rfl, rfl, rfl, by decide +kernel, rfl, by decide +kernel, by decide +kernel⟩
def spJoined : Sp := fun vs H Q _ => ∃ (G : Hp) (l : List (Addr × HO)) (a : Addr) (xs : List V) (n : Nat) (ts : List Arc), vs = [.ref a] ∧ Has G H l ∧ Stays G l a (.lst xs) ∧ Ats G xs (ts.map arcD) ∧ (∀ t ∈ ts, arcOk n t) ∧ ts.length ≤ 1000 ∧ n ≤ 100 ∧
  ∀ (G' H' : Hp) (u : Addr) (ys : List V), Ex G G' → Has G' H' ((u, .tup ys) :: l) → Ats G' ys ((sumA n ts).map arcD) → Q (.ref u) H'
theorem ok_joined (D : Dfn K mg "_joined_ties" s__joined_ties ["ties"]) (z : Z mg) (O_ends : Ok P w K mg base 1 "ends_of" ["place", "other_place"] spEnds) : Ok P w K mg base 2 "_joined_ties" ["ties"] spJoined := D.ok fun f fd F => by
  refine F.ok sc__joined_ties (fun vs H Q E h => ?_) (fun cdv A outer s H vs Q E hr h => ?_)
  · obtain ⟨G, l, a, xs, n, ts, rfl, _⟩ := h
    rfl
  · obtain ⟨G, l, a, xs, n, ts, rfl, S, st, hx, hok, lts, ln, q⟩ := h
    have hu1 : (A.deeper (envOfC "_joined_ties" (defScope s__joined_ties) s.heap.objs.size f cdv)).units + 1 < cLine := by
      have := hr.units
      omega
    refine ⟨_, (pss_cons (ps_set (i := 1) sc__joined_ties.nd rfl (Or.inl rfl) pe_dnewT)
      (pss_cons (ps_for PassesOwn.never rfl (pi_list (pv 0)) (pg_tup rfl (pgs_cons (pg_name (i := 2) sc__joined_ties.nd rfl (Or.inl rfl)) (pgs_cons (pg_name (i := 3) sc__joined_ties.nd rfl (Or.inl rfl)) (pgs_cons (pg_name (i := 4) sc__joined_ties.nd rfl (Or.inl rfl)) pgs_nil))))
        (pss_cons (ps_set (i := 5) sc__joined_ties.nd rfl (Or.inl rfl) (pe_o O_ends hr (pa_cons (pv 2) (pa_cons (pv 3) pa_nil))))
        (pss_one (ps_asg (pe_op op_add (pe_dget2 hu1 (pv 1) (pv 5) pe_int ⟨rfl, rfl, rfl, rfl⟩) (pv 4)) (pg_sub (pv 1) (pv 5) (set_dict hu1))))))
      (pss_one (ps_ret (pe_callTy call_tuple_of (by rfl) z.tuple (by decide +kernel) (pa_cons (pe_callB (cr_sortE (K := K) hr.units) (by rfl) z.sorted (by decide +kernel) (pa_cons (pe_lock (pe_lc (own := [("low", 6), ("high", 7), ("weight", 4)]) (g := gTup K 2 (gCons (gTup K 2 (gCons (gName 6) (gCons (gName 7) gNil))) (gCons (gName 4) gNil))) rfl sc__joined_ties.nd (pi_itemsT (pv 1)) (blkOk_by (N := NJT) (own := [("low", 6), ("high", 7), ("weight", 4)]) (sc := defScope s__joined_ties) (by decide +kernel)) (fun _ _ _ _ _ => pg_tup rfl (pgs_cons (pg_tup rfl (pgs_cons (pg_name (i := 6) sc__joined_ties.nd rfl (Or.inl rfl)) (pgs_cons (pg_name (i := 7) sc__joined_ties.nd rfl (Or.inl rfl)) pgs_nil))) (pgs_cons (pg_name (i := 4) sc__joined_ties.nd rfl (Or.inl rfl)) pgs_nil)))
        (fun _ _ _ _ _ => pts_one (pt_cmpR op_gt (pv 4) pe_int (nomark _))) (fun _ _ _ _ _ => (pe_tup (pa_cons (pv 6) (pa_cons (pv 7) (pa_cons (pv 4) pa_nil))))))) pa_nil)) pa_nil)))))), ?_⟩
    refine fun dd ndd => ?_
    have S1 := S.new (o := .dT []) ndd
    generalize upd H dd (.dT []) = H1 at S1
    refine ⟨_, rfl, a, rfl, ⟨_, Evl.sq_of (st _ S1.tail)⟩, for_list (K := K) (a := a) (xs := xs) (fun i σ H' => ∃ (G' : Hp) (v2 v3 v4 v5 v6 v7 : Option V) (ps : List Arc), σ = [some (.ref a), some (.ref dd), v2, v3, v4, v5, v6, v7] ∧ Ex G G' ∧ Has G' H' ((dd, .dT (ps.map entA)) :: l) ∧ Book n (ts.take i) ps)
      ⟨G, none, none, none, none, none, none, [], rfl, Evl.Ex.refl _, S1, ⟨List.nodup_nil, fun t h => absurd h List.not_mem_nil, fun t h => absurd h List.not_mem_nil, fun t h => absurd h List.not_mem_nil⟩⟩ (fun i σ H' _ p => by
        obtain ⟨G', _, _, _, _, _, _, ps, _, e, S', _⟩ := p
        exact Evl.sq_of (st _ (S'.tail.down e))) ?_ ?_⟩
    · rintro i x σ H2 hi ⟨G2, v2, v3, v4, v5, v6, v7, ps, rfl, e2, S2, B⟩
      obtain ⟨t, ht, ax⟩ := ats_get hx hi
      have hok2 := hok t (List.mem_of_getElem? ht)
      obtain ⟨b, rfl, hb⟩ := (ax.ex (e2.trans S2.ex)).arc
      refine ⟨b, _, rfl, Evl.st_of hb, rfl, _, _, rfl, _, _, rfl, _, _, rfl, rfl, ?_⟩
      refine ⟨_, rfl, _, rfl, t.1, t.2.1, rfl, fun u nu => ?_⟩
      have S3 := S2.new (o := .tup [.int (min t.1 t.2.1 : Nat), .int (max t.1 t.2.1 : Nat)]) nu
      generalize upd H2 u (.tup [.int (min t.1 t.2.1 : Nat), .int (max t.1 t.2.1 : Nat)]) = H3 at S3
      have hu : H3 u = some (.tup ((keyP (endsA t)).map kV)) := S3.get 0 rfl
      have hd : H3 dd = some (.dT (ps.map entA)) := S3.get 1 rfl
      refine ⟨_, rfl, dd, rfl, .inr ⟨_, .inl hd⟩, _, rfl, _, DGet.t hd hu, ?_⟩
      rw [B.get]
      refine ⟨_, rfl, _, _, rfl, rfl, ?_⟩
      have len := B.len
      have nn : n * n ≤ 100 * 100 := Nat.mul_le_mul ln ln
      have ew : (wOf (ts.take i) (endsA t) : Int) + (t.2.2 : Int) = ((wOf (ts.take i ++ [t]) (endsA t) : Nat) : Int) := by
        rw [wOf_snoc, if_pos rfl]
        push_cast
        rfl
      refine ⟨_, rfl, _, rfl, dd, _, rfl, DPut.t hd hu (by rw [List.length_map]; have : sizeLine = 16777216 := sizeLine_eq; omega), ?_⟩
      have S4 : Has _ _ ((dd, .dT ((putA ps (endsA t) (wOf (ts.take i ++ [t]) (endsA t))).map entA)) :: l) := S3.sink.set 0 rfl
      rw [← putK_ents, ← ew] at S4
      refine ⟨_, _, _, _, _, _, _, putA ps (endsA t) (wOf (ts.take i ++ [t]) (endsA t)), rfl, e2.trans S3.exS, ?_, ?_⟩
      · rw [← putK_ents, ← ew]
        exact S4
      · rw [take_snoc ht]
        exact B.put hok2
    · rintro σ H2 ⟨G2, v2, v3, v4, v5, v6, v7, ps, rfl, e2, S2, B⟩
      have lx : xs.length = ts.length := by rw [hx.1, List.length_map]
      rw [lx, List.take_length] at B
      have len := B.len
      have nn : n * n ≤ 100 * 100 := Nat.mul_le_mul ln ln
      refine ⟨dd, .dT (ps.map entA), S2.get 0 rfl, trivial, fun od => ?_⟩
      have S3 : Has G2 _ ((dd, .frz od (.dT (ps.map entA))) :: l) := S2.set 0 rfl
      generalize upd H2 dd (.frz od (.dT (ps.map entA))) = H3 at S3
      refine ⟨_, rfl, dd, od, ps.map entA, rfl, S3.get 0 rfl, fun Dl nDl => ?_⟩
      refine lc_it walk_itemsT (fun i H' => ∃ (G' : Hp) (ys : List V), Ex G2 G' ∧ Has G' H' ((Dl, .lst ys) :: (dd, .frz od (.dT (ps.map entA))) :: l) ∧ Ats G' ys (((ps.take i).filter fun t => decide (0 < t.2.2)).map arcD)) ⟨G2, [], Evl.Ex.refl _, S3.new nDl, .nil⟩ (fun i H' _ p => by
        obtain ⟨G', ys, _, S', _⟩ := p
        exact S'.get 1 rfl) ?_ ?_
      · rintro i x H4 H5 hi ⟨G4, ys, e4, S4, ay⟩ ⟨T, kq, k, v, hk, rfl, nT, hq, rfl⟩
        rw [List.getElem?_map] at hk
        obtain ⟨t, ht, et⟩ := Option.map_eq_some_iff.mp hk
        cases et
        have ltk := (List.getElem?_eq_some_iff.mp ht).1
        have ly : ys.length ≤ ps.length := by
          rw [ay.1, List.length_map]
          exact Nat.le_trans (List.length_filter_le _ _) (List.length_take_le' _ _)
        have S5 := S4.new (o := .tup [.ref kq, .int t.2.2]) nT
        have hq5 : (upd H4 T (.tup [.ref kq, .int t.2.2])) kq = some (.tup ((keyP (t.1, t.2.1)).map kV)) := Evl.Ex.new nT _ _ hq
        generalize upd H4 T (.tup [.ref kq, .int t.2.2]) = H5 at S5 hq5
        refine ⟨T, _, rfl, Evl.st_of (S5.get 0 rfl), rfl, _, _, rfl, kq, _, rfl, Evl.st_of hq5, rfl, _, _, rfl, _, _, rfl, rfl, _, _, rfl, rfl, rfl, ?_⟩
        refine ⟨_, rfl, _, _, rfl, rfl, _, rfl, ?_⟩
        have S6 := S5.tail
        cases hw : decide (0 < t.2.2) with
        | true =>
          have hw0 := of_decide_eq_true hw
          rw [show decide ((t.2.2 : Int) > 0) = true from decide_eq_true (by omega)]
          refine ⟨_, rfl, _, rfl, _, rfl, sz (by show 3 ≤ 100000; decide), fun u nu => ?_⟩
          have S7 := S6.new (o := .tup [.int t.1, .int t.2.1, .int t.2.2]) nu
          have S8 : Has (upd G4 u (.tup [.int t.1, .int t.2.1, .int t.2.2])) (upd (upd H5 u (.tup [.int t.1, .int t.2.1, .int t.2.2])) Dl (.lst (ys ++ [.ref u]))) ((Dl, .lst (ys ++ [.ref u])) :: (dd, .frz od (.dT (ps.map entA))) :: l) := S7.sink.set 0 rfl
          refine ⟨ys, S7.get 1 rfl, by have : sizeLine = 16777216 := sizeLine_eq; omega, (upd G4 u (.tup [.int t.1, .int t.2.1, .int t.2.2])), (ys ++ [V.ref u]), e4.trans S7.exS, S8, ?_⟩
          rw [filt_yes (f := fun t : Arc => decide (0 < t.2.2)) ht hw, List.map_append]
          exact (ay.ex S7.exS).snoc (at_arc upd_same)
        | false =>
          have hw0 := of_decide_eq_false hw
          rw [show decide ((t.2.2 : Int) > 0) = false from decide_eq_false (by omega)]
          refine ⟨G4, ys, e4, S6, ?_⟩
          rw [filt_no (f := fun t : Arc => decide (0 < t.2.2)) ht hw]
          exact ay
      · rintro H4 ⟨G4, ys, e4, S4, ay⟩
        rw [List.length_map, List.take_length] at ay
        have S5 : Has G4 _ ((Dl, .lst ys) :: (dd, .dT (ps.map entA)) :: l) := S4.set 1 rfl
        refine ⟨S4.get 1 rfl, ?_⟩
        generalize upd H4 dd (.dT (ps.map entA)) = H5 at S5
        obtain ⟨z1, z2, z3⟩ := ats_zip ay
        have memz : ∀ c ∈ ys.zip ((ps.filter fun t => decide (0 < t.2.2)).map arcD), ∃ l, c.2 = tupD l := fun c hc => by
          have : c.2 ∈ (ps.filter fun t => decide (0 < t.2.2)).map arcD := by
            rw [← z2]
            exact List.mem_map_of_mem hc
          obtain ⟨m, _, ec⟩ := List.mem_map.mp this
          exact ⟨_, ec.symm⟩
        refine ⟨Dl, _, rfl, by rw [z1]; exact Evl.sq_of (S5.get 0 rfl), fun c hc => ((z3 c hc).ex S5.ex).dp, .inr memz, fun c hc => ?_, fun p np => ?_⟩
        · obtain ⟨l, el⟩ := memz c hc
          rw [el]
          exact Nat.le_trans (depth_tupD _) (by decide)
        have fin := ats_sort z3
        rw [z2, sort_arcs B.nodup B.mem] at fin
        generalize hZ : ((ys.zip ((ps.filter fun t => decide (0 < t.2.2)).map arcD)).mergeSort (PySem.W.dataLe false (·.2))).map (·.1) = Zs at fin
        have S6 := (S5.new (o := .lst Zs) np).drop2.drop2
        generalize upd H5 p (.lst Zs) = H6 at S6
        refine ⟨p, _, rfl, .inl ⟨Evl.sq_of (S6.get 0 rfl), fun t nt => ?_⟩⟩
        have S7 := (S6.new (o := .tup Zs) nt).drop2
        exact q G4 _ t Zs (e2.trans e4) S7 fin
end
end TW
set_option Elab.async false
set_option linter.all false
set_option maxRecDepth 100000
set_option maxHeartbeats 1000000
namespace TW
open PySem PySem.Spec PyProof.Rows L2
/-! webs -/
theorem wt_ne : ¬ (("_ties" : Str) = "_places") := by decide +kernel
def wf (n : Nat) (l : Addr) : List (Str × V) := putF "_ties" (.ref l) (putF "_places" (.int n) [])
theorem wf_places (n : Nat) (l : Addr) : (wf n l).lookup ("_places" : Str) = some (.int n) := by
  unfold wf
  rw [lookup_putF, if_neg (fun h => wt_ne h.symm), lookup_putF, if_pos rfl]
theorem wf_ties (n : Nat) (l : Addr) : (wf n l).lookup ("_ties" : Str) = some (.ref l) := by
  unfold wf
  rw [lookup_putF, if_pos rfl]
def WebAt (C : Addr) (H : Hp) (a : Addr) (n : Nat) (ts : List Arc) : Prop := ∃ dx l xs, H a = some (.ins C dx (wf n l)) ∧ H l = some (.tup xs) ∧ Ats H xs (ts.map arcD)
theorem WebAt.ex {C : Addr} {H H' : Hp} {a : Addr} {n : Nat} {ts : List Arc} (e : Ex H H') (h : WebAt C H a n ts) : WebAt C H' a n ts := by
  obtain ⟨dx, l, xs, h1, h2, h3⟩ := h
  exact ⟨dx, l, xs, e _ _ h1, e _ _ h2, h3.ex e⟩
/-- a web of n places with these sums -/
structure Net (n : Nat) (ts : List Arc) : Prop where
  pos : 0 < n
  few : n ≤ 100
  sum : sumA n ts = ts
theorem Net.ok {n : Nat} {ts : List Arc} (h : Net n ts) : ∀ t ∈ ts, t.1 < t.2.1 ∧ t.2.1 < n ∧ 0 < t.2.2 := fun t ht => by
  rw [← h.sum] at ht
  obtain ⟨h1, h2, _, h4⟩ := mem_sumA.mp ht
  exact ⟨h1, h2, h4⟩
theorem sumA_len (n : Nat) (ts : List Arc) : (sumA n ts).length ≤ n * n := by
  have B : Book n (sumA n ts) (sumA n ts) := ⟨by
    unfold List.Nodup
    rw [List.pairwise_map]
    exact (sumA_pw n ts).imp fun {a b} h e => by
      injection e with e1 e2
      omega, fun t ht => ⟨(mem_sumA.mp ht).1, (mem_sumA.mp ht).2.1⟩, fun t ht => by
      obtain ⟨h1, h2, h3, _⟩ := mem_sumA.mp ht
      rw [wOf_sumA h1 h2]
      exact h3, fun t ht => by
      obtain ⟨h1, _⟩ := mem_sumA.mp ht
      refine List.mem_map.mpr ⟨t, ht, ?_⟩
      unfold endsA
      rw [Nat.min_eq_left (by omega), Nat.max_eq_right (by omega)]⟩
  exact B.len
theorem Net.len {n : Nat} {ts : List Arc} (h : Net n ts) : ts.length ≤ 10000 := by
  have h1 := sumA_len n ts
  rw [h.sum] at h1
  have h2 : n * n ≤ 100 * 100 := Nat.mul_le_mul h.few h.few
  omega
theorem net_sum {n : Nat} (ts : List Arc) (h : 0 < n) (h' : n ≤ 100) : Net n (sumA n ts) := ⟨h, h', sumA_idem ts⟩
structure WC (K : PySem.W.Frag) (mg : Str → Option Value) (C : Addr) : Prop where
  cl : Cls K C
  ins : C8.InsC K C
  nP : NoAttr K C "_places"
  nT : NoAttr K C "_ties"
  mg : mg "Web" = some (.ref C)
def cutA (ts : List Arc) (f : Nat → Bool) : Nat := ((ts.filter fun t => f t.1 != f t.2.1).map fun t => t.2.2).sum
theorem eqvW_ints : ∀ xs ys : List Int, PyData.eqvAll (xs.map .int) (ys.map .int) = decide (xs = ys)
  | [], [] => rfl
  | [], _ :: _ => rfl
  | _ :: _, [] => rfl
  | x :: xs, y :: ys => by
    have e : PyData.eqvAll ((x :: xs).map .int) ((y :: ys).map .int) = (x == y && PyData.eqvAll (xs.map .int) (ys.map .int)) := rfl
    rw [e, eqvW_ints xs ys, Bool.eq_iff_iff, Bool.and_eq_true, beq_iff_eq, decide_eq_true_eq, decide_eq_true_eq, List.cons.injEq]
theorem eqvW_tupD (xs ys : List Int) : PyData.eqv (tupD xs) (tupD ys) = decide (xs = ys) := eqvW_ints xs ys
theorem layW_lots : ∀ {ds : List PyData}, (∀ d ∈ ds, ∃ l, d = tupD l) → PyData.canLayAll0 ds = true
  | [], _ => rfl
  | d :: ds, h => by
    obtain ⟨l, rfl⟩ := h d List.mem_cons_self
    show (PyData.canLay0 (tupD l) && PyData.canLayAll0 ds) = true
    rw [layW_lots fun e he => h e (List.mem_cons_of_mem _ he), Bool.and_true]
    exact lay_ints l
theorem decI (a b : Nat) : decide (V.int (a : Int) = V.int (b : Int)) = decide (a = b) := by
  rw [Bool.eq_iff_iff, decide_eq_true_eq, decide_eq_true_eq]
  constructor
  · intro h
    have := V.int.inj h
    omega
  · rintro rfl
    rfl
theorem sum_cast : ∀ l : List Nat, ((l.map fun k : Nat => (k : Int)).sum) = ((l.sum : Nat) : Int)
  | [] => rfl
  | x :: l => by
    rw [List.map_cons, List.sum_cons, List.sum_cons, sum_cast l]
    push_cast
    rfl
section
variable {P : Program} {w : World} {K : PySem.W.Frag} {mg : Str → Option Value} {base : Heap} {C N : Addr}
/-! Web.__init__ -/
abbrev NWI : List Str := ["self", "places", "ties", "tie"]
theorem sc_Web_init : FnScope NWI ["self", "places", "ties"] (defScope s_Web_init) := ⟨rfl, rfl, rfl, by decide +kernel, rfl, by decide +kernel, by decide +kernel⟩
def spWInit (C : Addr) : Sp := fun vs H Q _ => ∃ (G : Hp) (l : List (Addr × HO)) (a dx ll : Addr) (n : Nat) (xs : List V) (ts : List Arc), vs = [.ref a, .int n, .ref ll] ∧ Has G H ((a, .ins C dx []) :: l) ∧ Stays G l ll (.lst xs) ∧ Ats G xs (ts.map arcD) ∧ (∀ t ∈ ts, arcOk n t) ∧ ts.length ≤ 1000 ∧ 0 < n ∧ n ≤ 100 ∧
  ∀ (G' H' : Hp) (dl : Addr) (ys : List V), Ex G G' → Has G' H' ((a, .ins C dx (wf n dl)) :: l) → G' dl = some (.tup ys) → Ats G' ys ((sumA n ts).map arcD) → Q .non H'
theorem ok_winit {f : Addr} {fd : FuncData} (F : Fun K "__init__" "Web.__init__" s_Web_init f fd) (z : Z mg) (T : WC K mg C) (O_check_places : Ok P w K mg base 2 "check_places" ["places"] spCheckThings) (O_told : Ok P w K mg base 3 "is_told_tie" ["value", "places"] spToldTie) (O_joined : Ok P w K mg base 2 "_joined_ties" ["ties"] spJoined) :
    FnOk P w K mg base CX0 4 f fd ["self", "places", "ties"] (spWInit C) := by
  refine F.ok sc_Web_init (fun vs H Q E h => ?_) (fun cdv A outer s H vs Q E hr h => ?_)
  · obtain ⟨G, l, a, dx, ll, n, xs, ts, rfl, _⟩ := h
    rfl
  · obtain ⟨G, l, a, dx, ll, n, xs, ts, rfl, S, st, hx, hok, lts, hn, hn100, q⟩ := h
    refine ⟨_, (pss_cons (ps_expr (pe_o O_check_places (hr.mono (by decide)) (pa_cons (pv 1) pa_nil)))
      (pss_cons (ps_if (PW.pt (pw_or (pt_cmpR op_isNotTy (pe_callTy call_type1 (by rfl) z.type (by decide +kernel) (pa_cons (pv 2) pa_nil)) (pe_tyn (n := "list") (by rfl) z.list (by decide +kernel)) (nomark _)) (pw_or1 (pt_not (pt_val (pe_callB (cr_all rfl) (by rfl) z.all (by decide +kernel) (pa_cons (pe_lc (own := [("tie", 3)]) (g := gName 3) rfl sc_Web_init.nd (pi_list (pv 2)) (blkOk_by (N := NWI) (own := [("tie", 3)]) (sc := defScope s_Web_init) (by decide +kernel)) (fun _ _ _ _ _ => pg_name (i := 3) sc_Web_init.nd rfl (Or.inl rfl)) (fun _ _ _ _ _ => pts_nil) (fun _ _ _ _ _ => (pe_o O_told hr (pa_cons (pv 3) (pa_cons (pv 1) pa_nil))))) pa_nil))))))) (pss_one ps_never) pss_nil)
      (pss_cons (ps_fld (pv 0) (pv 1) rfl)
      (pss_one (ps_fld (pv 0) (pe_o O_joined (hr.mono (by decide)) (pa_cons (pv 2) pa_nil)) rfl))))), ?_⟩
    have hll : ∀ {H' : Hp} {l' : List (Addr × HO)}, Has G H' (l' ++ l) → H' ll = some (.lst xs) := fun {H' l'} S' => st _ (S'.sub (List.sublist_append_right _ _))
    have hl0 : H ll = some (.lst xs) := hll (l' := [_]) S
    refine ⟨_, rfl, n, rfl, hn, ?_⟩
    refine ⟨_, rfl, _, _, rfl, .lst (Evl.sq_of hl0), _, _, rfl, rfl, _, rfl, ?_⟩
    refine ⟨_, rfl, ll, rfl, ⟨_, Evl.sq_of hl0⟩, fun Dl hD => ?_⟩
    have lx : xs.length = ts.length := by rw [hx.1, List.length_map]
    refine lc_list (K := K) (a := ll) (xs := xs) (fun i H' => Has G H' ((Dl, .lst ((List.replicate i true).map V.bl)) :: (a, .ins C dx []) :: l)) (S.new hD) (fun i H' _ S' => Evl.sq_of (hll (l' := [_, _]) S')) ?_ ?_
    · rintro i x H1 hi S1
      obtain ⟨t, ht, ax⟩ := ats_get hx hi
      have hi2 := (List.getElem?_eq_some_iff.mp ht).1
      refine ⟨rfl, _, rfl, _, rfl, x, n, t, rfl, ax.ex S1.ex, hok t (List.mem_of_getElem? ht), ?_⟩
      refine ⟨_, S1.get 0 rfl, szl (by rw [List.length_map, List.length_replicate]; omega), ?_⟩
      rw [List.replicate_succ', List.map_append]
      exact S1.set 0 rfl
    · rintro H1 S1
      refine ⟨Dl, _, rfl, Evl.sq_of (S1.get 0 rfl), _, rfl, ?_⟩
      rw [show (List.replicate xs.length true).all id = true by simp]
      have S2 := S1.tail
      refine ⟨_, rfl, _, rfl, a, C, dx, [], rfl, S2.get 0 rfl, T.cl, T.nP, (by show 0 < 1000; decide), ?_⟩
      have S3 : Has G _ ((a, .ins C dx (putF "_places" (.int n) [])) :: l) := S2.set 0 rfl
      generalize upd H1 a (.ins C dx (putF "_places" (.int n) [])) = H3 at S3
      refine ⟨_, rfl, G, (a, .ins C dx (putF "_places" (.int n) [])) :: l, ll, xs, n, ts, rfl, S3, st.down (Evl.Ex.refl _) (List.sublist_cons_self _ _), hx, hok, lts, hn100, fun G' H' u ys e' S' hy => ?_⟩
      refine ⟨_, rfl, a, C, dx, _, rfl, S'.get 1 rfl, T.cl, T.nT, (by show 1 < 1000; decide), ?_⟩
      have S4 : Has G' _ ((u, .tup ys) :: (a, .ins C dx (wf n u)) :: l) := S'.set 1 rfl
      exact q _ _ u ys (e'.trans S4.exS) S4.sink upd_same (hy.ex S4.exS)
/-! Web.places, Web.ties, Web.__len__, Web.__iter__, Web.__eq__ -/
theorem sc_Web_places : FnScope ["self"] ["self"] (defScope s_Web_places) := ⟨rfl, rfl, rfl, by decide +kernel, rfl, by decide +kernel, by decide +kernel⟩
def spWPlaces (C : Addr) : Sp := fun vs H Q _ => ∃ (a : Addr) (n : Nat) (ts : List Arc), vs = [.ref a] ∧ WebAt C H a n ts ∧ Q (.int n) H
theorem ok_wplaces {f : Addr} {fd : FuncData} (F : Fun K "places" "Web.places" s_Web_places f fd) (T : WC K mg C) : FnOk P w K mg base CX0 1 f fd ["self"] (spWPlaces C) := by
  refine F.ok sc_Web_places (fun vs H Q E h => ?_) (fun cdv A outer s H vs Q E hr h => ?_)
  · obtain ⟨a, n, ts, rfl, _⟩ := h
    rfl
  · obtain ⟨a, n, ts, rfl, ⟨dx, l, xs, h1, h2, h3⟩, q⟩ := h
    exact ⟨_, pss_one (ps_ret (pe_fld (pv 0) rfl)), _, rfl, a, C, dx, _, _, rfl, h1, T.cl, T.nP, wf_places n l, q⟩
theorem sc_Web_ties : FnScope ["self"] ["self"] (defScope s_Web_ties) := ⟨rfl, rfl, rfl, by decide +kernel, rfl, by decide +kernel, by decide +kernel⟩
def spWTies (C : Addr) : Sp := fun vs H Q _ => ∃ (a : Addr) (n : Nat) (ts : List Arc), vs = [.ref a] ∧ WebAt C H a n ts ∧ ∀ (t : Addr) (H' : Hp) (xs : List V), H t = none → Ex H H' → H' t = some (.lst xs) → Ats H' xs (ts.map arcD) → Q (.ref t) H'
theorem ok_wties {f : Addr} {fd : FuncData} (F : Fun K "ties" "Web.ties" s_Web_ties f fd) (z : Z mg) (T : WC K mg C) : FnOk P w K mg base CX0 1 f fd ["self"] (spWTies C) := by
  refine F.ok sc_Web_ties (fun vs H Q E h => ?_) (fun cdv A outer s H vs Q E hr h => ?_)
  · obtain ⟨a, n, ts, rfl, _⟩ := h
    rfl
  · obtain ⟨a, n, ts, rfl, ⟨dx, l, xs, h1, h2, h3⟩, q⟩ := h
    exact ⟨_, pss_one (ps_ret (pe_callTy call_list_of (by rfl) z.list (by decide +kernel) (pa_cons (pe_fld (pv 0) rfl) pa_nil))), _, rfl, a, C, dx, _, _, rfl, h1, T.cl, T.nT, wf_ties n l, l, xs, rfl, .inr (Evl.st_of h2), fun t nt => q t _ xs nt (Evl.Ex.new nt) upd_same (h3.ex (Evl.Ex.new nt))⟩
theorem sc_Web_len : FnScope ["self"] ["self"] (defScope s_Web_len) := ⟨rfl, rfl, rfl, by decide +kernel, rfl, by decide +kernel, by decide +kernel⟩
def spWLen (C : Addr) : Sp := fun vs H Q _ => ∃ (a : Addr) (n : Nat) (ts : List Arc), vs = [.ref a] ∧ WebAt C H a n ts ∧ Q (.int ts.length) H
theorem ok_wlen {f : Addr} {fd : FuncData} (F : Fun K "__len__" "Web.__len__" s_Web_len f fd) (z : Z mg) (T : WC K mg C) : FnOk P w K mg base CX0 1 f fd ["self"] (spWLen C) := by
  refine F.ok sc_Web_len (fun vs H Q E h => ?_) (fun cdv A outer s H vs Q E hr h => ?_)
  · obtain ⟨a, n, ts, rfl, _⟩ := h
    rfl
  · obtain ⟨a, n, ts, rfl, ⟨dx, l, xs, h1, h2, h3⟩, q⟩ := h
    have e : xs.length = ts.length := by rw [h3.1, List.length_map]
    rw [← e] at q
    exact ⟨_, pss_one (ps_ret (pe_callB call_len_seq (by rfl) z.len PySem.boot_len (pa_cons (pe_fld (pv 0) rfl) pa_nil))), _, rfl, a, C, dx, _, _, rfl, h1, T.cl, T.nT, wf_ties n l, l, _, rfl, .inr (Evl.st_of h2), q⟩
theorem sc_Web_iter : FnScope ["self"] ["self"] (defScope s_Web_iter) := ⟨rfl, rfl, rfl, by decide +kernel, rfl, by decide +kernel, by decide +kernel⟩
theorem ok_witer {f : Addr} {fd : FuncData} (F : Fun K "__iter__" "Web.__iter__" s_Web_iter f fd) (z : Z mg) (T : WC K mg C) : FnY P w K mg base 1 f fd ["self"] (spIt K C "_ties") :=
  Fun.okY F sc_Web_iter fun cdv A outer s H vs Q hr h => by
    obtain ⟨a, dx, fs, l, zs, rfl, ha, hf, hz, q⟩ := h
    exact ⟨_, pss_one (ps_ret (pe_callB (call_iterT (K := K) (n := s.heap.objs.size)) (by rfl) z.iter (by decide +kernel) (pa_cons (pe_fld (pv 0) rfl) pa_nil))), _, rfl, a, C, dx, _, _, rfl, ha, T.cl, T.nT, hf, l, zs, rfl, hz, q⟩
structure WI (P : Program) (w : World) (K : PySem.W.Frag) (mg : Str → Option Value) (base : Heap) (C f : Addr) (fd : FuncData) : Prop where
  at_ : PySem.W.findIn K (.ref C) "__iter__" = some (some (.ref f))
  fn : PySem.W.isFn K (.ref f) = true
  ok : FnY P w K mg base 1 f fd ["self"] (spIt K C "_ties")
  b : Binds K fd ["self"] []
structure WLn (P : Program) (w : World) (K : PySem.W.Frag) (mg : Str → Option Value) (base : Heap) (C f : Addr) (fd : FuncData) : Prop where
  at_ : PySem.W.findIn K (.ref C) "__len__" = some (some (.ref f))
  fn : PySem.W.isFn K (.ref f) = true
  ok : FnOk P w K mg base CX0 1 f fd ["self"] (spWLen C)
  b : Binds K fd ["self"] []
structure WM (P : Program) (w : World) (K : PySem.W.Frag) (mg : Str → Option Value) (base : Heap) (C f : Addr) (fd : FuncData) : Prop where
  make : Mk K C f
  ok : FnOk P w K mg base CX0 4 f fd ["self", "places", "ties"] (spWInit C)
  b : Binds K fd ["self", "places", "ties"] []
theorem sc_Web_eq : FnScope ["self", "other"] ["self", "other"] (defScope s_Web_eq) := ⟨rfl, rfl, rfl, by decide +kernel, rfl, by decide +kernel, by decide +kernel⟩
def spWEq (C : Addr) : Sp := fun vs H Q _ => ∃ (a b : Addr) (n m : Nat) (ts us : List Arc), vs = [.ref a, .ref b] ∧ WebAt C H a n ts ∧ WebAt C H b m us ∧ Q (.bl (decide (n = m) && decide (ts = us))) H
theorem eqvAll_arcs : ∀ ts us : List Arc, PyData.eqvAll (ts.map arcD) (us.map arcD) = decide (ts = us)
  | [], [] => rfl
  | [], _ :: _ => rfl
  | _ :: _, [] => rfl
  | t :: ts, u :: us => by
    have e : PyData.eqvAll ((t :: ts).map arcD) ((u :: us).map arcD) = (PyData.eqv (arcD t) (arcD u) && PyData.eqvAll (ts.map arcD) (us.map arcD)) := rfl
    have e2 : PyData.eqv (arcD t) (arcD u) = decide (t = u) := by
      unfold arcD
      rw [eqvW_tupD, Bool.eq_iff_iff, decide_eq_true_eq, decide_eq_true_eq]
      exact ⟨arcL_inj, fun h => by rw [h]⟩
    rw [e, eqvAll_arcs ts us, e2, Bool.eq_iff_iff, Bool.and_eq_true, decide_eq_true_eq, decide_eq_true_eq, decide_eq_true_eq, List.cons.injEq]
theorem shaped_arcs (ts : List Arc) : SeqAt.shaped (.tuple (ts.map arcD)) = true := by
  unfold SeqAt.shaped
  rw [Bool.and_eq_true, decide_eq_true_eq]
  refine ⟨layW_lots fun d hd => ?_, ?_⟩
  · obtain ⟨m, _, rfl⟩ := List.mem_map.mp hd
    exact ⟨_, rfl⟩
  · have := depth_all (n := 1) (ds := ts.map arcD) fun d hd => by
      obtain ⟨m, _, rfl⟩ := List.mem_map.mp hd
      exact depth_tupD _
    simp only [PyData.depth]
    omega
theorem ok_weq {f : Addr} {fd : FuncData} (F : Fun K "__eq__" "Web.__eq__" s_Web_eq f fd) (z : Z mg) (T : WC K mg C) : FnOk P w K mg base CX0 1 f fd ["self", "other"] (spWEq C) := by
  refine F.ok sc_Web_eq (fun vs H Q E h => ?_) (fun cdv A outer sh H vs Q E hr h => ?_)
  · obtain ⟨a, b, n, m, ts, us, rfl, _⟩ := h
    rfl
  · obtain ⟨a, b, n, m, ts, us, rfl, ⟨dx, l, xs, h1, h2, h3⟩, ⟨dx', l', xs', h1', h2', h3'⟩, q⟩ := h
    refine ⟨_, (pss_one (ps_ret (pe_and (pe_callB (C8.call_isC T.ins) (by rfl) z.isinstance (by decide +kernel) (pa_cons (pv 1) (pa_cons (pe_glob (by rfl) T.mg (show RelV (.ref C) (.ref C) from rfl)) pa_nil))) (pe_and (pe_cmpR op_eq (pe_fld (pv 0) rfl) (pe_fld (pv 1) rfl) (nomark _)) (pe_one (pe_cmpR (op_eqD hr.units) (pe_fld (pv 0) rfl) (pe_fld (pv 1) rfl) (nomark _))))))), ?_⟩
    refine ⟨_, rfl, b, dx', _, rfl, h1', _, rfl, ?_⟩
    refine ⟨_, rfl, a, C, dx, _, _, rfl, h1, T.cl, T.nP, wf_places n l, _, rfl, b, C, dx', _, _, rfl, h1', T.cl, T.nP, wf_places m l', rfl, ?_⟩
    rw [decI]
    cases hc : decide (n = m) with
    | false =>
      rw [hc] at q
      exact ⟨_, rfl, q⟩
    | true =>
      rw [hc] at q
      refine ⟨_, rfl, _, rfl, a, C, dx, _, _, rfl, h1, T.cl, T.nT, wf_ties n l, _, rfl, b, C, dx', _, _, rfl, h1', T.cl, T.nT, wf_ties m l', .tuple (ts.map arcD), .tuple (us.map arcD), (At.mkT h2 h3).dp, (At.mkT h2' h3').dp, shaped_arcs _, shaped_arcs _, ?_⟩
      rw [show PyData.eqv (.tuple (ts.map arcD)) (.tuple (us.map arcD)) = decide (ts = us) from eqvAll_arcs _ _]
      exact q
structure WEq (P : Program) (w : World) (K : PySem.W.Frag) (mg : Str → Option Value) (base : Heap) (C f : Addr) (fd : FuncData) : Prop where
  at_ : PySem.W.findIn K (.ref C) "__eq__" = some (some (.ref f))
  fn : PySem.W.isFn K (.ref f) = true
  ok : FnOk P w K mg base CX0 1 f fd ["self", "other"] (spWEq C)
  b : Binds K fd ["self", "other"] []
end
end TW
set_option Elab.async false
set_option linter.all false
set_option maxRecDepth 100000
set_option maxHeartbeats 1000000
namespace TW
open PySem PySem.Spec PyProof.Rows L2
theorem ats_permW {α : Type} {f : α → PyData} {H : Hp} {xs ys : List V} {l : List α} (p : ys.Perm xs) (h : Ats H xs (l.map f)) : ∃ l' : List α, l'.Perm l ∧ Ats H ys (l'.map f) := by
  have hl : xs.length = l.length := by rw [h.1, List.length_map]
  have e1 : (xs.zip l).map (·.1) = xs := List.map_fst_zip (by omega)
  have e2 : (xs.zip l).map (·.2) = l := List.map_snd_zip (by omega)
  rw [← e1] at p
  obtain ⟨m, pm, rfl⟩ := perm_back (f := fun q : V × α => q.1) p
  refine ⟨m.map (·.2), by have := pm.map (·.2); rw [e2] at this; exact this, ?_⟩
  rw [List.map_map]
  refine Ats.map_ fun q hq => ?_
  obtain ⟨i, hi⟩ := List.mem_iff_getElem?.mp (pm.mem_iff.mp hq)
  rw [List.getElem?_zip_eq_some] at hi
  obtain ⟨y, hy, ay⟩ := ats_get h hi.1
  rw [hi.2] at hy
  cases hy
  exact ay
theorem bl_ne (a b : Bool) : (!decide (V.bl a = V.bl b)) = (a != b) := by
  cases a <;> cases b <;> decide
theorem cutA_take (ts : List Arc) (f : Nat → Bool) (i : Nat) : (((ts.take i).filter fun t => f t.1 != f t.2.1)).length ≤ ts.length := Nat.le_trans (List.length_filter_le _ _) (List.length_take_le' _ _)
theorem intW (l : List Arc) : (l.map fun t => V.int (t.2.2 : Int)) = ((l.map fun t => t.2.2).map fun k : Nat => (k : Int)).map V.int := by
  rw [List.map_map, List.map_map]
  rfl
section
variable {P : Program} {w : World} {K : PySem.W.Frag} {mg : Str → Option Value} {base : Heap} {C N : Addr}
/-! check_web, check_side -/
theorem sc_check_web : FnScope ["web"] ["web"] (defScope s_check_web) := ⟨rfl, rfl, rfl, by decide +kernel, rfl, by decide +kernel, by decide +kernel⟩
def spCheckWeb (C : Addr) : Sp := fun vs H Q _ => ∃ (a : Addr) (n : Nat) (ts : List Arc), vs = [.ref a] ∧ WebAt C H a n ts ∧ Q .non H
theorem ok_check_web (D : Dfn K mg "check_web" s_check_web ["web"]) (z : Z mg) (T : WC K mg C) : Ok P w K mg base 1 "check_web" ["web"] (spCheckWeb C) := D.ok fun f fd F => by
  refine F.ok sc_check_web (fun vs H Q E h => ?_) (fun cdv A outer s H vs Q E hr h => ?_)
  · obtain ⟨a, n, ts, rfl, _⟩ := h
    rfl
  · obtain ⟨a, n, ts, rfl, ⟨dx, l, xs, h1, h2, h3⟩, q⟩ := h
    refine ⟨_, (pss_one (ps_if (pt_not (pt_val (pe_callB (C8.call_isC T.ins) (by rfl) z.isinstance (by decide +kernel) (pa_cons (pv 0) (pa_cons (pe_glob (by rfl) T.mg (show RelV (.ref C) (.ref C) from rfl)) pa_nil))))) (pss_one ps_never) pss_nil)), ?_⟩
    exact ⟨_, rfl, a, dx, _, rfl, h1, _, rfl, q⟩
/-! _cut, cut_of -/
abbrev NCU : List Str := ["web", "places", "low", "high", "weight"]
def spCut (K : PySem.W.Frag) (C : Addr) : Sp := fun vs H Q _ => ∃ (a pa : Addr) (n : Nat) (ts : List Arc) (ns : List Int), vs = [.ref a, .ref pa] ∧ WebAt C H a n ts ∧ (SqL K H pa (ns.map V.int) ∨ SqT K H pa (ns.map V.int)) ∧ ts.length ≤ 10000 ∧ ∀ H', Ex H H' → Q (.int (cutA ts fun k => decide ((k : Int) ∈ ns))) H'
def spCutOf (K : PySem.W.Frag) (C : Addr) : Sp := fun vs H Q _ => ∃ (a pa : Addr) (n : Nat) (ts : List Arc) (ns : List Int), vs = [.ref a, .ref pa] ∧ WebAt C H a n ts ∧ SqT K H pa (ns.map V.int) ∧ ns.length ≤ 1000 ∧ isLot ns (some (n : Int)) = true ∧ ts.length ≤ 10000 ∧ ∀ H', Ex H H' → Q (.int (cutA ts fun k => decide ((k : Int) ∈ ns))) H'
/-! _law_places_drawn, _law_side_of -/
theorem sc_law_places_drawn : FnScope ["well"] ["well"] (defScope s__law_places_drawn) := ⟨rfl, rfl, rfl, by decide +kernel, rfl, by decide +kernel, by decide +kernel⟩
def spPlacesDrawn : Sp := fun vs H Q _ => ∃ (G : Hp) (l : List (Addr × HO)) (p : Addr) (o : HO) (k : Nat), vs = [.ref p] ∧ Has G H ((p, o) :: l) ∧ WellO k o ∧ k < 10 ^ 8 ∧
  ∀ (H' : Hp) (o' : HO) (n : Nat), Has G H' ((p, o') :: l) → WellO (k + 1) o' → 0 < n → n ≤ 7 → Q (.int n) H'
theorem ok_places_drawn (D : Dfn K mg "_law_places_drawn" s__law_places_drawn ["well"]) (O_dip : Ok P w K mg base 1 "_law_dip" ["well", "upto"] spDipW) : Ok P w K mg base 2 "_law_places_drawn" ["well"] spPlacesDrawn := D.ok fun f fd F => by
  refine F.ok sc_law_places_drawn (fun vs H Q E h => ?_) (fun cdv A outer s H vs Q E hr h => ?_)
  · obtain ⟨G, l, p, o, k, rfl, _⟩ := h
    rfl
  · obtain ⟨G, l, p, o, k, rfl, S, wo, hk, q⟩ := h
    refine ⟨_, (pss_one (ps_ret (pe_ix ix_list (pe_lst (pa_cons pe_int (pa_cons pe_int (pa_cons pe_int (pa_cons pe_int (pa_cons pe_int (pa_cons pe_int (pa_cons pe_int (pa_cons pe_int (pa_cons pe_int (pa_cons pe_int (pa_cons pe_int (pa_cons pe_int pa_nil))))))))))))) (pe_o O_dip hr (pa_cons (pv 0) (pa_cons pe_int pa_nil))) (fun _ _ => rfl)))), ?_⟩
    refine ⟨sz (by show 12 ≤ 100000; decide), fun t nt => ?_⟩
    generalize hL : ([V.int 1, V.int 2, V.int 3, V.int 3, V.int 4, V.int 4, V.int 5, V.int 5, V.int 5, V.int 6, V.int 6, V.int 7] : List V) = L
    have S1 := S.new (o := .lst L) nt
    generalize upd H t (.lst L) = H1 at S1
    refine ⟨_, rfl, p, 12, o, k, rfl, S1.get 1 rfl, wo, by omega, by decide, by decide, fun r o1 hr1 wo1 => ?_⟩
    have S2 : Has G _ ((t, .lst L) :: (p, o1) :: l) := S1.set 1 rfl
    obtain ⟨n, hat, h1, h2⟩ : ∃ n : Nat, atI L (r : Int) = some (.int n) ∧ 0 < n ∧ n ≤ 7 := by
      rw [← hL]
      have : r = 0 ∨ r = 1 ∨ r = 2 ∨ r = 3 ∨ r = 4 ∨ r = 5 ∨ r = 6 ∨ r = 7 ∨ r = 8 ∨ r = 9 ∨ r = 10 ∨ r = 11 := by omega
      rcases this with rfl | rfl | rfl | rfl | rfl | rfl | rfl | rfl | rfl | rfl | rfl | rfl
      · exact ⟨1, rfl, by decide, by decide⟩
      · exact ⟨2, rfl, by decide, by decide⟩
      · exact ⟨3, rfl, by decide, by decide⟩
      · exact ⟨3, rfl, by decide, by decide⟩
      · exact ⟨4, rfl, by decide, by decide⟩
      · exact ⟨4, rfl, by decide, by decide⟩
      · exact ⟨5, rfl, by decide, by decide⟩
      · exact ⟨5, rfl, by decide, by decide⟩
      · exact ⟨5, rfl, by decide, by decide⟩
      · exact ⟨6, rfl, by decide, by decide⟩
      · exact ⟨6, rfl, by decide, by decide⟩
      · exact ⟨7, rfl, by decide, by decide⟩
    exact ⟨t, _, r, _, rfl, rfl, Evl.sq_of (S2.get 0 rfl), hat, q _ o1 n S2.tail wo1 h1 h2⟩
/-! _law_cut_due -/
theorem sc_law_cut_due : FnScope ["arcs", "mask", "arc"] ["arcs", "mask"] (defScope s__law_cut_due) := ⟨rfl, rfl, rfl, by decide +kernel, rfl, by decide +kernel, by decide +kernel⟩
def spCutDue (K : PySem.W.Frag) : Sp := fun vs H Q _ => ∃ (a : Addr) (m : Int) (xs : List V) (ts : List Arc), vs = [.ref a, .int m] ∧ SqL K H a xs ∧ Ats H xs (ts.map arcD) ∧ ts.length ≤ 10000 ∧ ∀ H', Ex H H' → Q (.int (cutA ts (bitB m))) H'
theorem bit_ne (m : Int) (a b : Nat) : (!decide (V.int (m / 2 ^ a % 2 ^ 1) = V.int (m / 2 ^ b % 2 ^ 1))) = (bitB m a != bitB m b) := by
  rw [Int.pow_one]
  unfold bitB
  have h1 := Int.emod_two_eq (m / 2 ^ a)
  have h2 := Int.emod_two_eq (m / 2 ^ b)
  rcases h1 with h1 | h1 <;> rcases h2 with h2 | h2 <;> rw [h1, h2] <;> decide
theorem ok_cut_due (D : Dfn K mg "_law_cut_due" s__law_cut_due ["arcs", "mask"]) (zs : mg "sum" = none) : Ok P w K mg base 1 "_law_cut_due" ["arcs", "mask"] (spCutDue K) := D.ok fun f fd F => by
  refine F.ok sc_law_cut_due (fun vs H Q E h => ?_) (fun cdv A outer s H vs Q E hr h => ?_)
  · obtain ⟨a, m, xs, ts, rfl, _⟩ := h
    rfl
  · obtain ⟨a, m, xs, ts, rfl, hx, h3, lts, q⟩ := h
    refine ⟨_, (pss_one (ps_ret (pe_callB (cr_sum rfl) (by rfl) zs (by decide +kernel) (pa_cons (pe_lc (own := [("arc", 2)]) (g := gName 2) rfl sc_law_cut_due.nd (pi_list (pv 0)) (blkOk_by (N := ["arcs", "mask", "arc"]) (own := [("arc", 2)]) (sc := defScope s__law_cut_due) (by decide +kernel)) (fun _ _ _ _ _ => pg_name (i := 2) sc_law_cut_due.nd rfl (Or.inl rfl))
      (fun _ _ _ _ _ => pts_one (pt_cmpR op_ne (pe_op op_andM (pe_op op_shrN (pv 1) (pe_ix (ix_any (K := K)) (pv 2) pe_int (fun _ _ => rfl))) pe_int) (pe_op op_andM (pe_op op_shrN (pv 1) (pe_ix (ix_any (K := K)) (pv 2) pe_int (fun _ _ => rfl))) pe_int) (nomark _))) (fun _ _ _ _ _ => (pe_ix (ix_any (K := K)) (pv 2) pe_int (fun _ _ => rfl)))) pa_nil)))), ?_⟩
    refine ⟨_, rfl, a, rfl, ⟨_, hx⟩, fun Dl hD => ?_⟩
    refine lc_list (K := K) (a := a) (xs := xs) (fun i H' => Ex H H' ∧ H' Dl = some (.lst (((ts.take i).filter fun t => bitB m t.1 != bitB m t.2.1).map fun t => V.int (t.2.2 : Int)))) ⟨Evl.Ex.new hD, by rw [upd_same]; rfl⟩ (fun i H' _ p => Evl.ex_l p.1 hx) ?_ ?_
    · rintro i x H1 hi ⟨e1, hd⟩
      obtain ⟨t, ht, ax⟩ := ats_get h3 hi
      obtain ⟨b, rfl, hb⟩ := (ax.ex e1).arc
      refine ⟨rfl, _, rfl, _, rfl, .inr ⟨b, _, 0, _, rfl, rfl, Evl.st_of hb, rfl, m, t.1, rfl, rfl, _, 1, rfl, rfl, ?_⟩⟩
      refine ⟨_, rfl, _, rfl, .inr ⟨b, _, 1, _, rfl, rfl, Evl.st_of hb, rfl, m, t.2.1, rfl, rfl, _, 1, rfl, rfl, rfl, _, rfl, ?_⟩⟩
      rw [bit_ne]
      have lk := cutA_take ts (bitB m) i
      cases hq : bitB m t.1 != bitB m t.2.1 with
      | true =>
        refine ⟨_, rfl, .inr ⟨b, _, 2, _, rfl, rfl, Evl.st_of hb, rfl, _, hd, szl (by rw [List.length_map]; omega), Evl.Ex.mut e1 hD, ?_⟩⟩
        rw [upd_same, filt_yes (f := fun t : Arc => bitB m t.1 != bitB m t.2.1) ht hq, List.map_append]
        rfl
      | false =>
        refine ⟨e1, ?_⟩
        rw [filt_no (f := fun t : Arc => bitB m t.1 != bitB m t.2.1) ht hq]
        exact hd
    · rintro H1 ⟨e1, hd⟩
      have lx : xs.length = ts.length := by rw [h3.1, List.length_map]
      rw [lx, List.take_length, intW] at hd
      refine ⟨Dl, _, rfl, Evl.sq_of hd, ?_⟩
      rw [sum_cast]
      exact q H1 e1
/-! _law_net_is -/
theorem rep_arcs {H : Hp} {x y : V} {ts : List Arc} (hl : ts.length ≤ 10000) (hx : At H x (.list (ts.map arcD))) (hy : At H y (.list (ts.map arcD))) : Rep 2 H x y := by
  refine rep_list hx hy (by rw [List.length_map]; omega) fun d hd u v hu hv => ?_
  obtain ⟨t, _, rfl⟩ := List.mem_map.mp hd
  refine rep_tuple hu hv (by show 3 ≤ 10000; decide) fun d hd u v hu hv => ?_
  obtain ⟨i, _, rfl⟩ := List.mem_map.mp hd
  rw [hu.isI, hv.isI]
  exact Rep.flat rfl
theorem sc_law_net_is : FnScope ["net", "many", "arcs", "arc"] ["net", "many", "arcs"] (defScope s__law_net_is) := ⟨rfl, rfl, rfl, by decide +kernel, rfl, by decide +kernel, by decide +kernel⟩
def spNetIs (K : PySem.W.Frag) (C : Addr) : Sp := fun vs H Q _ => ∃ (a t : Addr) (n : Nat) (ts : List Arc) (xs : List V), vs = [.ref a, .int n, .ref t] ∧ WebAt C H a n ts ∧ H t = some (.lst xs) ∧ Ats H xs (ts.map arcD) ∧ ts.length ≤ 10000 ∧ ∀ H', Ex H H' → Q (.bl true) H'
theorem ok_net_is {gp gg gq gl gi fl : Addr} {gpd gqd gid fld : FuncData} (D : Dfn K mg "_law_net_is" s__law_net_is ["net", "many", "arcs"]) (z : Z mg) (T : WC K mg C) (PT : TG P w K mg base C gp gg gpd "places" (spWPlaces C)) (PL : TG P w K mg base C gq gl gqd "ties" (spWTies C)) (It : WI P w K mg base C gi gid) (LN : WLn P w K mg base C fl fld)
    (O_same : ∀ n, Ok P w K mg base (n + 1) "_law_same" ["given", "due"] (spSame n)) : Ok P w K mg base 6 "_law_net_is" ["net", "many", "arcs"] (spNetIs K C) := D.ok fun f fd F => by
  refine F.ok sc_law_net_is (fun vs H Q E h => ?_) (fun cdv A outer sh H vs Q E hr h => ?_)
  · obtain ⟨a, t, n, ts, xs, rfl, _⟩ := h
    rfl
  · obtain ⟨a, t, n, ts, xs, rfl, web, ht, hx, lts, q⟩ := h
    refine ⟨_, (pss_cons (ps_if (PW.pt (pw_or (pt_not (pt_val (pe_callB (C8.call_isC T.ins) (by rfl) z.isinstance (by decide +kernel) (pa_cons (pv 0) (pa_cons (pe_glob (by rfl) T.mg (show RelV (.ref C) (.ref C) from rfl)) pa_nil))))) (pw_or1 (pt_not (pt_val (pe_o (O_same 3) (hr.mono (by decide)) (pa_cons (pe_lst (pa_cons (pe_prop (pv 0) T.cl PT.at_ PT.ok (hr.mono (by decide)) PT.b .nil pass0 rfl) (pa_cons (pe_prop (pv 0) T.cl PL.at_ PL.ok (hr.mono (by decide)) PL.b .nil pass0 rfl) pa_nil))) (pa_cons (pe_lst (pa_cons (pv 1) (pa_cons (pv 2) pa_nil))) pa_nil)))))))) (pss_one (ps_ret pe_bl)) pss_nil)
      (pss_one (ps_ret (pe_and (pe_o (O_same 0) (hr.mono (by decide)) (pa_cons (pe_callB (call_lenOwn LN.at_ LN.fn LN.ok LN.b (hr.mono (by decide))) (by rfl) z.len PySem.boot_len (pa_cons (pv 0) pa_nil)) (pa_cons (pe_callB call_len_seq (by rfl) z.len PySem.boot_len (pa_cons (pv 2) pa_nil)) pa_nil))) (pe_one (pe_o (O_same 2) (hr.mono (by decide)) (pa_cons (pe_lc (own := [("arc", 3)]) (g := gName 3) rfl sc_law_net_is.nd (pi_own (f := "_ties") (pv 0) It.at_ It.fn It.ok It.b (hr.mono (by decide))) (blkOk_by (N := ["net", "many", "arcs", "arc"]) (own := [("arc", 3)]) (sc := defScope s__law_net_is) (by decide +kernel)) (fun _ _ _ _ _ => pg_name (i := 3) sc_law_net_is.nd rfl (Or.inl rfl)) (fun _ _ _ _ _ => pts_nil) (fun _ _ _ _ _ => (pv 3))) (pa_cons (pv 2) pa_nil)))))))), ?_⟩
    obtain ⟨dx, l, ys, h1, h2, h3⟩ := id web
    have ly : ys.length = ts.length := by rw [h3.1, List.length_map]
    have lx : xs.length = ts.length := by rw [hx.1, List.length_map]
    refine ⟨_, rfl, a, dx, _, rfl, h1, _, rfl, ?_⟩
    refine ⟨_, rfl, a, dx, _, rfl, h1, a, n, ts, rfl, web, _, rfl, a, dx, _, rfl, h1, a, n, ts, rfl, web, fun u H1 zs nu e1 hu hz => ?_⟩
    refine ⟨sz (by show 2 ≤ 100000; decide), fun l1 nl1 => ?_⟩
    have S2 : Has H1 _ [(l1, .lst [.int n, .ref u])] := Has.nil.new nl1
    generalize upd H1 l1 (.lst [.int n, .ref u]) = H2 at S2
    refine ⟨_, rfl, _, rfl, sz (by show 2 ≤ 100000; decide), fun l2 nl2 => ?_⟩
    have S3 := S2.new (o := .lst [.int n, .ref t]) nl2
    generalize upd H2 l2 (.lst [.int n, .ref t]) = H3 at S3
    have e3 := e1.trans S3.ex
    have a1 : At H3 (.ref u) (.list (ts.map arcD)) := At.mkL (S3.ex _ _ hu) (hz.ex S3.ex)
    have a2 : At H3 (.ref t) (.list (ts.map arcD)) := At.mkL (e3 _ _ ht) (hx.ex e3)
    refine ⟨.ref l1, .ref l2, rfl, rep_list (k := 2) (ds := [.int n, .list (ts.map arcD)]) (At.mkL (S3.get 1 rfl) (.cons (.int _) (.cons a1 .nil))) (At.mkL (S3.get 0 rfl) (.cons (.int _) (.cons a2 .nil))) (by show 2 ≤ 10000; decide) fun d hd x y hx hy => ?_, fun H4 e4 => ⟨_, rfl, ?_⟩⟩
    · simp only [List.mem_cons, List.not_mem_nil, or_false] at hd
      rcases hd with rfl | rfl
      · rw [hx.isI, hy.isI]
        exact Rep.flat rfl
      · exact rep_arcs lts hx hy
    have e04 := e3.trans e4
    refine ⟨_, rfl, a, dx, _, rfl, e04 _ _ h1, a, n, ts, rfl, web.ex e04, (ts.length : Int), rfl, by omega, by omega, ?_⟩
    refine ⟨_, rfl, t, _, rfl, .inl (Evl.sq_of (e04 _ _ ht)), ?_⟩
    refine ⟨_, _, rfl, ⟨by rw [lx], rfl⟩, fun H5 e5 => ⟨_, rfl, ?_⟩⟩
    have e05 := e04.trans e5
    refine ⟨_, rfl, a, dx, _, l, _, rfl, e05 _ _ h1, wf_ties n l, Evl.st_of (e05 _ _ h2), fun D2 nD2 => ?_⟩
    refine lc_tup (K := K) (a := l) (xs := ys) (fun i H' => Has H5 H' [(D2, .lst (ys.take i))]) (Has.nil.new nD2) (fun i H' _ S => Evl.st_of (S.ex _ _ (e05 _ _ h2))) ?_ ?_
    · rintro i x H6 hi S6
      refine ⟨rfl, _, rfl, _, S6.get 0 rfl, szl (by rw [List.length_take]; omega), ?_⟩
      rw [take_snoc hi]
      exact S6.set 0 rfl
    · rintro H6 S6
      rw [List.take_length] at S6
      have e06 := e05.trans S6.ex
      exact ⟨_, rfl, .ref D2, .ref t, rfl, rep_arcs lts (At.mkL (S6.get 0 rfl) (h3.ex e06)) (At.mkL (e06 _ _ ht) (hx.ex e06)), fun H7 e7 => q H7 (e06.trans e7)⟩
end
end TW
set_option Elab.async false
set_option linter.all false
set_option maxRecDepth 100000
set_option maxHeartbeats 1000000
namespace TW
open PySem PySem.Spec PyProof.Rows L2
def tri : Nat → Nat
  | 0 => 0
  | i + 1 => tri i + i
theorem tri9 : ∀ {n : Nat}, n ≤ 9 → tri n ≤ 36
  | 0, _ => by decide
  | 1, _ => by decide
  | 2, _ => by decide
  | 3, _ => by decide
  | 4, _ => by decide
  | 5, _ => by decide
  | 6, _ => by decide
  | 7, _ => by decide
  | 8, _ => by decide
  | 9, _ => by decide
  | n + 10, h => absurd h (by omega)
def prL (p : Nat × Nat) : List Int := [(p.1 : Int), (p.2 : Int)]
def prD (p : Nat × Nat) : PyData := tupD (prL p)
theorem at_pr {H : Hp} {a : Addr} {p : Nat × Nat} (h : H a = some (.tup [.int p.1, .int p.2])) : At H (.ref a) (prD p) := At.mkT h (.cons (.int _) (.cons (.int _) .nil))
theorem At.pr {H : Hp} {v : V} {p : Nat × Nat} (h : At H v (prD p)) : ∃ a, v = .ref a ∧ H a = some (.tup [.int p.1, .int p.2]) := by
  obtain ⟨a, xs, rfl, h1, h2⟩ := At.isT h
  refine ⟨a, rfl, ?_⟩
  have e : xs = [.int p.1, .int p.2] := by
    match xs, h2 with
    | [x, y], h2 =>
      have e1 := h2.head.isI
      have e2 := h2.rest.head.isI
      rw [e1, e2]
    | [], h2 => exact absurd h2.1 (by simp [prL])
    | [_], h2 => exact absurd h2.1 (by simp [prL])
    | _ :: _ :: _ :: _, h2 => exact absurd h2.1 (by simp [prL])
  rw [h1, e]
theorem ats_ins {H : Hp} {xs : List V} {ts : List Arc} {y : V} {t : Arc} (h : Ats H xs (ts.map arcD)) (a : At H y (arcD t)) (i : Nat) : Ats H (xs.take i ++ [y] ++ xs.drop i) ((ts.take i ++ [t] ++ ts.drop i).map arcD) := by
  rw [List.map_append, List.map_append, List.map_take, List.map_drop]
  have tk : ∀ {xs : List V} {ds : List PyData}, Ats H xs ds → Ats H (xs.take i) (ds.take i) := fun {xs ds} h => ⟨by rw [List.length_take, List.length_take, h.1], fun j x d h1 h2 => by
    rw [List.getElem?_take] at h1 h2
    split at h1
    · rename_i c
      rw [if_pos c] at h2
      exact h.2 j x d h1 h2
    · cases h1⟩
  have dp : ∀ {xs : List V} {ds : List PyData}, Ats H xs ds → Ats H (xs.drop i) (ds.drop i) := fun {xs ds} h => ⟨by rw [List.length_drop, List.length_drop, h.1], fun j x d h1 h2 => by
    rw [List.getElem?_drop] at h1 h2
    exact h.2 _ x d h1 h2⟩
  exact ((tk h).append (.cons a .nil)).append (dp h)
theorem nuMin2_int (a b : Int) : nuMin2 (.int a) (.int b) = some (.int (if b < a then b else a)) := by
  show (some (decide (b < a))).map _ = _
  by_cases h : b < a
  · rw [decide_eq_true h, if_pos h]
    rfl
  · rw [decide_eq_false h, if_neg h]
    rfl
theorem nuMin3_int (a b c : Int) : ∃ m : Int, nuMin3 (.int a) (.int b) (.int c) = some (.int m) ∧ m ≤ a ∧ m ≤ b ∧ m ≤ c ∧ (m = a ∨ m = b ∨ m = c) := by
  unfold nuMin3
  rw [nuMin2_int]
  refine ⟨_, nuMin2_int _ _, ?_⟩
  split <;> split <;> omega
/-- (low, high, heavy) or (high, low, heavy), as the well says -/
def tArcE : TE := fun σ H Q => ∃ (G : Hp) (l : List (Addr × HO)) (p : Addr) (o : HO) (k lo hi w : Nat), σ[0]? = some (some (.ref p)) ∧ σ[5]? = some (some (.int lo)) ∧ σ[4]? = some (some (.int hi)) ∧ σ[8]? = some (some (.int w)) ∧ Has G H ((p, o) :: l) ∧ WellO k o ∧ k < 10 ^ 8 ∧
  ∀ (H' : Hp) (o' : HO) (u : Addr) (t : Arc), Has G H' ((u, .tup [.int t.1, .int t.2.1, .int t.2.2]) :: (p, o') :: l) → WellO (k + 1) o' → (t = (lo, hi, w) ∨ t = (hi, lo, w)) → Q (.ref u) H'
section
variable {P : Program} {w : World} {K : PySem.W.Frag} {mg : Str → Option Value} {base : Heap} {C N : Addr}
/-! _law_some_ties -/
abbrev NST2 : List Str := ["well", "many", "pairs", "share", "high", "low", "out", "scale", "heavy", "k", "twin"]
theorem sc_law_some_ties : FnScope NST2 ["well", "many"] (defScope s__law_some_ties) := ⟨rfl, rfl, rfl, by decide +kernel, rfl, by decide +kernel, by decide +kernel⟩
def spSomeTies : Sp := fun vs H Q _ => ∃ (G : Hp) (l : List (Addr × HO)) (p : Addr) (o : HO) (k n : Nat), vs = [.ref p, .int n] ∧ Has G H ((p, o) :: l) ∧ WellO k o ∧ k < 10 ^ 6 ∧ n ≤ 9 ∧
  ∀ (G' H' : Hp) (o' : HO) (t : Addr) (xs : List V) (ts : List Arc), Ex G G' → Has G' H' ((t, .lst xs) :: (p, o') :: l) → WellO (k + 3000) o' → Ats G' xs (ts.map arcD) → (∀ t ∈ ts, arcOk n t) → ts.length ≤ 40 → (∀ t ∈ ts, t.2.2 ≤ 10 ^ 11) → Q (.ref t) H'
theorem ok_some_ties (D : Dfn K mg "_law_some_ties" s__law_some_ties ["well", "many"]) (z : Z mg) (zmin : mg "min" = none) (O_dip : Ok P w K mg base 1 "_law_dip" ["well", "upto"] spDipW) (O_mixed : Ok P w K mg base 2 "_law_mixed" ["well", "row"] (spMixed K)) : Ok P w K mg base 3 "_law_some_ties" ["well", "many"] spSomeTies := D.ok fun f fd F => by
  refine F.ok sc_law_some_ties (fun vs H Q E h => ?_) (fun cdv A outer s H vs Q E hr h => ?_)
  · obtain ⟨G, l, p, o, k, n, rfl, _⟩ := h
    rfl
  · obtain ⟨G, l, p, o, k, n, rfl, S, wo, hk, hn, q⟩ := h
    refine ⟨_, (pss_cons (ps_set (i := 2) sc_law_some_ties.nd rfl (Or.inl rfl) (pe_lst pa_nil))
      (pss_cons (ps_set (i := 3) sc_law_some_ties.nd rfl (Or.inl rfl) (pe_op op_add pe_int (pe_o O_dip (hr.mono (by decide)) (pa_cons (pv 0) (pa_cons pe_int pa_nil)))))
      (pss_cons (ps_for PassesOwn.never rfl (pi_range1 (by rfl) z.range (pa_cons (pv 1) pa_nil)) (pg_name (i := 4) sc_law_some_ties.nd rfl (Or.inl rfl))
        (pss_one (ps_for PassesOwn.never rfl (pi_range1 (by rfl) z.range (pa_cons (pv 4) pa_nil)) (pg_name (i := 5) sc_law_some_ties.nd rfl (Or.inl rfl))
          (pss_one (ps_if (pt_cmpR op_lt (pe_o O_dip (hr.mono (by decide)) (pa_cons (pv 0) (pa_cons pe_int pa_nil))) (pv 3) (nomark _)) (pss_one (ps_expr (pe_bm PySem.F.plainAttrs_list PySem.F.slot_list_append PySem.F.type_list_append mt_append (pv 2) (pa_cons (pe_tup (pa_cons (pv 5) (pa_cons (pv 4) pa_nil))) pa_nil)))) pss_nil)))))
      (pss_cons (ps_set (i := 6) sc_law_some_ties.nd rfl (Or.inl rfl) (pe_lst pa_nil))
      (pss_cons (ps_set (i := 7) sc_law_some_ties.nd rfl (Or.inl rfl) (pe_ix ix_list (pe_lst (pa_cons pe_int (pa_cons pe_int (pa_cons pe_int (pa_cons (pe_op op_pow pe_int pe_int) pa_nil))))) (pe_o O_dip (hr.mono (by decide)) (pa_cons (pv 0) (pa_cons pe_int pa_nil))) (fun _ _ => rfl)))
      (pss_cons (ps_for PassesOwn.never rfl (pi_list (pv 2)) (pg_tup rfl (pgs_cons (pg_name (i := 5) sc_law_some_ties.nd rfl (Or.inl rfl)) (pgs_cons (pg_name (i := 4) sc_law_some_ties.nd rfl (Or.inl rfl)) pgs_nil)))
        (pss_cons (ps_set (i := 8) sc_law_some_ties.nd rfl (Or.inl rfl) (pe_op op_add (pe_o O_dip (hr.mono (by decide)) (pa_cons (pv 0) (pa_cons (pv 7) pa_nil))) (pe_callTy call_int1 (by rfl) z.int (by decide +kernel) (pa_cons (pe_cmpR op_gt (pe_o O_dip (hr.mono (by decide)) (pa_cons (pv 0) (pa_cons pe_int pa_nil))) pe_int (nomark _)) pa_nil))))
        (pss_one (ps_expr (pe_bm PySem.F.plainAttrs_list PySem.F.slot_list_append PySem.F.type_list_append mt_append (pv 6) (pa_cons (PE.imp (t' := tArcE) (pe_ifExp (pt_cmpR op_gt (pe_o O_dip (hr.mono (by decide)) (pa_cons (pv 0) (pa_cons pe_int pa_nil))) pe_int (nomark _)) (pe_tup (pa_cons (pv 5) (pa_cons (pv 4) (pa_cons (pv 8) pa_nil)))) (pe_tup (pa_cons (pv 4) (pa_cons (pv 5) (pa_cons (pv 8) pa_nil))))) (fun σ H Q h => by
            obtain ⟨G, l, p, o, k, lo, hi, w, h0, h5, h4, h8, S, wo, hk, q⟩ := h
            refine ⟨_, h0, p, 3, o, k, rfl, S.get 0 rfl, wo, by omega, by decide, by decide, fun r o1 hr1 wo1 => ?_⟩
            have S1 : Has G _ ((p, o1) :: l) := S.set 0 rfl
            generalize upd H p o1 = H1 at S1
            refine ⟨_, _, rfl, rfl, _, rfl, ?_⟩
            refine ite2 (fun _ => ?_) (fun _ => ?_)
            · exact ⟨_, h5, _, h4, _, h8, sz (by show 3 ≤ 100000; decide), fun u nu => q _ o1 u (lo, hi, w) (S1.new nu) wo1 (.inl rfl)⟩
            · exact ⟨_, h4, _, h5, _, h8, sz (by show 3 ≤ 100000; decide), fun u nu => q _ o1 u (hi, lo, w) (S1.new nu) wo1 (.inr rfl)⟩)) pa_nil))))))
      (pss_cons (ps_for PassesOwn.never rfl (pi_range1 (by rfl) z.range (pa_cons (pe_callB (call_min3Nu rfl) (by rfl) zmin (by decide +kernel) (pa_cons (pe_o O_dip (hr.mono (by decide)) (pa_cons (pv 0) (pa_cons pe_int pa_nil))) (pa_cons (pe_callB call_len_seq (by rfl) z.len PySem.boot_len (pa_cons (pv 6) pa_nil)) (pa_cons (pe_op op_sub pe_int (pe_callB call_len_seq (by rfl) z.len PySem.boot_len (pa_cons (pv 6) pa_nil))) pa_nil)))) pa_nil)) (pg_name (i := 9) sc_law_some_ties.nd rfl (Or.inl rfl))
        (pss_cons (ps_set (i := 10) sc_law_some_ties.nd rfl (Or.inl rfl) (pe_ix ix_list (pv 6) (pe_o O_dip (hr.mono (by decide)) (pa_cons (pv 0) (pa_cons (pe_callB call_len_seq (by rfl) z.len PySem.boot_len (pa_cons (pv 6) pa_nil)) pa_nil))) (fun _ _ => rfl)))
        (pss_one (ps_expr (pe_bm PySem.F.plainAttrs_list PySem.F.slot_list_insert PySem.F.type_list_insert mt_insert (pv 6) (pa_cons (pe_o O_dip (hr.mono (by decide)) (pa_cons (pv 0) (pa_cons (pe_op op_add (pe_callB call_len_seq (by rfl) z.len PySem.boot_len (pa_cons (pv 6) pa_nil)) pe_int) pa_nil))) (pa_cons (pe_tup (pa_cons (pe_ix (ix_any (K := K)) (pv 10) pe_int (fun _ _ => rfl)) (pa_cons (pe_ix (ix_any (K := K)) (pv 10) pe_int (fun _ _ => rfl)) (pa_cons (pe_o O_dip (hr.mono (by decide)) (pa_cons (pv 0) (pa_cons (pv 7) pa_nil))) pa_nil)))) pa_nil)))))))
      (pss_one (ps_ret (pe_o O_mixed hr (pa_cons (pv 0) (pa_cons (pv 6) pa_nil)))))))))))), ?_⟩
    refine ⟨sz (by show 0 ≤ 100000; decide), fun pr npr => ?_⟩
    have S1 := S.new (o := .lst []) npr
    generalize upd H pr (.lst []) = H1 at S1
    refine ⟨_, rfl, p, 4, o, k, rfl, S1.get 1 rfl, wo, by omega, by decide, by decide, fun sh o1 hr1 wo1 => ?_⟩
    have S2 : Has G _ ((pr, .lst []) :: (p, o1) :: l) := S1.set 1 rfl
    generalize upd H1 p o1 = H2 at S2
    refine ⟨_, _, rfl, rfl, ?_⟩
    refine ⟨_, rfl, n, rfl, by omega, by omega, ?_⟩
    rw [show ((n : Nat) : Int).toNat = n by omega]
    refine for_range (lo := 0) (n := n) (fun i σ H' => ∃ (G' : Hp) (v4 v5 v6 v7 v8 v9 v10 : Option V) (o' : HO) (ys : List V) (ps : List (Nat × Nat)), σ = [some (.ref p), some (.int n), some (.ref pr), some (.int (1 + (sh : Int))), v4, v5, v6, v7, v8, v9, v10] ∧ Ex G G' ∧ Has G' H' ((pr, .lst ys) :: (p, o') :: l) ∧ WellO (k + 1 + 9 * i) o' ∧ Ats G' ys (ps.map prD) ∧ (∀ q ∈ ps, q.1 < q.2 ∧ q.2 < n) ∧ ps.length ≤ tri i)
      ⟨G, none, none, none, none, none, none, none, o1, [], [], rfl, Evl.Ex.refl _, S2, wo1, .nil, fun q h => absurd h List.not_mem_nil, Nat.le_refl _⟩ ?_ ?_
    · rintro i σ H3 hi ⟨G3, v4, v5, v6, v7, v8, v9, v10, o3, ys, ps, rfl, e3, S3, wo3, ay, hps, lps⟩
      rw [Int.zero_add]
      refine ⟨_, rfl, i, rfl, by omega, by omega, ?_⟩
      rw [show ((i : Nat) : Int).toNat = i by omega]
      refine for_range (lo := 0) (n := i) (fun j σ H' => ∃ (G' : Hp) (v5 v6 v7 v8 v9 v10 : Option V) (o' : HO) (ys : List V) (ps : List (Nat × Nat)), σ = [some (.ref p), some (.int n), some (.ref pr), some (.int (1 + (sh : Int))), some (.int i), v5, v6, v7, v8, v9, v10] ∧ Ex G G' ∧ Has G' H' ((pr, .lst ys) :: (p, o') :: l) ∧ WellO (k + 1 + 9 * i + j) o' ∧ Ats G' ys (ps.map prD) ∧ (∀ q ∈ ps, q.1 < q.2 ∧ q.2 < n) ∧ ps.length ≤ tri i + j)
        ⟨G3, v5, v6, v7, v8, v9, v10, o3, ys, ps, rfl, e3, S3, wo3, ay, hps, lps⟩ ?_ ?_
      · rintro j σ H4 hj ⟨G4, v5, v6, v7, v8, v9, v10, o4, ys, ps, rfl, e4, S4, wo4, ay, hps, lps⟩
        rw [Int.zero_add]
        have ly : ys.length = ps.length := by rw [ay.1, List.length_map]
        have t9 := tri9 (show i ≤ 9 by omega)
        refine ⟨_, rfl, p, 4, o4, _, rfl, S4.get 1 rfl, wo4, by omega, by decide, by decide, fun r o5 hr5 wo5 => ?_⟩
        have S5 : Has G4 _ ((pr, .lst ys) :: (p, o5) :: l) := S4.set 1 rfl
        generalize upd H4 p o5 = H5 at S5
        refine ⟨_, rfl, _, _, rfl, rfl, _, rfl, ?_⟩
        refine ite2 (fun _ => ?_) (fun _ => ?_)
        · refine ⟨_, rfl, .inl ⟨rfl, _, Evl.sq_of (S5.get 0 rfl)⟩, _, rfl, _, rfl, sz (by show 2 ≤ 100000; decide), fun u nu => ?_⟩
          have S6 := S5.new (o := .tup [.int j, .int i]) nu
          generalize upd H5 u (.tup [.int j, .int i]) = H6 at S6
          refine ⟨pr, _, _, rfl, rfl, S6.get 1 rfl, szl (by omega), ?_⟩
          have S7 : Has (upd G4 u (.tup [.int j, .int i])) _ ((pr, .lst (ys ++ [V.ref u])) :: (p, o5) :: l) := S6.sink.set 0 rfl
          refine ⟨_, _, _, _, _, _, _, o5, ys ++ [V.ref u], ps ++ [(j, i)], rfl, e4.trans S6.exS, S7, wo5.up (by omega), ?_, fun q hq => ?_, by rw [List.length_append]; show ps.length + 1 ≤ _; omega⟩
          · rw [List.map_append]
            exact (ay.ex S6.exS).snoc (at_pr upd_same)
          · rcases List.mem_append.mp hq with h | h
            · exact hps q h
            · rw [List.mem_singleton.mp h]
              exact ⟨hj, hi⟩
        · exact ⟨G4, _, _, _, _, _, _, o5, ys, ps, rfl, e4, S5, wo5.up (by omega), ay, hps, by omega⟩
      · rintro σ H4 ⟨G4, v5, v6, v7, v8, v9, v10, o4, ys, ps, rfl, e4, S4, wo4, ay, hps, lps⟩
        exact ⟨G4, _, _, _, _, _, _, _, o4, ys, ps, rfl, e4, S4, wo4.up (by omega), ay, hps, lps⟩
    · rintro σ H3 ⟨G3, v4, v5, v6, v7, v8, v9, v10, o3, ys, ps, rfl, e3, S3, wo3, ay, hps, lps⟩
      have ly : ys.length = ps.length := by rw [ay.1, List.length_map]
      refine ⟨sz (by show 0 ≤ 100000; decide), fun ou nou => ?_⟩
      have S4 := S3.new (o := .lst []) nou
      generalize upd H3 ou (.lst []) = H4 at S4
      refine ⟨_, _, rfl, rfl, ⟨by decide, by decide, by decide⟩, sz (by show 4 ≤ 100000; decide), fun lt nlt => ?_⟩
      generalize hL : ([V.int 2, V.int 4, V.int 10, V.int ((10 : Int) ^ (11 : Int).toNat)] : List V) = L
      have S5 := S4.new (o := .lst L) nlt
      generalize upd H4 lt (.lst L) = H5 at S5
      refine ⟨_, rfl, p, 4, o3, _, rfl, S5.get 3 rfl, wo3, by omega, by decide, by decide, fun r o5 hr5 wo5 => ?_⟩
      have S6 : Has G3 _ ((lt, .lst L) :: (ou, .lst []) :: (pr, .lst ys) :: (p, o5) :: l) := S5.set 3 rfl
      generalize upd H5 p o5 = H6 at S6
      obtain ⟨sc, hat, sc0, sc1⟩ : ∃ sc : Nat, atI L (r : Int) = some (.int sc) ∧ 0 < sc ∧ sc ≤ 10 ^ 11 := by
        rw [← hL]
        have : r = 0 ∨ r = 1 ∨ r = 2 ∨ r = 3 := by omega
        rcases this with rfl | rfl | rfl | rfl
        · exact ⟨2, rfl, by decide, by decide⟩
        · exact ⟨4, rfl, by decide, by decide⟩
        · exact ⟨10, rfl, by decide, by decide⟩
        · exact ⟨10 ^ 11, rfl, by decide, by decide⟩
      refine ⟨lt, _, r, _, rfl, rfl, Evl.sq_of (S6.get 0 rfl), hat, ?_⟩
      have S7 := S6.tail
      have sc2 : (sc : Int) < 2 ^ 200 := Int.lt_of_le_of_lt (show (sc : Int) ≤ 10 ^ 11 by exact_mod_cast sc1) (by decide)
      have n81 := tri9 hn
      have S8 := S7.swap.sink
      have e8 := S7.swap.exS
      have ay8 := ay.ex e8
      have hpr8 : (upd G3 pr (.lst ys)) pr = some (.lst ys) := upd_same
      generalize upd G3 pr (.lst ys) = G8 at S8 e8 ay8 hpr8
      refine ⟨_, rfl, pr, rfl, ⟨_, Evl.sq_of (S8.ex _ _ hpr8)⟩, for_list (K := K) (a := pr) (xs := ys) (fun i σ H' => ∃ (G' : Hp) (v4 v5 v8 v9 v10 : Option V) (o' : HO) (zs : List V) (ts : List Arc), σ = [some (.ref p), some (.int n), some (.ref pr), some (.int (1 + (sh : Int))), v4, v5, some (.ref ou), some (.int sc), v8, v9, v10] ∧ Ex G8 G' ∧ Has G' H' ((ou, .lst zs) :: (p, o') :: l) ∧ WellO (k + 200 + 3 * i) o' ∧ Ats G' zs (ts.map arcD) ∧ (∀ t ∈ ts, arcOk n t ∧ t.2.2 ≤ 10 ^ 11) ∧ ts.length = i)
        ⟨G8, _, _, _, _, _, o5, [], [], rfl, Evl.Ex.refl _, S8, wo5.up (by omega), .nil, fun q h => absurd h List.not_mem_nil, rfl⟩ (fun i σ H' _ h => by
          obtain ⟨G', _, _, _, _, _, _, _, _, _, e, S', _⟩ := h
          exact Evl.sq_of ((e.trans S'.ex) _ _ hpr8)) ?_ ?_⟩
      · rintro i x σ H7 hi ⟨G7, v4, v5, v8, v9, v10, o7, zs, ts, rfl, e7, S9, wo7, az, hts, lts⟩
        obtain ⟨pq, hpq, ax⟩ := ats_get ay8 hi
        have hi2 := (List.getElem?_eq_some_iff.mp hpq).1
        obtain ⟨q1, q2⟩ := hps pq (List.mem_of_getElem? hpq)
        obtain ⟨b, rfl, hb⟩ := (ax.ex (e7.trans S9.ex)).pr
        have lz : zs.length = ts.length := by rw [az.1, List.length_map]
        refine ⟨b, _, rfl, Evl.st_of hb, rfl, _, _, rfl, _, _, rfl, rfl, ?_⟩
        refine ⟨_, rfl, _, rfl, p, sc, o7, _, rfl, S9.get 1 rfl, wo7, by omega, sc0, sc2, fun r1 o8 hr1 wo8 => ?_⟩
        have S10 : Has G7 _ ((ou, .lst zs) :: (p, o8) :: l) := S9.set 1 rfl
        generalize upd H7 p o8 = H8 at S10
        refine ⟨_, rfl, p, 5, o8, _, rfl, S10.get 1 rfl, wo8, by omega, by decide, by decide, fun r2 o9 hr2 wo9 => ?_⟩
        have S11 : Has G7 _ ((ou, .lst zs) :: (p, o9) :: l) := S10.set 1 rfl
        generalize upd H8 p o9 = H9 at S11
        refine ⟨_, _, rfl, rfl, .inr ⟨_, rfl, _, _, rfl, rfl, ?_⟩⟩
        obtain ⟨w1, ew, wb⟩ : ∃ w1 : Nat, (r1 : Int) + (if decide ((r2 : Int) > 0) = true then 1 else 0) = (w1 : Int) ∧ w1 ≤ 10 ^ 11 := by
          split
          · exact ⟨r1 + 1, by push_cast; rfl, by omega⟩
          · exact ⟨r1, by omega, by omega⟩
        rw [show (fun i j : Int => V.int (i + j)) (r1 : Int) (if decide ((r2 : Int) > 0) = true then 1 else 0) = V.int (w1 : Int) from congrArg V.int ew]
        refine ⟨_, rfl, .inl ⟨rfl, _, Evl.sq_of (S11.get 0 rfl)⟩, G7, _, p, o9, _, pq.1, pq.2, w1, rfl, rfl, rfl, rfl, S11.swap, wo9, by omega, fun H10 o10 u t S12 wo10 ht => ?_⟩
        have S13 := S12.sink.swap
        have e13 := S12.exS
        have hu : At (upd G7 u (.tup [.int t.1, .int t.2.1, .int t.2.2])) (.ref u) (arcD t) := at_arc upd_same
        generalize upd G7 u (.tup [.int t.1, .int t.2.1, .int t.2.2]) = G13 at S13 e13 hu
        refine ⟨ou, _, _, rfl, rfl, S13.get 0 rfl, szl (by omega), ?_⟩
        refine ⟨G13, _, _, _, _, _, o10, zs ++ [V.ref u], ts ++ [t], rfl, e7.trans e13, S13.set 0 rfl, wo10.up (by omega), ?_, fun q hq => ?_, by rw [List.length_append, lts]; rfl⟩
        · rw [List.map_append]
          exact (az.ex e13).snoc hu
        · rcases List.mem_append.mp hq with h | h
          · exact hts q h
          · rw [List.mem_singleton.mp h]
            rcases ht with rfl | rfl
            · exact ⟨⟨by show pq.1 < n; omega, q2, by show pq.1 ≠ pq.2; omega⟩, wb⟩
            · exact ⟨⟨q2, by show pq.1 < n; omega, by show pq.2 ≠ pq.1; omega⟩, wb⟩
      · rintro σ H7 ⟨G7, v4, v5, v8, v9, v10, o7, zs, ts, rfl, e7, S9, wo7, az, hts, lts⟩
        have lz : zs.length = ts.length := by rw [az.1, List.length_map]
        refine ⟨_, rfl, p, 5, o7, _, rfl, S9.get 1 rfl, wo7, by omega, by decide, by decide, fun r o8 hr8 wo8 => ?_⟩
        have S10 : Has G7 _ ((ou, .lst zs) :: (p, o8) :: l) := S9.set 1 rfl
        generalize upd H7 p o8 = H8 at S10
        have sq := Evl.sq_of (K := K) (S10.get 0 rfl)
        refine ⟨_, rfl, ou, _, rfl, .inl sq, _, rfl, ou, _, rfl, .inl sq, _, _, rfl, rfl, ?_⟩
        obtain ⟨m, hm, m1, m2, m3, m4⟩ := nuMin3_int (r : Int) ((zs.length : Nat) : Int) (40 - ((zs.length : Nat) : Int))
        refine ⟨_, _, _, .int m, rfl, hm, m, rfl, by omega, by omega, ?_⟩
        refine for_range (lo := 0) (n := m.toNat) (fun j σ H' => ∃ (G' : Hp) (v4 v5 v8 v9 v10 : Option V) (o' : HO) (zs' : List V) (ts' : List Arc), σ = [some (.ref p), some (.int n), some (.ref pr), some (.int (1 + (sh : Int))), v4, v5, some (.ref ou), some (.int sc), v8, v9, v10] ∧ Ex G8 G' ∧ Has G' H' ((ou, .lst zs') :: (p, o') :: l) ∧ WellO (k + 500 + 3 * j) o' ∧ Ats G' zs' (ts'.map arcD) ∧ (∀ t ∈ ts', arcOk n t ∧ t.2.2 ≤ 10 ^ 11) ∧ ts'.length = ts.length + j)
          ⟨G7, _, _, _, _, _, o8, zs, ts, rfl, e7, S10, wo8.up (by omega), az, hts, rfl⟩ ?_ ?_
        · rintro j σ H9 hj ⟨G9, v4, v5, v8, v9, v10, o9, zs', ts', rfl, e9, S11, wo9, az', hts', lts'⟩
          have lz' : zs'.length = ts'.length := by rw [az'.1, List.length_map]
          have pos : 0 < zs'.length := by omega
          have big : ((zs'.length + 1 : Nat) : Int) < 2 ^ 200 := Int.lt_of_le_of_lt (show ((zs'.length + 1 : Nat) : Int) ≤ 1000 by omega) (by decide)
          have sq' := Evl.sq_of (K := K) (S11.get 0 rfl)
          refine ⟨_, rfl, _, rfl, _, rfl, ou, _, rfl, .inl sq', p, zs'.length, o9, _, rfl, S11.get 1 rfl, wo9, by omega, pos, by omega, fun r1 o10 hr1 wo10 => ?_⟩
          have S12 : Has G9 _ ((ou, .lst zs') :: (p, o10) :: l) := S11.set 1 rfl
          generalize upd H9 p o10 = H10 at S12
          obtain ⟨t, htt⟩ : ∃ t, ts'[r1]? = some t := ⟨ts'[r1], List.getElem?_eq_getElem (by omega)⟩
          have hz : zs'[r1]? = some zs'[r1] := List.getElem?_eq_getElem hr1
          obtain ⟨t2, ht2, at2⟩ := ats_get az' hz
          rw [htt] at ht2
          cases ht2
          have sq2 := Evl.sq_of (K := K) (S12.get 0 rfl)
          obtain ⟨b, eb, hb⟩ := (at2.ex S12.ex).arc
          rw [eb] at hz
          refine ⟨ou, zs', r1, .ref b, rfl, rfl, sq2, atI_nat (j := r1) hz, ?_⟩
          refine ⟨_, rfl, .inl ⟨rfl, _, sq2⟩, _, rfl, _, rfl, ou, _, rfl, .inl sq2, _, _, rfl, rfl, p, zs'.length + 1, o10, _, rfl, S12.get 1 rfl, wo10, by omega, by omega, big, fun r2 o11 hr2 wo11 => ?_⟩
          have S13 : Has G9 _ ((ou, .lst zs') :: (p, o11) :: l) := S12.set 1 rfl
          have hb11 : (upd H10 p o11) b = some (.tup [.int t.1, .int t.2.1, .int t.2.2]) := by
            obtain ⟨b2, eb2, hb2⟩ := (at2.ex S13.ex).arc
            rw [eb] at eb2
            cases eb2
            exact hb2
          generalize upd H10 p o11 = H11 at S13 hb11
          refine ⟨_, rfl, .inr ⟨b, _, 1, _, rfl, rfl, Evl.st_of hb11, rfl, _, rfl, .inr ⟨b, _, 0, _, rfl, rfl, Evl.st_of hb11, rfl, _, rfl, _, rfl, p, sc, o11, _, rfl, S13.get 1 rfl, wo11, by omega, sc0, sc2, fun r3 o12 hr3 wo12 => ⟨sz (by show 3 ≤ 100000; decide), fun u nu => ?_⟩⟩⟩⟩
          have S14 : Has G9 _ ((ou, .lst zs') :: (p, o12) :: l) := S13.set 1 rfl
          generalize upd H11 p o12 = H12 at S14 nu
          have S15 := S14.new (o := .tup [.int t.2.1, .int t.1, .int r3]) nu
          generalize upd H12 u (.tup [.int t.2.1, .int t.1, .int r3]) = H13 at S15
          have S16 := S15.sink
          have e16 := S15.exS
          have hu : At (upd G9 u (.tup [.int t.2.1, .int t.1, .int r3])) (.ref u) (arcD (t.2.1, t.1, r3)) := at_arc (t := (t.2.1, t.1, r3)) upd_same
          generalize upd G9 u (.tup [.int t.2.1, .int t.1, .int r3]) = G16 at S16 e16 hu
          refine ⟨ou, zs', r2, .ref u, rfl, rfl, S16.get 0 rfl, by have : sizeLine = 16777216 := sizeLine_eq; omega, by omega, by omega, ?_⟩
          rw [show ((r2 : Nat) : Int).toNat = r2 by omega]
          obtain ⟨⟨k1, k2, k3⟩, _⟩ := hts' t (List.mem_of_getElem? htt)
          refine ⟨G16, _, _, _, _, _, o12, _, ts'.take r2 ++ [(t.2.1, t.1, r3)] ++ ts'.drop r2, rfl, e9.trans e16, S16.set 0 rfl, wo12.up (by omega), ats_ins (az'.ex e16) hu r2, fun q hq => ?_, ?_⟩
          · rcases List.mem_append.mp hq with h | h
            · rcases List.mem_append.mp h with h | h
              · exact hts' q (List.mem_of_mem_take h)
              · rw [List.mem_singleton.mp h]
                exact ⟨⟨k2, k1, fun e => k3 e.symm⟩, by show r3 ≤ 10 ^ 11; omega⟩
            · exact hts' q (List.mem_of_mem_drop h)
          · rw [List.length_append, List.length_append, List.length_take, List.length_drop]
            show min r2 ts'.length + 1 + (ts'.length - r2) = _
            omega
        · rintro σ H9 ⟨G9, v4, v5, v8, v9, v10, o9, zs', ts', rfl, e9, S11, wo9, az', hts', lts'⟩
          have lz' : zs'.length = ts'.length := by rw [az'.1, List.length_map]
          refine ⟨_, rfl, _, rfl, G9, _, p, ou, o9, _, zs', rfl, S11.swap, wo9, by omega, Evl.sq_of (S11.get 0 rfl), fun e => ?_, by omega, fun H10 o10 t rs S12 wo10 pm => ?_⟩
          · have := S11.nd
            rw [List.map_cons, List.map_cons, List.nodup_cons] at this
            exact this.1 (by rw [e]; exact List.mem_cons_self)
          obtain ⟨us, pu, au⟩ := ats_permW pm az'
          exact q G9 H10 o10 t rs us ((e3.trans e8).trans e9) (S12.sub (((List.sublist_cons_self _ _).cons₂ _).cons₂ _)) (wo10.up (by omega)) au (fun t ht => (hts' t (pu.mem_iff.mp ht)).1) (by rw [pu.length_eq]; omega) (fun t ht => (hts' t (pu.mem_iff.mp ht)).2)
end
end TW
set_option Elab.async false
set_option linter.all false
set_option maxRecDepth 100000
set_option maxHeartbeats 1000000
namespace TW
open PySem PySem.Spec PyProof.Rows L2
theorem prL_inj {p q : Nat × Nat} (h : prL p = prL q) : p = q := by
  unfold prL at h
  simp only [List.cons.injEq, Int.natCast_inj, and_true] at h
  exact Prod.ext h.1 h.2
theorem lexLt_pr {p q : Nat × Nat} (h : HT.lexLt (prL p) (prL q) = true) : p.1 < q.1 ∨ (p.1 = q.1 ∧ p.2 < q.2) := by
  rw [lex_list, decide_eq_true_eq] at h
  unfold prL at h
  rw [List.cons_lt_cons_iff] at h
  rcases h with h | ⟨h1, h2⟩
  · exact .inl (by omega)
  · rw [List.cons_lt_cons_iff] at h2
    rcases h2 with h2 | ⟨_, h2⟩
    · exact .inr ⟨by omega, by omega⟩
    · exact absurd h2 (by simp)
/-- both places, as the law looks for them -/
theorem both_ends {a b lo hi : Nat} (hlt : lo < hi) (hab : a ≠ b) : ((lo = a ∨ lo = b) ∧ (hi = a ∨ hi = b)) ↔ (min a b, max a b) = (lo, hi) := by
  rw [Prod.mk.injEq]
  omega
theorem cut2 (x y z : V) : cutV [x, y, z] none (some 2) = [x, y] := by
  show cutV [x, y, z] none (some ((2 : Nat) : Int)) = _
  unfold cutV
  rw [HT.sIx_nat, HT.sIx_none]
  rfl
theorem cut2w (x y z : V) : ¬ (HT.sIx [x, y, z].length 0 none = 0 ∧ HT.sIx [x, y, z].length [x, y, z].length (some 2) = [x, y, z].length) := fun h => by
  have h2 := h.2
  rw [show (some 2 : Option Int) = some ((2 : Nat) : Int) from rfl, HT.sIx_nat] at h2
  have h3 : min 2 3 = 3 := h2
  exact absurd h3 (by decide)
/-- low in arc[:2] and high in arc[:2] -/
def tEnds : TT := fun σ H Q => ∃ (b : Addr) (t : Arc) (lo hi : Nat), σ[6]? = some (some (.ref b)) ∧ σ[3]? = some (some (.int lo)) ∧ σ[4]? = some (some (.int hi)) ∧ H b = some (.tup [.int t.1, .int t.2.1, .int t.2.2]) ∧ t.1 ≠ t.2.1 ∧ lo < hi ∧ ∀ H', Ex H H' → Q (decide (endsA t = (lo, hi))) H'
section
variable {P : Program} {w : World} {K : PySem.W.Frag} {mg : Str → Option Value} {base : Heap} {C N : Addr}
/-! _law_summed -/
abbrev NSU : List Str := ["given", "ends", "out", "low", "high", "heavy", "arc"]
theorem sc_law_summed : FnScope NSU ["given"] (defScope s__law_summed) := ⟨rfl, rfl, rfl, by decide +kernel, rfl, by decide +kernel, by decide +kernel⟩
def spSummed : Sp := fun vs H Q _ => ∃ (G : Hp) (l : List (Addr × HO)) (a : Addr) (xs : List V) (n : Nat) (ts : List Arc), vs = [.ref a] ∧ Has G H l ∧ Stays G l a (.lst xs) ∧ Ats G xs (ts.map arcD) ∧ (∀ t ∈ ts, arcOk n t) ∧ ts.length ≤ 64 ∧ n ≤ 100 ∧
  ∀ (G' H' : Hp) (u : Addr) (ys : List V), Ex G G' → Has G' H' ((u, .lst ys) :: l) → Ats G' ys ((sumA n ts).map arcD) → Q (.ref u) H'
theorem ok_summed (D : Dfn K mg "_law_summed" s__law_summed ["given"]) (z : Z mg) (zmin : mg "min" = none) (zmax : mg "max" = none) (zsum : mg "sum" = none) : Ok P w K mg base 1 "_law_summed" ["given"] spSummed := D.ok fun f fd F => by
  refine F.ok sc_law_summed (fun vs H Q E h => ?_) (fun cdv A outer s H vs Q E hr h => ?_)
  · obtain ⟨G, l, a, xs, n, ts, rfl, _⟩ := h
    rfl
  · obtain ⟨G, l, a, xs, n, ts, rfl, S, st, hx, hok, lts, ln, q⟩ := h
    refine ⟨_, (pss_cons (ps_set (i := 1) sc_law_summed.nd rfl (Or.inl rfl) (pe_callB (cr_sortS (K := K) (P := P) (w := w) rfl hr.units) (by rfl) z.sorted (by decide +kernel) (pa_cons (pe_callTy (cr_setL (K := K) (P := P) (w := w) rfl hr.units) (by rfl) z.set (by decide +kernel) (pa_cons (pe_lc (own := [("arc", 6)]) (g := gName 6) rfl sc_law_summed.nd (pi_list (pv 0)) (blkOk_by (N := NSU) (own := [("arc", 6)]) (sc := defScope s__law_summed) (by decide +kernel)) (fun _ _ _ _ _ => pg_name (i := 6) sc_law_summed.nd rfl (Or.inl rfl)) (fun _ _ _ _ _ => pts_nil)
        (fun _ _ _ _ _ => (pe_tup (pa_cons (pe_callB (call_min2 rfl) (by rfl) zmin (by decide +kernel) (pa_cons (pe_ix (ix_any (K := K)) (pv 6) pe_int (fun _ _ => rfl)) (pa_cons (pe_ix (ix_any (K := K)) (pv 6) pe_int (fun _ _ => rfl)) pa_nil))) (pa_cons (pe_callB (call_max2 rfl) (by rfl) zmax (by decide +kernel) (pa_cons (pe_ix (ix_any (K := K)) (pv 6) pe_int (fun _ _ => rfl)) (pa_cons (pe_ix (ix_any (K := K)) (pv 6) pe_int (fun _ _ => rfl)) pa_nil))) pa_nil))))) pa_nil)) pa_nil)))
      (pss_cons (ps_set (i := 2) sc_law_summed.nd rfl (Or.inl rfl) (pe_lst pa_nil))
      (pss_cons (ps_for PassesOwn.never rfl (pi_list (pv 1)) (pg_tup rfl (pgs_cons (pg_name (i := 3) sc_law_summed.nd rfl (Or.inr rfl)) (pgs_cons (pg_name (i := 4) sc_law_summed.nd rfl (Or.inr rfl)) pgs_nil)))
        (pss_cons (ps_set (i := 5) sc_law_summed.nd rfl (Or.inl rfl) (pe_callB (cr_sum rfl) (by rfl) zsum (by decide +kernel) (pa_cons (pe_lc (own := [("arc", 6)]) (g := gName 6) rfl sc_law_summed.nd (pi_list (pv 0)) (blkOk_by (N := NSU) (own := [("arc", 6)]) (sc := defScope s__law_summed) (by decide +kernel)) (fun _ _ _ _ _ => pg_name (i := 6) sc_law_summed.nd rfl (Or.inl rfl))
          (fun _ _ _ _ _ => pts_one (PT.imp (t' := tEnds) (PW.pt (pw_and (pt_cmpR (op_inK (K := K)) (pv 3) (pe_slice sl_tup (pv 6) po_none (po_some pe_int)) (by rfl)) (pw_and1 (pt_cmpR (op_inK (K := K)) (pv 4) (pe_slice sl_tup (pv 6) po_none (po_some pe_int)) (by rfl))))) (fun σ H Q h => by
            obtain ⟨b, t, lo, hi, h6, h3, h4, hb, hab, hlt, q⟩ := h
            refine ⟨_, h3, _, h6, 2, rfl, b, _, rfl, Evl.st_of hb, cut2w _ _ _, fun p1 np1 => ?_⟩
            rw [cut2]
            have e1 : Ex H (upd H p1 (.tup [.int t.1, .int t.2.1])) := Evl.Ex.new np1
            have hp1 : (upd H p1 (.tup [.int t.1, .int t.2.1])) p1 = some (.tup [.int t.1, .int t.2.1]) := upd_same
            generalize upd H p1 (.tup [.int t.1, .int t.2.1]) = H1 at e1 hp1
            refine ⟨p1, _, rfl, .inr (Evl.st_of hp1), rfl, rfl, _, rfl, ?_⟩
            rw [if_neg (by decide), show inV (V.int (lo : Int)) [V.int (t.1 : Int), V.int (t.2.1 : Int)] = decide ((lo : Int) ∈ [(t.1 : Int), (t.2.1 : Int)]) from inV_int (lo : Int) [(t.1 : Int), (t.2.1 : Int)]]
            have m : ∀ k : Nat, (k : Int) ∈ [(t.1 : Int), (t.2.1 : Int)] ↔ (k = t.1 ∨ k = t.2.1) := fun k => by
              simp only [List.mem_cons, List.not_mem_nil, or_false]
              omega
            have be := both_ends (a := t.1) (b := t.2.1) hlt hab
            refine ite2 (fun hc => ?_) (fun hc => ?_)
            · have c1 := (m lo).mp (of_decide_eq_true hc)
              refine ⟨_, h4, _, h6, 2, rfl, b, _, rfl, Evl.st_of (e1 _ _ hb), cut2w _ _ _, fun p2 np2 => ?_⟩
              rw [cut2]
              have e2 : Ex H1 (upd H1 p2 (.tup [.int t.1, .int t.2.1])) := Evl.Ex.new np2
              have hp2 : (upd H1 p2 (.tup [.int t.1, .int t.2.1])) p2 = some (.tup [.int t.1, .int t.2.1]) := upd_same
              generalize upd H1 p2 (.tup [.int t.1, .int t.2.1]) = H2 at e2 hp2
              refine ⟨p2, _, rfl, .inr (Evl.st_of hp2), rfl, rfl, _, rfl, ?_⟩
              rw [if_neg (by decide), show inV (V.int (hi : Int)) [V.int (t.1 : Int), V.int (t.2.1 : Int)] = decide ((hi : Int) ∈ [(t.1 : Int), (t.2.1 : Int)]) from inV_int (hi : Int) [(t.1 : Int), (t.2.1 : Int)]]
              rw [show decide ((hi : Int) ∈ [(t.1 : Int), (t.2.1 : Int)]) = decide (endsA t = (lo, hi)) from by
                rw [Bool.eq_iff_iff, decide_eq_true_eq, decide_eq_true_eq, m]
                exact ⟨fun c2 => be.mp ⟨c1, c2⟩, fun e => (be.mpr e).2⟩]
              exact q H2 (e1.trans e2)
            · have e : decide (endsA t = (lo, hi)) = false := decide_eq_false fun e => hc (decide_eq_true ((m lo).mpr (be.mpr e).1))
              rw [e] at q
              exact q H1 e1)))
          (fun _ _ _ _ _ => (pe_ix (ix_any (K := K)) (pv 6) pe_int (fun _ _ => rfl)))) pa_nil)))
        (pss_one (ps_if (pt_cmpR op_gt (pv 5) pe_int (nomark _)) (pss_one (ps_expr (pe_bm PySem.F.plainAttrs_list PySem.F.slot_list_append PySem.F.type_list_append mt_append (pv 2) (pa_cons (pe_tup (pa_cons (pv 3) (pa_cons (pv 4) (pa_cons (pv 5) pa_nil)))) pa_nil)))) pss_nil))))
      (pss_one (ps_ret (pv 2)))))), ?_⟩
    have ha : ∀ {G' H' : Hp} {l' : List (Addr × HO)}, Ex G G' → Has G' H' (l' ++ l) → H' a = some (.lst xs) := fun {G' H' l'} e S' => st _ ((S'.sub (List.sublist_append_right _ _)).down e)
    have lx : xs.length = ts.length := by rw [hx.1, List.length_map]
    refine ⟨_, rfl, a, rfl, ⟨_, Evl.sq_of (ha (l' := []) (Evl.Ex.refl _) S)⟩, fun D1 nD => ?_⟩
    refine lc_list (K := K) (a := a) (xs := xs) (fun i H' => ∃ (G' : Hp) (ks : Lots), Ex G G' ∧ Has G' H' ((D1, .lst (refs ks)) :: l) ∧ InLots G' ks ∧ ks.map (·.2) = (ts.take i).map fun t => prL (endsA t)) ⟨G, [], Evl.Ex.refl _, S.new nD, fun p h => absurd h List.not_mem_nil, rfl⟩ (fun i H' _ p => by
      obtain ⟨G', ks, e, S', _⟩ := p
      exact Evl.sq_of (ha (l' := [_]) e S')) ?_ ?_
    · rintro i x H1 hi ⟨G1, ks, e1, S1, hks, em⟩
      obtain ⟨t, ht, ax⟩ := ats_get hx hi
      have hi2 := (List.getElem?_eq_some_iff.mp ht).1
      obtain ⟨b, rfl, hb⟩ := (ax.ex (e1.trans S1.ex)).arc
      have lk : ks.length ≤ i := by
        have := congrArg List.length em
        rw [List.length_map, List.length_map, List.length_take] at this
        omega
      have sb := Evl.st_of (K := K) hb
      refine ⟨rfl, _, rfl, .inr ⟨b, _, 0, _, rfl, rfl, sb, rfl, _, rfl, .inr ⟨b, _, 1, _, rfl, rfl, sb, rfl, _, _, rfl, _, rfl, .inr ⟨b, _, 0, _, rfl, rfl, sb, rfl, _, rfl, .inr ⟨b, _, 1, _, rfl, rfl, sb, rfl, _, _, rfl, sz (by show 2 ≤ 100000; decide), fun u nu => ?_⟩⟩⟩⟩⟩
      have e1' : (if (t.2.1 : Int) < (t.1 : Int) then (t.2.1 : Int) else t.1) = ((min t.1 t.2.1 : Nat) : Int) := by
        split <;> omega
      have e2' : (if (t.2.1 : Int) > (t.1 : Int) then (t.2.1 : Int) else t.1) = ((max t.1 t.2.1 : Nat) : Int) := by
        split <;> omega
      rw [e1', e2']
      have S2 := S1.new (o := .tup ((prL (endsA t)).map V.int)) nu
      refine ⟨_, S2.get 1 rfl, szl (by rw [refs_len]; omega), ?_⟩
      refine ⟨_, ks ++ [(u, prL (endsA t))], e1.trans S2.exS, ?_, fun p hp => ?_, ?_⟩
      · unfold refs
        rw [List.map_append]
        exact S2.sink.set 0 rfl
      · rcases List.mem_append.mp hp with h | h
        · exact S2.exS _ _ (hks p h)
        · rw [List.mem_singleton.mp h]
          exact upd_same
      · rw [List.map_append, em, take_snoc ht, List.map_append]
        rfl
    rintro H1 ⟨G1, ks, e1, S1, hks, em⟩
    rw [lx, List.take_length] at em
    have lk : ks.length = ts.length := by
      have := congrArg List.length em
      rw [List.length_map, List.length_map] at this
      exact this
    refine ⟨D1, ks, rfl, Evl.sq_of (S1.get 0 rfl), fun p hp => Evl.st_of (S1.ex _ _ (hks p hp)), by omega, fun sa L nsa h1' h2' h3' => ?_⟩
    have S2 := S1.new (o := LotSet P w sa L) nsa
    generalize upd H1 sa (LotSet P w sa L) = H2 at S2
    refine ⟨sa, L, rfl, S2.get 0 rfl, fun p hp => Evl.st_of (S2.ex _ _ (hks p (h1' p hp))), fun L' u pm hs nu => ?_⟩
    have S3 := (S2.new (o := .lst (L'.map fun q => V.ref q.1)) nu).drop2.drop2
    generalize upd H2 u (.lst (L'.map fun q => V.ref q.1)) = H3 at S3
    -- the pairs
    have mE : ∀ q ∈ L', ∃ t ∈ ts, q.2 = prL (endsA t) := fun q hq => by
      have h := List.mem_map_of_mem (f := (·.2)) (h1' q (pm.mem_iff.mp hq))
      rw [em] at h
      obtain ⟨t, ht, e⟩ := List.mem_map.mp h
      exact ⟨t, ht, e.symm⟩
    have mE2 : ∀ t ∈ ts, prL (endsA t) ∈ L'.map (·.2) := fun t ht => by
      have h : prL (endsA t) ∈ ks.map (·.2) := by
        rw [em]
        exact List.mem_map.mpr ⟨t, ht, rfl⟩
      obtain ⟨p, hp, e⟩ := List.mem_map.mp h
      rw [← e]
      exact ((pm.map (·.2)).mem_iff).mpr (h2' p hp)
    have ndE : (L'.map (·.2)).Nodup := ((pm.map (·.2)).nodup_iff).mpr h3'
    obtain ⟨E', hE⟩ : ∃ E' : List (Nat × Nat), L'.map (·.2) = E'.map prL := by
      clear em hs ndE mE2 pm S3
      induction L' with
      | nil => exact ⟨[], rfl⟩
      | cons q r ih =>
        obtain ⟨E', h⟩ := ih fun p hp => mE p (List.mem_cons_of_mem _ hp)
        obtain ⟨t, _, e⟩ := mE q List.mem_cons_self
        exact ⟨endsA t :: E', by rw [List.map_cons, List.map_cons, h, e]⟩
    have memE : ∀ p, p ∈ E' ↔ ∃ t ∈ ts, endsA t = p := fun p => by
      constructor
      · intro hp
        have h : prL p ∈ L'.map (·.2) := by rw [hE]; exact List.mem_map_of_mem hp
        obtain ⟨q, hq, e⟩ := List.mem_map.mp h
        obtain ⟨t, ht, e2⟩ := mE q hq
        exact ⟨t, ht, prL_inj (e2.symm.trans e)⟩
      · rintro ⟨t, ht, rfl⟩
        have h := mE2 t ht
        rw [hE] at h
        obtain ⟨p, hp, e⟩ := List.mem_map.mp h
        rw [← prL_inj e]
        exact hp
    have pwE : E'.Pairwise fun p q => p.1 < q.1 ∨ (p.1 = q.1 ∧ p.2 < q.2) := by
      have h := lots_strict (by rw [List.pairwise_map]; exact hs) ndE
      rw [hE, List.pairwise_map] at h
      exact h.imp fun h => lexLt_pr h
    have ltE : ∀ p ∈ E', p.1 < p.2 ∧ p.2 < n := fun p hp => by
      obtain ⟨t, ht, rfl⟩ := (memE p).mp hp
      obtain ⟨k1, k2, k3⟩ := hok t ht
      unfold endsA
      show min t.1 t.2.1 < max t.1 t.2.1 ∧ max t.1 t.2.1 < n
      omega
    have fin : ((E'.filter fun p => decide (0 < wOf ts p)).map fun p => ((p.1, p.2, wOf ts p) : Arc)) = sumA n ts := by
      have key : ((E'.filter fun p => decide (0 < wOf ts p)).map fun p => ((p.1, p.2, wOf ts p) : Arc)).Pairwise fun s t => HT.lexLt (arcL s) (arcL t) = true := by
        rw [List.pairwise_map]
        exact (pwE.filter _).imp fun h => lexLt_arc h
      have key2 : (sumA n ts).Pairwise fun s t => HT.lexLt (arcL s) (arcL t) = true := (sumA_pw n ts).imp fun h => lexLt_arc h
      refine strict_ext (fun s t h h' => lex_asymm _ _ h h') key key2 fun t => ?_
      rw [List.mem_map, mem_sumA]
      constructor
      · rintro ⟨p, hp, rfl⟩
        obtain ⟨h1, h2⟩ := List.mem_filter.mp hp
        obtain ⟨h3, h4⟩ := ltE p h1
        exact ⟨h3, h4, rfl, of_decide_eq_true h2⟩
      · rintro ⟨h1, h2, h3, h4⟩
        refine ⟨(t.1, t.2.1), List.mem_filter.mpr ⟨?_, decide_eq_true (by rw [← h3]; exact h4)⟩, ?_⟩
        · refine (memE _).mpr (Decidable.byContradiction fun c => ?_)
          have := wOf_none (ts := ts) (p := (t.1, t.2.1)) fun r hr e => c ⟨r, hr, e⟩
          omega
        · rw [← h3]
    have lE : L'.length = E'.length := by
      have := congrArg List.length hE
      rw [List.length_map, List.length_map] at this
      exact this
    have lE64 : E'.length ≤ 64 := by
      have := h1'
      have h : L'.length ≤ ks.length := by
        have h0 := nodup_lenG ndE (ys := ks.map (·.2)) fun z hz => by
          obtain ⟨q, hq, rfl⟩ := List.mem_map.mp hz
          exact List.mem_map_of_mem (h1' q (pm.mem_iff.mp hq))
        rw [List.length_map, List.length_map] at h0
        exact h0
      omega
    refine ⟨sz (by show 0 ≤ 100000; decide), fun ou nou => ?_⟩
    have S4 := S3.new (o := .lst []) nou
    generalize upd H3 ou (.lst []) = H4 at S4
    have S5 := S4.swap.sink
    have e5 := S4.swap.exS
    have hu5 : (upd G1 u (.lst (L'.map fun q => V.ref q.1))) u = some (.lst (L'.map fun q => V.ref q.1)) := upd_same
    generalize upd G1 u (.lst (L'.map fun q => V.ref q.1)) = G5 at S5 e5 hu5
    refine ⟨_, rfl, u, rfl, ⟨_, Evl.sq_of (S5.ex _ _ hu5)⟩, for_list (K := K) (a := u) (xs := L'.map fun q => V.ref q.1) (fun i σ H' => ∃ (G' : Hp) (v3 v4 v5 v6 : Option V) (ys : List V), σ = [some (.ref a), some (.ref u), some (.ref ou), v3, v4, v5, v6] ∧ Ex G5 G' ∧ Has G' H' ((ou, .lst ys) :: l) ∧ Ats G' ys ((((E'.take i).filter fun p => decide (0 < wOf ts p)).map fun p => ((p.1, p.2, wOf ts p) : Arc)).map arcD))
      ⟨G5, none, none, none, none, [], rfl, Evl.Ex.refl _, S5, .nil⟩ (fun i σ H' _ h => by
        obtain ⟨G', _, _, _, _, _, _, e, S', _⟩ := h
        exact Evl.sq_of ((e.trans S'.ex) _ _ hu5)) ?_ ?_⟩
    · rintro i x σ H6 hi ⟨G6, v3, v4, v5, v6, ys, rfl, e6, S6, ay⟩
      rw [List.getElem?_map] at hi
      obtain ⟨q, hq, rfl⟩ := Option.map_eq_some_iff.mp hi
      obtain ⟨p, hp, ep⟩ : ∃ p, E'[i]? = some p ∧ prL p = q.2 := by
        have h : (L'.map (·.2))[i]? = some q.2 := by rw [List.getElem?_map, hq]; rfl
        rw [hE, List.getElem?_map] at h
        exact Option.map_eq_some_iff.mp h
      obtain ⟨hlt, hpn⟩ := ltE p (List.mem_of_getElem? hp)
      have hqm := h1' q (pm.mem_iff.mp (List.mem_of_getElem? hq))
      have hqt : H6 q.1 = some (.tup [.int p.1, .int p.2]) := by
        have := S6.ex _ _ (e6 _ _ (e5 _ _ (hks q hqm)))
        rw [← ep] at this
        exact this
      refine ⟨q.1, _, rfl, Evl.st_of hqt, rfl, _, _, rfl, _, _, rfl, rfl, ?_⟩
      have e16 := (e1.trans e5).trans e6
      -- heavy
      refine ⟨_, rfl, a, rfl, ⟨_, Evl.sq_of (ha (l' := [_]) e16 S6)⟩, fun D2 nD2 => ?_⟩
      refine lc_list (K := K) (a := a) (xs := xs) (fun j H' => Has G6 H' ((D2, .lst (((ts.take j).filter fun t => decide (endsA t = p)).map fun t => V.int (t.2.2 : Int))) :: (ou, .lst ys) :: l)) (S6.new nD2) (fun j H' _ S' => Evl.sq_of (ha (l' := [_, _]) e16 S')) ?_ ?_
      · rintro j y H7 hj S7
        obtain ⟨t, ht, ax⟩ := ats_get hx hj
        obtain ⟨b, rfl, hb⟩ := (ax.ex (e16.trans S7.ex)).arc
        obtain ⟨k1, k2, k3⟩ := hok t (List.mem_of_getElem? ht)
        refine ⟨rfl, b, t, p.1, p.2, rfl, rfl, rfl, hb, k3, hlt, fun H8 e8 => ?_⟩
        have S8 := S7.go e8
        have lj : ((ts.take j).filter fun t => decide (endsA t = p)).length ≤ ts.length := Nat.le_trans (List.length_filter_le _ _) (List.length_take_le' _ _)
        cases hc : decide (endsA t = p) with
        | true =>
          refine ⟨_, rfl, .inr ⟨b, _, 2, _, rfl, rfl, Evl.st_of (e8 _ _ hb), rfl, _, S8.get 0 rfl, szl (by rw [List.length_map]; omega), ?_⟩⟩
          rw [filt_yes (f := fun t : Arc => decide (endsA t = p)) ht hc, List.map_append]
          exact S8.set 0 rfl
        | false =>
          show Has G6 H8 _
          rw [filt_no (f := fun t : Arc => decide (endsA t = p)) ht hc]
          exact S8
      · rintro H7 S7
        rw [lx, List.take_length, intW] at S7
        refine ⟨D2, _, rfl, Evl.sq_of (S7.get 0 rfl), ?_⟩
        rw [sum_cast]
        have S8 := S7.tail
        refine ⟨_, rfl, _, _, rfl, rfl, _, rfl, ?_⟩
        have li : ((E'.take i).filter fun p => decide (0 < wOf ts p)).length ≤ E'.length := Nat.le_trans (List.length_filter_le _ _) (List.length_take_le' _ _)
        have ly : ys.length ≤ 64 := by
          rw [ay.1, List.length_map, List.length_map]
          omega
        have ew : ((ts.filter fun t => decide (endsA t = p)).map fun t => t.2.2).sum = wOf ts p := rfl
        rw [ew]
        cases hw : decide (0 < wOf ts p) with
        | true =>
          have hw0 := of_decide_eq_true hw
          rw [show decide (((wOf ts p : Nat) : Int) > 0) = true from decide_eq_true (by omega)]
          refine ⟨_, rfl, .inl ⟨rfl, _, Evl.sq_of (S8.get 0 rfl)⟩, _, rfl, _, rfl, _, rfl, sz (by show 3 ≤ 100000; decide), fun t nt => ?_⟩
          have S9 := S8.new (o := .tup [.int p.1, .int p.2, .int (wOf ts p)]) nt
          have hu9 : At (upd G6 t (.tup [.int p.1, .int p.2, .int (wOf ts p)])) (.ref t) (arcD (p.1, p.2, wOf ts p)) := at_arc (t := (p.1, p.2, wOf ts p)) upd_same
          refine ⟨ou, ys, _, rfl, rfl, S9.get 1 rfl, szl (by omega), ?_⟩
          have S10 : Has (upd G6 t (.tup [.int p.1, .int p.2, .int (wOf ts p)])) _ ((ou, .lst (ys ++ [V.ref t])) :: l) := S9.sink.set 0 rfl
          refine ⟨_, _, _, _, _, ys ++ [V.ref t], rfl, e6.trans S9.exS, S10, ?_⟩
          rw [filt_yes (f := fun p : Nat × Nat => decide (0 < wOf ts p)) hp hw, List.map_append, List.map_append]
          exact (ay.ex S9.exS).snoc hu9
        | false =>
          have hw0 := of_decide_eq_false hw
          rw [show decide (((wOf ts p : Nat) : Int) > 0) = false from decide_eq_false (by omega)]
          refine ⟨G6, _, _, _, _, ys, rfl, e6, S8, ?_⟩
          rw [filt_no (f := fun p : Nat × Nat => decide (0 < wOf ts p)) hp hw]
          exact ay
    · rintro σ H6 ⟨G6, v3, v4, v5, v6, ys, rfl, e6, S6, ay⟩
      rw [List.length_map, lE, List.take_length, fin] at ay
      exact ⟨_, rfl, q G6 H6 ou ys ((e1.trans e5).trans e6) S6 ay⟩
end
end TW
set_option Elab.async false
set_option linter.all false
set_option maxRecDepth 100000
set_option maxHeartbeats 1000000
namespace TW
open PySem PySem.Spec PyProof.Rows L2
theorem wOf_le {ts : List Arc} {B : Nat} (h : ∀ t ∈ ts, t.2.2 ≤ B) (p : Nat × Nat) : wOf ts p ≤ ts.length * B := by
  have key : ∀ l : List Arc, (∀ t ∈ l, t.2.2 ≤ B) → ((l.filter fun t => decide (endsA t = p)).map fun t => t.2.2).sum ≤ l.length * B := by
    intro l
    induction l with
    | nil => intro _; simp
    | cons t l ih =>
      intro h
      have ih := ih fun u hu => h u (List.mem_cons_of_mem _ hu)
      have ht := h t List.mem_cons_self
      rw [List.length_cons, Nat.succ_mul]
      by_cases c : endsA t = p
      · rw [List.filter_cons_of_pos (p := fun t => decide (endsA t = p)) (decide_eq_true c), List.map_cons, List.sum_cons]
        omega
      · rw [List.filter_cons_of_neg (p := fun t => decide (endsA t = p)) (by rw [decide_eq_false c]; decide)]
        omega
  exact key ts h
theorem pairs36 : ∀ {n : Nat}, n ≤ 9 → (pairsN n).length ≤ 36
  | 0, _ => by decide
  | 1, _ => by decide
  | 2, _ => by decide
  | 3, _ => by decide
  | 4, _ => by decide
  | 5, _ => by decide
  | 6, _ => by decide
  | 7, _ => by decide
  | 8, _ => by decide
  | 9, _ => by decide
  | n + 10, h => absurd h (by omega)
theorem sumA_36 {n : Nat} (h : n ≤ 9) (ts : List Arc) : (sumA n ts).length ≤ 36 := by
  unfold sumA
  rw [List.length_map]
  exact Nat.le_trans (List.length_filter_le _ _) (pairs36 h)
theorem sumA_le {n : Nat} {ts : List Arc} {B : Nat} (h : ∀ t ∈ ts, t.2.2 ≤ B) : ∀ t ∈ sumA n ts, t.2.2 ≤ ts.length * B := fun t ht => by
  rw [(mem_sumA.mp ht).2.2.1]
  exact wOf_le h _
theorem sumA_of {n : Nat} {ts us : List Arc} (h : ∀ p, p.1 < p.2 → p.2 < n → wOf ts p = wOf us p) : sumA n ts = sumA n us := by
  have e : ∀ p ∈ pairsN n, wOf ts p = wOf us p := fun p hp => h p (mem_pairsN.mp hp).1 (mem_pairsN.mp hp).2
  show ((pairsN n).filter fun p => decide (0 < wOf ts p)).map (fun p => (p.1, p.2, wOf ts p)) = ((pairsN n).filter fun p => decide (0 < wOf us p)).map fun p => (p.1, p.2, wOf us p)
  rw [show ((pairsN n).filter fun p => decide (0 < wOf ts p)) = (pairsN n).filter fun p => decide (0 < wOf us p) from filt_congr fun p hp => by rw [e p hp]]
  exact List.map_congr_left fun p hp => by rw [e p (List.mem_filter.mp hp).1]
theorem wOf_cons (t : Arc) (ts : List Arc) (p : Nat × Nat) : wOf (t :: ts) p = (if endsA t = p then t.2.2 else 0) + wOf ts p := by
  unfold wOf
  by_cases h : endsA t = p
  · rw [if_pos h, List.filter_cons_of_pos (p := fun t => decide (endsA t = p)) (decide_eq_true h), List.map_cons, List.sum_cons]
  · rw [if_neg h, List.filter_cons_of_neg (p := fun t => decide (endsA t = p)) (by rw [decide_eq_false h]; decide), Nat.zero_add]
theorem endsA_swap (a b w v : Nat) : endsA (a, b, w) = endsA (b, a, v) := by
  unfold endsA
  show (min a b, max a b) = (min b a, max b a)
  rw [Nat.min_comm, Nat.max_comm]
theorem ats_eraseW {H : Hp} : ∀ {xs : List V} {ds : List PyData}, Ats H xs ds → ∀ i, Ats H (xs.eraseIdx i) (ds.eraseIdx i)
  | [], [], _, _ => .nil
  | x :: xs, d :: ds, h, 0 => h.rest
  | x :: xs, d :: ds, h, i + 1 => .cons h.head (ats_eraseW h.rest i)
  | [], _ :: _, h, _ => absurd h.1 (by simp)
  | _ :: _, [], h, _ => absurd h.1 (by simp)
theorem map_eraseW {α β : Type} (f : α → β) : ∀ (l : List α) (i : Nat), (l.map f).eraseIdx i = (l.eraseIdx i).map f
  | [], _ => rfl
  | _ :: _, 0 => rfl
  | x :: l, i + 1 => congrArg (f x :: ·) (map_eraseW f l i)
theorem shaped_arcsL (ts : List Arc) : SeqAt.shaped (.list (ts.map arcD)) = true := by
  have h := shaped_arcs ts
  unfold SeqAt.shaped at h ⊢
  have e : (PyData.list (ts.map arcD)).depth = (PyData.tuple (ts.map arcD)).depth := by simp [PyData.depth]
  rw [e]
  exact h
theorem eqv_nilW (ds : List PyData) : PyData.eqv (.list ds) (.list []) = decide (ds = []) := by
  cases ds with
  | nil => rfl
  | cons n ns => simp [PyData.eqv, PyData.eqvAll]
/-- (high, low, heavy) or (low, high, heavy), as the well says; slots 3, 4, 5 -/
def tArcF : TE := fun σ H Q => ∃ (G : Hp) (l : List (Addr × HO)) (p : Addr) (o : HO) (k lo hi w : Nat), σ[0]? = some (some (.ref p)) ∧ σ[3]? = some (some (.int lo)) ∧ σ[4]? = some (some (.int hi)) ∧ σ[5]? = some (some (.int w)) ∧ Has G H ((p, o) :: l) ∧ WellO k o ∧ k < 10 ^ 8 ∧
  ∀ (H' : Hp) (o' : HO) (u : Addr) (t : Arc), Has G H' ((u, .tup [.int t.1, .int t.2.1, .int t.2.2]) :: (p, o') :: l) → WellO (k + 1) o' → (t = (lo, hi, w) ∨ t = (hi, lo, w)) → Q (.ref u) H'
/-- the tie is between both -/
def hitB (one two : Nat) (t : Arc) : Bool := decide (one = t.1 ∨ one = t.2.1) && decide (two = t.1 ∨ two = t.2.1)
theorem hit_ends {one two : Nat} {t : Arc} (h : one ≠ two) (ht : t.1 ≠ t.2.1) : hitB one two t = decide (endsA t = (min one two, max one two)) := by
  unfold hitB endsA
  rw [Bool.eq_iff_iff, Bool.and_eq_true, decide_eq_true_eq, decide_eq_true_eq, decide_eq_true_eq, Prod.mk.injEq]
  omega
/-- one in arc[:2] and two in arc[:2]; the slots -/
def tHit (i j k : Nat) : TT := fun σ H Q => ∃ (b : Addr) (t : Arc) (one two : Nat), σ[k]? = some (some (.ref b)) ∧ σ[i]? = some (some (.int one)) ∧ σ[j]? = some (some (.int two)) ∧ H b = some (.tup [.int t.1, .int t.2.1, .int t.2.2]) ∧ ∀ H', Ex H H' → Q (hitB one two t) H'
def tMiss (i j k : Nat) : TT := fun σ H Q => ∃ (b : Addr) (t : Arc) (one two : Nat), σ[k]? = some (some (.ref b)) ∧ σ[i]? = some (some (.int one)) ∧ σ[j]? = some (some (.int two)) ∧ H b = some (.tup [.int t.1, .int t.2.1, .int t.2.2]) ∧ ∀ H', Ex H H' → Q (!hitB one two t) H'
theorem in2 {one a b : Nat} : decide ((one : Int) ∈ [(a : Int), (b : Int)]) = decide (one = a ∨ one = b) := by
  rw [decide_eq_decide]
  simp only [List.mem_cons, List.not_mem_nil, or_false]
  omega
section
variable {P : Program} {w : World} {K : PySem.W.Frag} {mg : Str → Option Value} {base : Heap} {C N : Addr}
/-! _law_retold -/
abbrev NRT : List Str := ["well", "arcs", "out", "low", "high", "heavy", "part_of"]
theorem sc_law_retold : FnScope NRT ["well", "arcs"] (defScope s__law_retold) := ⟨rfl, rfl, rfl, by decide +kernel, rfl, by decide +kernel, by decide +kernel⟩
def spRetold : Sp := fun vs H Q _ => ∃ (G : Hp) (l : List (Addr × HO)) (p ta : Addr) (o : HO) (k n : Nat) (ys : List V) (ts : List Arc), vs = [.ref p, .ref ta] ∧ Has G H ((p, o) :: l) ∧ WellO k o ∧ k < 10 ^ 6 ∧ G ta = some (.lst ys) ∧ Ats G ys (ts.map arcD) ∧ (∀ t ∈ ts, arcOk n t) ∧ (∀ t ∈ ts, t.2.2 ≤ 10 ^ 18) ∧ ts.length ≤ 500 ∧
  ∀ (G' H' : Hp) (o' : HO) (t : Addr) (xs : List V) (rs : List Arc), Ex G G' → Has G' H' ((t, .lst xs) :: (p, o') :: l) → WellO (k + 3000) o' → Ats G' xs (rs.map arcD) → (∀ t ∈ rs, arcOk n t) → rs.length ≤ ts.length + 1 → (∀ p, wOf rs p = wOf ts p) → Q (.ref t) H'
theorem ok_retold (D : Dfn K mg "_law_retold" s__law_retold ["well", "arcs"]) (z : Z mg) (O_dip : Ok P w K mg base 1 "_law_dip" ["well", "upto"] spDipW) (O_mixed : Ok P w K mg base 2 "_law_mixed" ["well", "row"] (spMixed K)) : Ok P w K mg base 3 "_law_retold" ["well", "arcs"] spRetold := D.ok fun f fd F => by
  refine F.ok sc_law_retold (fun vs H Q E h => ?_) (fun cdv A outer s H vs Q E hr h => ?_)
  · obtain ⟨G, l, p, ta, o, k, n, ys, ts, rfl, _⟩ := h
    rfl
  · obtain ⟨G, l, p, ta, o, k, n, ys, ts, rfl, S, wo, hk, hta, hy, hok, hle, lts, q⟩ := h
    refine ⟨_, (pss_cons (ps_setLc (i := 2) (own := [("low", 3), ("high", 4), ("heavy", 5)]) (g := gTup K 3 (gCons (gName 3) (gCons (gName 4) (gCons (gName 5) gNil)))) rfl sc_law_retold.nd rfl rfl (sw_true rfl rfl rfl (by decide +kernel)) (pi_list (pv 1)) (blkOk_by (N := NRT) (own := [("low", 3), ("high", 4), ("heavy", 5)]) (sc := defScope s__law_retold) (by decide +kernel)) (fun _ _ _ _ _ => pg_tup rfl (pgs_cons (pg_name (i := 3) sc_law_retold.nd rfl (Or.inl rfl)) (pgs_cons (pg_name (i := 4) sc_law_retold.nd rfl (Or.inl rfl)) (pgs_cons (pg_name (i := 5) sc_law_retold.nd rfl (Or.inl rfl)) pgs_nil)))) (fun _ _ _ _ _ => pts_nil)
        (fun _ _ _ _ _ => PE.imp (t' := tArcF) (pe_ifExp (pt_cmpR op_eq (pe_o O_dip (hr.mono (by decide)) (pa_cons (pv 0) (pa_cons pe_int pa_nil))) pe_int (nomark _)) (pe_tup (pa_cons (pv 4) (pa_cons (pv 3) (pa_cons (pv 5) pa_nil)))) (pe_tup (pa_cons (pv 3) (pa_cons (pv 4) (pa_cons (pv 5) pa_nil))))) (fun σ H Q h => by
            obtain ⟨G, l, p, o, k, lo, hi, w, h0, h3, h4, h5, S, wo, hk, q⟩ := h
            refine ⟨_, h0, p, 3, o, k, rfl, S.get 0 rfl, wo, by omega, by decide, by decide, fun r o1 hr1 wo1 => ⟨rfl, _, rfl, ?_⟩⟩
            have S1 : Has G _ ((p, o1) :: l) := S.set 0 rfl
            generalize upd H p o1 = H1 at S1
            refine ite2 (fun _ => ?_) (fun _ => ?_)
            · exact ⟨_, h4, _, h3, _, h5, sz (by show 3 ≤ 100000; decide), fun u nu => q _ o1 u (hi, lo, w) (S1.new nu) wo1 (.inr rfl)⟩
            · exact ⟨_, h3, _, h4, _, h5, sz (by show 3 ≤ 100000; decide), fun u nu => q _ o1 u (lo, hi, w) (S1.new nu) wo1 (.inl rfl)⟩)))
      (pss_cons (ps_if (PW.pt (pw_and (pt_cmpR (op_neDK (K := K) hr.units) (pv 2) (pe_lst pa_nil) (nomark _)) (pw_and1 (pt_cmpR op_gt (pe_o O_dip (hr.mono (by decide)) (pa_cons (pv 0) (pa_cons pe_int pa_nil))) pe_int (nomark _)))))
        (pss_cons (ps_asg (pe_bm PySem.F.plainAttrs_list PySem.F.slot_list_pop PySem.F.type_list_pop mt_popAt (pv 2) (pa_cons (pe_o O_dip (hr.mono (by decide)) (pa_cons (pv 0) (pa_cons (pe_callB call_len_seq (by rfl) z.len PySem.boot_len (pa_cons (pv 2) pa_nil)) pa_nil))) pa_nil)) (pg_tup rfl (pgs_cons (pg_name (i := 3) sc_law_retold.nd rfl (Or.inl rfl)) (pgs_cons (pg_name (i := 4) sc_law_retold.nd rfl (Or.inl rfl)) (pgs_cons (pg_name (i := 5) sc_law_retold.nd rfl (Or.inl rfl)) pgs_nil)))))
        (pss_cons (ps_set (i := 6) sc_law_retold.nd rfl (Or.inl rfl) (pe_o O_dip (hr.mono (by decide)) (pa_cons (pv 0) (pa_cons (pe_op op_add (pv 5) pe_int) pa_nil))))
        (pss_one (ps_set (i := 2) sc_law_retold.nd rfl (Or.inl rfl) (pe_op op_cat (pv 2) (pe_lst (pa_cons (pe_tup (pa_cons (pv 3) (pa_cons (pv 4) (pa_cons (pv 6) pa_nil)))) (pa_cons (pe_tup (pa_cons (pv 4) (pa_cons (pv 3) (pa_cons (pe_op op_sub (pv 5) (pv 6)) pa_nil)))) pa_nil)))))))) pss_nil)
      (pss_one (ps_ret (pe_o O_mixed hr (pa_cons (pv 0) (pa_cons (pv 2) pa_nil))))))), ?_⟩
    have ly : ys.length = ts.length := by rw [hy.1, List.length_map]
    refine ⟨_, rfl, ta, rfl, ⟨_, Evl.sq_of (S.ex _ _ hta)⟩, fun ou nou => ?_⟩
    refine lc_list (K := K) (a := ta) (xs := ys) (fun i H' => ∃ (G' : Hp) (o' : HO) (xs : List V) (rs : List Arc), Ex G G' ∧ Has G' H' ((ou, .lst xs) :: (p, o') :: l) ∧ WellO (k + i) o' ∧ Ats G' xs (rs.map arcD) ∧ (∀ t ∈ rs, arcOk n t ∧ t.2.2 ≤ 10 ^ 18) ∧ rs.length = i ∧ ∀ p, wOf rs p = wOf (ts.take i) p)
      ⟨G, o, [], [], Evl.Ex.refl _, S.new nou, wo, .nil, fun t h => absurd h List.not_mem_nil, rfl, fun p => rfl⟩ (fun i H' _ h => by
        obtain ⟨G', _, _, _, e, S', _⟩ := h
        exact Evl.sq_of ((e.trans S'.ex) _ _ hta)) ?_ ?_
    · rintro i x H1 hi ⟨G1, o1, xs, rs, e1, S1, w1, ax, rok, lrs, ew⟩
      obtain ⟨t, ht, at_⟩ := ats_get hy hi
      have hi2 := (List.getElem?_eq_some_iff.mp ht).1
      obtain ⟨k1, k2, k3⟩ := hok t (List.mem_of_getElem? ht)
      have kb := hle t (List.mem_of_getElem? ht)
      obtain ⟨b, rfl, hb⟩ := (at_.ex (e1.trans S1.ex)).arc
      have lx : xs.length = rs.length := by rw [ax.1, List.length_map]
      refine ⟨b, _, rfl, Evl.st_of hb, rfl, _, _, rfl, _, _, rfl, _, _, rfl, rfl, rfl, ?_⟩
      refine ⟨G1, _, p, o1, _, t.1, t.2.1, t.2.2, rfl, rfl, rfl, rfl, S1.swap, w1, by omega, fun H2 o2 u r S2 w2 hr2 => ?_⟩
      have S3 := S2.sink.swap
      have e3 := S2.exS
      have hu : At (upd G1 u (.tup [.int r.1, .int r.2.1, .int r.2.2])) (.ref u) (arcD r) := at_arc upd_same
      generalize upd G1 u (.tup [.int r.1, .int r.2.1, .int r.2.2]) = G3 at S3 e3 hu
      refine ⟨xs, S3.get 0 rfl, szl (by omega), G3, o2, xs ++ [V.ref u], rs ++ [r], e1.trans e3, S3.set 0 rfl, w2.up (by omega), ?_, fun s hs => ?_, by rw [List.length_append, lrs]; rfl, fun pq => ?_⟩
      · rw [List.map_append]
        exact (ax.ex e3).snoc hu
      · rcases List.mem_append.mp hs with h | h
        · exact rok s h
        · rw [List.mem_singleton.mp h]
          rcases hr2 with rfl | rfl
          · exact ⟨⟨k1, k2, k3⟩, kb⟩
          · exact ⟨⟨k2, k1, fun e => k3 e.symm⟩, kb⟩
      · rw [take_snoc ht, wOf_snoc, wOf_snoc, ew]
        have e1 : endsA r = endsA t ∧ r.2.2 = t.2.2 := by
          rcases hr2 with rfl | rfl
          · exact ⟨rfl, rfl⟩
          · exact ⟨endsA_swap _ _ _ _, rfl⟩
        rw [e1.1, e1.2]
    rintro H1 ⟨G1, o1, xs, rs, e1, S1, w1, ax, rok, lrs, ew⟩
    rw [ly, List.take_length] at ew
    have lx : xs.length = rs.length := by rw [ax.1, List.length_map]
    have ending : ∀ (σ : L2.St) (G2 H2 : Hp) (ou2 : Addr) (o2 : HO) (xs2 : List V) (rs2 : List Arc), σ[0]? = some (some (.ref p)) → σ[2]? = some (some (.ref ou2)) → Ex G G2 → Has G2 H2 ((ou2, .lst xs2) :: (p, o2) :: l) → WellO (k + 600) o2 → Ats G2 xs2 (rs2.map arcD) → (∀ t ∈ rs2, arcOk n t) → rs2.length ≤ ts.length + 1 → (∀ p, wOf rs2 p = wOf ts p) → tCall (spMixed K) [] E0 (tCons (tVar 0) (tCons (tVar 2) tNil)) σ H2 Q := fun σ G2 H2 ou2 o2 xs2 rs2 h0 h2 e2 S2 w2 a2 ok2 l2 ew2 => by
      have lx2 : xs2.length = rs2.length := by rw [a2.1, List.length_map]
      refine ⟨_, h0, _, h2, G2, _, p, ou2, o2, _, xs2, rfl, S2.swap, w2, by omega, Evl.sq_of (S2.get 0 rfl), fun e => ?_, by omega, fun H3 o3 t rs3 S3 w3 pm => ?_⟩
      · have := S2.nd
        rw [List.map_cons, List.map_cons, List.nodup_cons] at this
        exact this.1 (by rw [e]; exact List.mem_cons_self)
      obtain ⟨us, pu, au⟩ := ats_permW pm a2
      exact q G2 H3 o3 t rs3 us e2 (S3.sub (((List.sublist_cons_self _ _).cons₂ _).cons₂ _)) (w3.up (by omega)) au (fun t ht => ok2 t (pu.mem_iff.mp ht)) (by rw [pu.length_eq]; exact l2) (fun pq => by rw [wOf_perm pu, ew2])
    refine ⟨_, rfl, sz (by show 0 ≤ 100000; decide), fun e ne => ?_⟩
    have S2 := S1.newE (o := .lst []) (Evl.Ex.new (o := .lst []) ne) ne upd_same
    refine ⟨.list (rs.map arcD), .list [], (At.mkL (S2.get 1 rfl) (ax.ex S2.ex)).dp, .lst (Evl.sq_of (S2.get 0 rfl)) .nil, shaped_arcsL rs, rfl, _, rfl, ?_⟩
    generalize upd H1 e (.lst []) = H2 at S2
    have S3 := S2.tail
    rw [eqv_nilW]
    refine ite2 (fun hc => ?_) (fun _ => ending _ G1 H2 ou o1 xs rs rfl rfl e1 S3 (w1.up (by omega)) ax (fun t ht => (rok t ht).1) (by omega) ew)
    have nrs : rs ≠ [] := fun e0 => by
      rw [e0] at hc
      exact absurd hc (by decide)
    have pos : 0 < xs.length := by
      have := List.length_pos_iff.mpr nrs
      omega
    refine ⟨_, rfl, p, 3, o1, _, rfl, S3.get 1 rfl, w1, by omega, by decide, by decide, fun r o2 hr2 w2 => ?_⟩
    have S4 : Has G1 _ ((ou, .lst xs) :: (p, o2) :: l) := S3.set 1 rfl
    generalize upd H2 p o2 = H4 at S4
    refine ⟨_, _, rfl, rfl, _, rfl, ?_⟩
    refine ite2 (fun _ => ?_) (fun _ => ending _ G1 H4 ou o2 xs rs rfl rfl e1 S4 (w2.up (by omega)) ax (fun t ht => (rok t ht).1) (by omega) ew)
    have sq := Evl.sq_of (K := K) (S4.get 0 rfl)
    have big : ((xs.length : Nat) : Int) < 2 ^ 200 := Int.lt_of_le_of_lt (show ((xs.length : Nat) : Int) ≤ 1000 by omega) (by decide)
    refine ⟨_, rfl, .inl ⟨rfl, _, sq⟩, _, rfl, _, rfl, ou, _, rfl, .inl sq, p, xs.length, o2, _, rfl, S4.get 1 rfl, w2, by omega, pos, big, fun r2 o3 hr3 w3 => ?_⟩
    have S5 : Has G1 _ ((ou, .lst xs) :: (p, o3) :: l) := S4.set 1 rfl
    generalize upd H4 p o3 = H5 at S5
    have hg : xs[r2]? = some xs[r2] := List.getElem?_eq_getElem hr3
    obtain ⟨t, ht, at_⟩ := ats_get ax hg
    obtain ⟨⟨k1, k2, k3⟩, kb⟩ := rok t (List.mem_of_getElem? ht)
    refine ⟨ou, xs, ((r2 : Nat) : Int), r2, xs[r2], rfl, rfl, S5.get 0 rfl, by omega, by omega, (PyProof.Rows.seqIndex_at (by omega) (by omega)).trans (by rw [Int.toNat_natCast]), hg, ?_⟩
    have S6 : Has G1 _ ((ou, .lst (xs.eraseIdx r2)) :: (p, o3) :: l) := S5.set 0 rfl
    obtain ⟨b, eb, hb⟩ := (at_.ex S6.ex).arc
    rw [eb]
    have ax6 : Ats G1 (xs.eraseIdx r2) ((rs.eraseIdx r2).map arcD) := by
      rw [← map_eraseW]
      exact ats_eraseW ax r2
    have lx6 : (xs.eraseIdx r2).length ≤ xs.length := List.length_eraseIdx_le _ _
    generalize upd H5 ou (.lst (xs.eraseIdx r2)) = H6 at S6 hb
    refine ⟨b, _, rfl, Evl.st_of hb, rfl, _, _, rfl, _, _, rfl, _, _, rfl, rfl, ?_⟩
    have big2 : ((t.2.2 + 1 : Nat) : Int) < 2 ^ 200 := Int.lt_of_le_of_lt (show ((t.2.2 + 1 : Nat) : Int) ≤ 10 ^ 18 + 1 by omega) (by decide)
    refine ⟨_, rfl, _, rfl, _, _, rfl, rfl, p, t.2.2 + 1, o3, _, rfl, S6.get 1 rfl, w3, by omega, by omega, big2, fun r4 o4 hr4 w4 => ?_⟩
    have S7 : Has G1 _ ((ou, .lst (xs.eraseIdx r2)) :: (p, o4) :: l) := S6.set 1 rfl
    generalize upd H6 p o4 = H7 at S7
    refine ⟨_, rfl, _, rfl, _, rfl, _, rfl, sz (by show 3 ≤ 100000; decide), fun u1 nu1 => ?_⟩
    have S8' := S7.new (o := .tup [.int t.1, .int t.2.1, .int r4]) nu1
    have S8 := S8'.sink
    have e8 := S8'.exS
    have a1 : At (upd G1 u1 (.tup [.int t.1, .int t.2.1, .int r4])) (.ref u1) (arcD (t.1, t.2.1, r4)) := at_arc (t := (t.1, t.2.1, r4)) upd_same
    generalize upd H7 u1 (.tup [.int t.1, .int t.2.1, .int r4]) = H8 at S8
    generalize upd G1 u1 (.tup [.int t.1, .int t.2.1, .int r4]) = G8 at S8 e8 a1
    refine ⟨_, rfl, _, rfl, _, rfl, _, rfl, _, _, rfl, rfl, sz (by show 3 ≤ 100000; decide), fun u2 nu2 => ?_⟩
    have S9' := S8.new (o := .tup [.int t.2.1, .int t.1, .int ((t.2.2 : Int) - (r4 : Int))]) nu2
    have S9 := S9'.sink
    have e9 := S9'.exS
    have a2 : At (upd G8 u2 (.tup [.int t.2.1, .int t.1, .int ((t.2.2 : Int) - (r4 : Int))])) (.ref u2) (arcD (t.2.1, t.1, t.2.2 - r4)) := by
      have h : (upd G8 u2 (.tup [.int t.2.1, .int t.1, .int ((t.2.2 : Int) - (r4 : Int))])) u2 = some (.tup [.int t.2.1, .int t.1, .int ((t.2.2 : Int) - (r4 : Int))]) := upd_same
      rw [show (t.2.2 : Int) - (r4 : Int) = ((t.2.2 - r4 : Nat) : Int) by omega] at h ⊢
      exact at_arc (t := (t.2.1, t.1, t.2.2 - r4)) h
    generalize upd H8 u2 (.tup [.int t.2.1, .int t.1, .int ((t.2.2 : Int) - (r4 : Int))]) = H9 at S9
    generalize upd G8 u2 (.tup [.int t.2.1, .int t.1, .int ((t.2.2 : Int) - (r4 : Int))]) = G9 at S9 e9 a2
    refine ⟨sz (by show 2 ≤ 100000; decide), fun l1 nl1 => ?_⟩
    have S10 := S9.new (o := .lst [.ref u1, .ref u2]) nl1
    refine ⟨ou, l1, _, [.ref u1, .ref u2], rfl, rfl, S10.get 1 rfl, S10.get 0 rfl, sz (by show (xs.eraseIdx r2).length + 2 ≤ 100000; omega), fun q2 nq2 => ?_⟩
    have S11 : Has G9 _ ((q2, .lst (xs.eraseIdx r2 ++ [.ref u1, .ref u2])) :: (p, o4) :: l) := (S10.new (o := .lst (xs.eraseIdx r2 ++ [.ref u1, .ref u2])) nq2).drop2.drop2
    have pe : (t :: rs.eraseIdx r2).Perm rs := perm_erase ht
    have le : (rs.eraseIdx r2).length + 1 = rs.length := by
      have := pe.length_eq
      rw [List.length_cons] at this
      exact this
    refine ending _ G9 _ q2 o4 _ (rs.eraseIdx r2 ++ [(t.1, t.2.1, r4), (t.2.1, t.1, t.2.2 - r4)]) rfl rfl ((e1.trans e8).trans e9) S11 (w4.up (by omega)) ?_ (fun s hs => ?_) (by rw [List.length_append]; show (rs.eraseIdx r2).length + 2 ≤ _; omega) (fun pq => ?_)
    · rw [List.map_append]
      exact ((ax6.ex e8).ex e9).append (.cons (a1.ex e9) (.cons a2 .nil))
    · rcases List.mem_append.mp hs with h | h
      · exact (rok s (pe.mem_iff.mp (List.mem_cons_of_mem _ h))).1
      · simp only [List.mem_cons, List.not_mem_nil, or_false] at h
        rcases h with rfl | rfl
        · exact ⟨k1, k2, k3⟩
        · exact ⟨k2, k1, fun e => k3 e.symm⟩
    · rw [show rs.eraseIdx r2 ++ [(t.1, t.2.1, r4), (t.2.1, t.1, t.2.2 - r4)] = (rs.eraseIdx r2 ++ [(t.1, t.2.1, r4)]) ++ [(t.2.1, t.1, t.2.2 - r4)] by simp, wOf_snoc, wOf_snoc, ← ew, ← wOf_perm pe, wOf_cons]
      rw [show endsA (t.1, t.2.1, r4) = endsA t from rfl, show endsA (t.2.1, t.1, t.2.2 - r4) = endsA t from endsA_swap _ _ _ _]
      show wOf (rs.eraseIdx r2) pq + (if endsA t = pq then r4 else 0) + (if endsA t = pq then t.2.2 - r4 else 0) = _
      split <;> omega
end
end TW
set_option Elab.async false
set_option linter.all false
set_option maxRecDepth 100000
set_option maxHeartbeats 1000000
namespace TW
open PySem PySem.Spec PyProof.Rows L2
theorem hit_wOf {ts : List Arc} (hts : ∀ t ∈ ts, t.1 ≠ t.2.1) {one two : Nat} (h : one ≠ two) : ((ts.filter fun t => hitB one two t).map fun t => t.2.2).sum = wOf ts (min one two, max one two) := by
  unfold wOf
  rw [filt_congr fun t ht => hit_ends h (hts t ht)]
section
variable {P : Program} {w : World} {K : PySem.W.Frag} {mg : Str → Option Value} {base : Heap} {C N : Addr}
/-! _law_heavy_at -/
abbrev NHA : List Str := ["arcs", "one", "two", "arc"]
def spHeavyAt (K : PySem.W.Frag) : Sp := fun vs H Q _ => ∃ (a : Addr) (one two : Nat) (xs : List V) (ts : List Arc), vs = [.ref a, .int one, .int two] ∧ SqL K H a xs ∧ Ats H xs (ts.map arcD) ∧ ts.length ≤ 1000 ∧ ∀ H', Ex H H' → Q (.int (((ts.filter fun t => hitB one two t).map fun t => t.2.2).sum : Nat)) H'
/-! _law_arcs_with -/
abbrev NAW : List Str := ["arcs", "one", "two", "heavy", "rest", "arc"]
def withA (ts : List Arc) (one two w : Nat) : List Arc := (ts.filter fun t => !hitB one two t) ++ [(one, two, w)]
def spArcsWith : Sp := fun vs H Q _ => ∃ (G : Hp) (l : List (Addr × HO)) (a : Addr) (one two w n : Nat) (xs : List V) (ts : List Arc), vs = [.ref a, .int one, .int two, .int w] ∧ Has G H l ∧ G a = some (.lst xs) ∧ Ats G xs (ts.map arcD) ∧ (∀ t ∈ ts, arcOk n t) ∧ ts.length ≤ 60 ∧ n ≤ 100 ∧ one < n ∧ two < n ∧ one ≠ two ∧
  ∀ (G' H' : Hp) (u : Addr) (ys : List V), Ex G G' → Has G' H' ((u, .lst ys) :: l) → Ats G' ys ((sumA n (withA ts one two w)).map arcD) → Q (.ref u) H'
end
end TW
set_option Elab.async false
set_option linter.all false
set_option maxRecDepth 100000
set_option maxHeartbeats 1000000
namespace TW
open PySem PySem.Spec PyProof.Rows L2
theorem op_eqDK {X : Cx} {K : PySem.W.Frag} (hu : X.A.units + 64 < cLine) (h : X.K = K := by rfl) : OpR X (compareOp .Eq) (rEqD K) := by
  subst h
  exact op_eqD hu
theorem eqv_pr (p q : Nat × Nat) : PyData.eqv (prD p) (prD q) = decide (p = q) := by
  unfold prD
  rw [eqvW_tupD, Bool.eq_iff_iff, decide_eq_true_eq, decide_eq_true_eq]
  exact ⟨prL_inj, fun h => by rw [h]⟩
theorem shaped_pr (p : Nat × Nat) : SeqAt.shaped (prD p) = true := by
  unfold SeqAt.shaped prD
  rw [Bool.and_eq_true, decide_eq_true_eq]
  refine ⟨lay_ints (prL p), ?_⟩
  have := depth_tupD (prL p)
  omega
theorem net_ends {n : Nat} {ts : List Arc} (h : Net n ts) {t : Arc} (ht : t ∈ ts) : endsA t = (t.1, t.2.1) := by
  obtain ⟨h1, _⟩ := h.ok t ht
  unfold endsA
  rw [Nat.min_eq_left (by omega), Nat.max_eq_right (by omega)]
def lessA (ts : List Arc) (E : Nat × Nat) : List Arc := ts.filter fun t => !decide ((t.1, t.2.1) = E)
theorem less_with {n : Nat} {ts : List Arc} (h : Net n ts) {p q : Nat} (hpq : p ≠ q) (w : Nat) : lessA ts (min p q, max p q) ++ [(p, q, w)] = withA ts p q w := by
  unfold lessA withA
  rw [filt_congr (g := fun t => !hitB p q t) fun t ht => by
    obtain ⟨h1, _⟩ := h.ok t ht
    rw [hit_ends hpq (show t.1 ≠ t.2.1 by omega), net_ends h ht]]
theorem net_wOf {n : Nat} {ts : List Arc} (h : Net n ts) (E : Nat × Nat) : ((ts.filter fun t => decide ((t.1, t.2.1) = E)).map fun t => t.2.2).sum = wOf ts E := by
  unfold wOf
  rw [filt_congr (g := fun t => decide (endsA t = E)) fun t ht => by rw [net_ends h ht]]
section
variable {P : Program} {w : World} {K : PySem.W.Frag} {mg : Str → Option Value} {base : Heap} {C N : Addr}
/-! check_place, check_other_place, check_weight -/
theorem sc_check_place : FnScope ["place", "places"] ["place", "places"] (defScope s_check_place) := ⟨rfl, rfl, rfl, by decide +kernel, rfl, by decide +kernel, by decide +kernel⟩
def spCheckPlace : Sp := fun vs H Q _ => ∃ p n : Nat, vs = [.int p, .int n] ∧ p < n ∧ Q .non H
theorem ok_check_place (D : Dfn K mg "check_place" s_check_place ["place", "places"]) (O_is_place : Ok P w K mg base 2 "is_place" ["value", "places"] spIsPlace) : Ok P w K mg base 3 "check_place" ["place", "places"] spCheckPlace := D.ok fun f fd F => by
  refine F.ok sc_check_place (fun vs H Q E h => ?_) (fun cdv A outer s H vs Q E hr h => ?_)
  · obtain ⟨p, n, rfl, _⟩ := h
    rfl
  · obtain ⟨p, n, rfl, hp, q⟩ := h
    refine ⟨_, (pss_one (ps_if (pt_not (pt_val (pe_o O_is_place hr (pa_cons (pv 0) (pa_cons (pv 1) pa_nil))))) (pss_one ps_never) pss_nil)), ?_⟩
    refine ⟨_, rfl, _, rfl, _, _, rfl, ?_⟩
    have b1 : (decide (0 ≤ (p : Int)) && decide ((p : Int) < (n : Int))) = true := by rw [Bool.and_eq_true]; exact ⟨decide_eq_true (by omega), decide_eq_true (by omega)⟩
    rw [b1]
    exact ⟨_, rfl, q⟩
def spCheckOther : Sp := fun vs H Q _ => ∃ q p n : Nat, vs = [.int q, .int p, .int n] ∧ q < n ∧ q ≠ p ∧ Q .non H
def spCheckWeight : Sp := fun vs H Q _ => ∃ p : Nat, vs = [.int p] ∧ Q .non H
/-! weight_of -/
abbrev NWO2 : List Str := ["web", "place", "other_place", "ends", "low", "high", "weight"]
def spWeightOf (C : Addr) : Sp := fun vs H Q _ => ∃ (a : Addr) (p q n : Nat) (ts : List Arc), vs = [.ref a, .int p, .int q] ∧ WebAt C H a n ts ∧ Net n ts ∧ p < n ∧ q < n ∧ p ≠ q ∧ ∀ H', Ex H H' → Q (.int (wOf ts (min p q, max p q) : Nat)) H'
def spTiesWithout (C : Addr) : Sp := fun vs H Q _ => ∃ (G : Hp) (l : List (Addr × HO)) (a : Addr) (p q n : Nat) (ts : List Arc), vs = [.ref a, .int p, .int q] ∧ Has G H l ∧ WebAt C G a n ts ∧ ts.length ≤ 1000 ∧
  ∀ (G' H' : Hp) (t : Addr) (xs : List V), Ex G G' → Has G' H' ((t, .lst xs) :: l) → Ats G' xs ((lessA ts (min p q, max p q)).map arcD) → Q (.ref t) H'
/-! a web made -/
theorem webs_made {f : Addr} {fd : FuncData} (M : WM P w K mg base C f fd) {G H : Hp} {l : List (Addr × HO)} {n : Nat} {ll : Addr} {xs : List V} {ts : List Arc} {R : Hp → Prop} {x dx : Addr} (nx : H x = none) (ndx : H dx = none) (hne : x ≠ dx) (S : Has G H l) (st : Stays G l ll (.lst xs)) (hx : Ats G xs (ts.map arcD)) (hok : ∀ t ∈ ts, arcOk n t) (lts : ts.length ≤ 1000) (hn : 0 < n) (hn100 : n ≤ 100)
    (k : ∀ (G' H' : Hp), Ex G G' → Has G' H' l → WebAt C G' x n (sumA n ts) → R H') : spWInit C [.ref x, .int n, .ref ll] (upd (upd H dx (.own x)) x (.ins C dx [])) (fun z H' => z = .non ∧ R H') E0 := by
  have W1 := S.new (o := .own x) ndx
  have nx1 : (upd H dx (.own x)) x = none := by rw [upd_ne hne]; exact nx
  have W2 := W1.sink.new (o := .ins C dx []) nx1
  have ew := W1.exS
  refine ⟨_, l, x, dx, ll, n, xs, ts, rfl, W2, st.down ew (List.Sublist.refl _), hx.ex ew, hok, lts, hn, hn100, fun G8 H8 dl zs eG S8' hdl hz => ⟨rfl, ?_⟩⟩
  have S8 := S8'.sink
  have e8 := S8'.exS
  exact k _ H8 ((ew.trans eG).trans e8) S8 ⟨dx, dl, zs, upd_same, e8 _ _ hdl, hz.ex e8⟩
def spWithTie (C : Addr) : Sp := fun vs H Q _ => ∃ (G : Hp) (l : List (Addr × HO)) (a : Addr) (p q v n : Nat) (ts : List Arc), vs = [.ref a, .int p, .int q, .int v] ∧ Has G H l ∧ WebAt C G a n ts ∧ Net n ts ∧ n ≤ 20 ∧ p < n ∧ q < n ∧ p ≠ q ∧
  ∀ (G' H' : Hp) (x : Addr), Ex G G' → Has G' H' l → WebAt C G' x n (sumA n (withA ts p q v)) → Q (.ref x) H'
end
end TW
set_option Elab.async false
set_option linter.all false
set_option maxRecDepth 100000
set_option maxHeartbeats 1000000
namespace TW
open PySem PySem.Spec PyProof.Rows L2
/-! two sides, their cuts -/
def betA (ts : List Arc) (f g : Nat → Bool) : Nat := ((ts.filter fun t => (f t.1 && g t.2.1) || (f t.2.1 && g t.1)).map fun t => t.2.2).sum
def wIf (b : Bool) (w : Nat) : Nat := if b = true then w else 0
theorem cutA_cons (t : Arc) (ts : List Arc) (f : Nat → Bool) : cutA (t :: ts) f = wIf (f t.1 != f t.2.1) t.2.2 + cutA ts f := by
  unfold cutA wIf
  by_cases h : (f t.1 != f t.2.1) = true
  · rw [if_pos h, List.filter_cons_of_pos (p := fun t : Arc => f t.1 != f t.2.1) h, List.map_cons, List.sum_cons]
  · rw [if_neg h, List.filter_cons_of_neg (p := fun t : Arc => f t.1 != f t.2.1) h, Nat.zero_add]
theorem betA_cons (t : Arc) (ts : List Arc) (f g : Nat → Bool) : betA (t :: ts) f g = wIf ((f t.1 && g t.2.1) || (f t.2.1 && g t.1)) t.2.2 + betA ts f g := by
  unfold betA wIf
  by_cases h : ((f t.1 && g t.2.1) || (f t.2.1 && g t.1)) = true
  · rw [if_pos h, List.filter_cons_of_pos (p := fun t : Arc => (f t.1 && g t.2.1) || (f t.2.1 && g t.1)) h, List.map_cons, List.sum_cons]
  · rw [if_neg h, List.filter_cons_of_neg (p := fun t : Arc => (f t.1 && g t.2.1) || (f t.2.1 && g t.1)) h, Nat.zero_add]
theorem gap_one (a b c d : Bool) (w : Nat) : wIf (a != b) w + wIf (c != d) w = wIf ((a && c) != (b && d)) w + wIf ((a || c) != (b || d)) w + 2 * wIf (((a && !c) && (d && !b)) || ((b && !d) && (c && !a))) w := by
  unfold wIf
  cases a <;> cases b <;> cases c <;> cases d <;> simp <;> omega
theorem gap_two (a b c d : Bool) (w : Nat) : wIf (a != b) w + wIf (c != d) w = wIf ((a && !c) != (b && !d)) w + wIf ((c && !a) != (d && !b)) w + 2 * wIf (((a && c) && (!b && !d)) || ((b && d) && (!a && !c))) w := by
  unfold wIf
  cases a <;> cases b <;> cases c <;> cases d <;> simp <;> omega
theorem gaps_one (f g : Nat → Bool) : ∀ ts : List Arc, cutA ts f + cutA ts g = cutA ts (fun k => f k && g k) + cutA ts (fun k => f k || g k) + 2 * betA ts (fun k => f k && !g k) (fun k => g k && !f k)
  | [] => rfl
  | t :: ts => by
    have ih := gaps_one f g ts
    have h := gap_one (f t.1) (f t.2.1) (g t.1) (g t.2.1) t.2.2
    rw [cutA_cons, cutA_cons, cutA_cons, cutA_cons, betA_cons]
    omega
theorem gaps_two (f g : Nat → Bool) : ∀ ts : List Arc, cutA ts f + cutA ts g = cutA ts (fun k => f k && !g k) + cutA ts (fun k => g k && !f k) + 2 * betA ts (fun k => f k && g k) (fun k => !f k && !g k)
  | [] => rfl
  | t :: ts => by
    have ih := gaps_two f g ts
    have h := gap_two (f t.1) (f t.2.1) (g t.1) (g t.2.1) t.2.2
    rw [cutA_cons, cutA_cons, cutA_cons, cutA_cons, betA_cons]
    omega
theorem betA_congr {ts : List Arc} {f g f' g' : Nat → Bool} {n : Nat} (hts : ∀ t ∈ ts, arcOk n t) (h : ∀ k, k < n → f k = f' k ∧ g k = g' k) : betA ts f g = betA ts f' g' := by
  unfold betA
  rw [filt_congr (g := fun t => (f' t.1 && g' t.2.1) || (f' t.2.1 && g' t.1)) fun t ht => by
    obtain ⟨h1, h2, _⟩ := hts t ht
    rw [(h _ h1).1, (h _ h1).2, (h _ h2).1, (h _ h2).2]]
theorem cutA_congrN {ts : List Arc} {f g : Nat → Bool} {n : Nat} (hts : ∀ t ∈ ts, arcOk n t) (h : ∀ k, k < n → f k = g k) : cutA ts f = cutA ts g := by
  unfold cutA
  rw [filt_congr (g := fun t => g t.1 != g t.2.1) fun t ht => by
    obtain ⟨h1, h2, _⟩ := hts t ht
    rw [h _ h1, h _ h2]]
/-! masks -/
theorem and_split : ∀ (x y : Nat), (x &&& y) + (x &&& (x ^^^ y)) = x := by
  intro x
  induction x using Nat.strongRecOn with
  | _ x ih =>
    intro y
    by_cases h0 : x = 0
    · subst h0
      simp
    · have ih := ih (x / 2) (by omega) (y / 2)
      have d1 : (x &&& y) / 2 = x / 2 &&& y / 2 := Nat.and_div_two
      have d2 : (x &&& (x ^^^ y)) / 2 = x / 2 &&& (x / 2 ^^^ y / 2) := by rw [Nat.and_div_two, Nat.xor_div_two]
      have m1 : (x &&& y) % 2 = (x % 2) &&& (y % 2) := Nat.and_mod_two_pow (n := 1)
      have m2 : (x &&& (x ^^^ y)) % 2 = (x % 2) &&& ((x % 2) ^^^ (y % 2)) := by
        have h1 : (x &&& (x ^^^ y)) % 2 = (x % 2) &&& ((x ^^^ y) % 2) := Nat.and_mod_two_pow (n := 1)
        have h2 : (x ^^^ y) % 2 = (x % 2) ^^^ (y % 2) := Nat.xor_mod_two_pow (n := 1)
        rw [h1, h2]
      have hx := Nat.mod_two_eq_zero_or_one x
      have hy := Nat.mod_two_eq_zero_or_one y
      rw [← d1, ← d2] at ih
      rcases hx with hx | hx <;> rcases hy with hy | hy <;> rw [hx, hy] at m1 m2
      · have n1 : (x &&& y) % 2 = 0 := m1
        have n2 : (x &&& (x ^^^ y)) % 2 = 0 := m2
        omega
      · have n1 : (x &&& y) % 2 = 0 := m1
        have n2 : (x &&& (x ^^^ y)) % 2 = 0 := m2
        omega
      · have n1 : (x &&& y) % 2 = 0 := m1
        have n2 : (x &&& (x ^^^ y)) % 2 = 1 := m2
        omega
      · have n1 : (x &&& y) % 2 = 1 := m1
        have n2 : (x &&& (x ^^^ y)) % 2 = 0 := m2
        omega
theorem bit_less (x y k : Nat) : (x - (x &&& y)).testBit k = (x.testBit k && !y.testBit k) := by
  have h := and_split x y
  have e : x - (x &&& y) = x &&& (x ^^^ y) := by omega
  rw [e, Nat.testBit_and, Nat.testBit_xor]
  cases x.testBit k <;> cases y.testBit k <;> rfl
theorem and_le (x y : Nat) : x &&& y ≤ x := Nat.and_le_left
theorem bitW (x : Nat) (k : Nat) : bitB (x : Int) k = x.testBit k := by
  unfold bitB
  rw [Nat.testBit_eq_decide_div_mod_eq, decide_eq_decide]
  have e : ((x : Int) / 2 ^ k) % 2 = ((x / 2 ^ k % 2 : Nat) : Int) := by push_cast; rfl
  rw [e]
  omega
theorem borW (a b : Nat) : Builtin.bitOr (a : Int) (b : Int) = ((a ||| b : Nat) : Int) := by
  unfold Builtin.bitOr
  rw [bitAnd_nn (by unfold Builtin.bitNot; omega) (by unfold Builtin.bitNot; omega)]
  have e : ∀ x : Int, Builtin.bitNot (Builtin.bitNot x) = x := fun x => by unfold Builtin.bitNot; omega
  rw [e, e, e, Int.toNat_natCast, Int.toNat_natCast]
theorem bandW (a b : Nat) : Builtin.bitAnd (a : Int) (b : Int) = ((a &&& b : Nat) : Int) := by
  rw [bitAnd_pp (by omega) (by omega), Int.toNat_natCast, Int.toNat_natCast]
theorem betA_snoc (t : Arc) (ts : List Arc) (f g : Nat → Bool) : betA (ts ++ [t]) f g = betA ts f g + wIf ((f t.1 && g t.2.1) || (f t.2.1 && g t.1)) t.2.2 := by
  unfold betA wIf
  rw [List.filter_append, List.map_append, List.sum_append]
  congr 1
  by_cases h : ((f t.1 && g t.2.1) || (f t.2.1 && g t.1)) = true
  · rw [if_pos h, List.filter_cons_of_pos (p := fun t : Arc => (f t.1 && g t.2.1) || (f t.2.1 && g t.1)) h]
    simp
  · rw [if_neg h, List.filter_cons_of_neg (p := fun t : Arc => (f t.1 && g t.2.1) || (f t.2.1 && g t.1)) h]
    simp
theorem bandBit (x y lo hi : Nat) : Builtin.bitAnd ((x : Int) / 2 ^ lo) ((y : Int) / 2 ^ hi) % 2 ^ 1 = if (x.testBit lo && y.testBit hi) = true then 1 else 0 := by
  have e1 : (x : Int) / 2 ^ lo = ((x / 2 ^ lo : Nat) : Int) := by push_cast; rfl
  have e2 : (y : Int) / 2 ^ hi = ((y / 2 ^ hi : Nat) : Int) := by push_cast; rfl
  rw [e1, e2, bandW, Nat.testBit_eq_decide_div_mod_eq, Nat.testBit_eq_decide_div_mod_eq]
  have m : (x / 2 ^ lo &&& y / 2 ^ hi) % 2 = (x / 2 ^ lo % 2) &&& (y / 2 ^ hi % 2) := Nat.and_mod_two_pow (n := 1)
  generalize x / 2 ^ lo &&& y / 2 ^ hi = z at m ⊢
  have hx := Nat.mod_two_eq_zero_or_one (x / 2 ^ lo)
  have hy := Nat.mod_two_eq_zero_or_one (y / 2 ^ hi)
  rw [Int.pow_one]
  rcases hx with hx | hx <;> rcases hy with hy | hy <;> rw [hx, hy] at m <;> rw [hx, hy]
  · have n1 : z % 2 = 0 := m
    rw [if_neg (by decide)]
    omega
  · have n1 : z % 2 = 0 := m
    rw [if_neg (by decide)]
    omega
  · have n1 : z % 2 = 0 := m
    rw [if_neg (by decide)]
    omega
  · have n1 : z % 2 = 1 := m
    rw [if_pos (by decide)]
    omega
section
variable {P : Program} {w : World} {K : PySem.W.Frag} {mg : Str → Option Value} {base : Heap} {C N : Addr}
/-! _law_between -/
abbrev NBE : List Str := ["arcs", "first", "second", "out", "low", "high", "heavy", "ahead"]
def spBetween (K : PySem.W.Frag) : Sp := fun vs H Q _ => ∃ (a : Addr) (x y : Nat) (xs : List V) (ts : List Arc), vs = [.ref a, .int x, .int y] ∧ SqL K H a xs ∧ Ats H xs (ts.map arcD) ∧ ts.length ≤ 10000 ∧ Q (.int (betA ts x.testBit y.testBit : Nat)) H
/-! _law_two_sides -/
abbrev NTS : List Str := ["well", "whole", "a", "b", "manner"]
def spTwoSides : Sp := fun vs H Q _ => ∃ (G : Hp) (l : List (Addr × HO)) (p : Addr) (o : HO) (k W : Nat), vs = [.ref p, .int W] ∧ Has G H ((p, o) :: l) ∧ WellO k o ∧ k < 10 ^ 8 ∧ W ≤ 1000 ∧
  ∀ (G' H' : Hp) (o' : HO) (t : Addr) (x y : Nat), Ex G G' → Has G' H' ((p, o') :: l) → WellO (k + 3) o' → G' t = some (.lst [.int x, .int y]) → x ≤ W → y ≤ W → Q (.ref t) H'
end
end TW
set_option Elab.async false
set_option linter.all false
set_option maxRecDepth 100000
set_option maxHeartbeats 1000000
namespace TW
open PySem PySem.Spec PyProof.Rows L2
/-! cut_gaps -/
def fIn (xs : List Int) (k : Nat) : Bool := decide ((k : Int) ∈ xs)
theorem fIn_both (xs ys : List Int) : (fun k : Nat => decide ((k : Int) ∈ xs.filter fun x => decide (x ∈ ys))) = fun k => fIn xs k && fIn ys k := by
  funext k
  unfold fIn
  rw [Bool.eq_iff_iff]
  simp
theorem fIn_less (xs ys : List Int) : (fun k : Nat => decide ((k : Int) ∈ xs.filter fun x => !decide (x ∈ ys))) = fun k => fIn xs k && !fIn ys k := by
  funext k
  unfold fIn
  rw [Bool.eq_iff_iff]
  simp
theorem fIn_all (xs ys : List Int) : (fun k : Nat => decide ((k : Int) ∈ ((xs.filter fun x => !decide (x ∈ ys)) ++ (xs.filter fun x => decide (x ∈ ys))) ++ (ys.filter fun x => !decide (x ∈ xs)))) = fun k => fIn xs k || fIn ys k := by
  funext k
  unfold fIn
  rw [Bool.eq_iff_iff]
  simp only [List.mem_append, List.mem_filter, decide_eq_true_eq, Bool.not_eq_true', decide_eq_false_iff_not, Bool.or_eq_true]
  by_cases h1 : (k : Int) ∈ xs <;> by_cases h2 : (k : Int) ∈ ys <;> simp [h1, h2]
theorem gap1 {ts : List Arc} {f g : Nat → Bool} : ((cutA ts f : Nat) : Int) + (cutA ts g : Nat) - ((cutA ts (fun k => f k && g k) : Nat) + (cutA ts (fun k => f k || g k) : Nat)) = 2 * (betA ts (fun k => f k && !g k) (fun k => g k && !f k) : Nat) := by
  have := gaps_one f g ts
  omega
theorem gap2 {ts : List Arc} {f g : Nat → Bool} : ((cutA ts f : Nat) : Int) + (cutA ts g : Nat) - (cutA ts (fun k => f k && !g k) : Nat) - (cutA ts (fun k => g k && !f k) : Nat) = 2 * (betA ts (fun k => f k && g k) (fun k => !f k && !g k) : Nat) := by
  have := gaps_two f g ts
  omega
section
variable {P : Program} {w : World} {K : PySem.W.Frag} {mg : Str → Option Value} {base : Heap} {C N : Addr}
abbrev NCG : List Str := ["web", "side", "other_side", "common", "alone", "other_alone", "both_cuts", "crossed", "place"]
def spGaps (K : PySem.W.Frag) (C : Addr) : Sp := fun vs H Q _ => ∃ (a pa pb : Addr) (n : Nat) (ts : List Arc) (xs ys : List Int), vs = [.ref a, .ref pa, .ref pb] ∧ WebAt C H a n ts ∧ SqT K H pa (xs.map V.int) ∧ SqT K H pb (ys.map V.int) ∧ xs.length ≤ 1000 ∧ ys.length ≤ 1000 ∧ isLot xs (some (n : Int)) = true ∧ isLot ys (some (n : Int)) = true ∧ ts.length ≤ 10000 ∧
  ∀ (H' : Hp) (p : Addr), Ex H H' → H' p = some (.tup [.int (2 * (betA ts (fun k => fIn xs k && !fIn ys k) (fun k => fIn ys k && !fIn xs k) : Nat)), .int (2 * (betA ts (fun k => fIn xs k && fIn ys k) (fun k => !fIn xs k && !fIn ys k) : Nat))]) → Q (.ref p) H'
end
end TW
set_option Elab.async false
set_option linter.all false
set_option maxRecDepth 100000
set_option maxHeartbeats 1000000
namespace TW
open PySem PySem.Spec PyProof.Rows L2
def nearA (ts : List Arc) (a b : Nat) : Nat := betA ts (fun k => a.testBit k && !b.testBit k) (fun k => b.testBit k && !a.testBit k)
def apartA (ts : List Arc) (a b : Nat) : Nat := betA ts (fun k => a.testBit k && b.testBit k) (fun k => !a.testBit k && !b.testBit k)
theorem bitF (x : Nat) : bitB (x : Int) = x.testBit := funext (bitW x)
theorem andF (a b : Nat) : (a &&& b).testBit = fun k => a.testBit k && b.testBit k := funext fun k => Nat.testBit_and a b k
theorem orF (a b : Nat) : (a ||| b).testBit = fun k => a.testBit k || b.testBit k := funext fun k => Nat.testBit_or a b k
theorem lessF (a b : Nat) : (a - (a &&& b)).testBit = fun k => a.testBit k && !b.testBit k := funext fun k => bit_less a b k
theorem lessG (a b : Nat) : (b - (a &&& b)).testBit = fun k => b.testBit k && !a.testBit k := by
  rw [Nat.and_comm]
  exact lessF b a
theorem told1 (ts : List Arc) (a b : Nat) : ((cutA ts (bitB (a : Int)) : Nat) : Int) + (cutA ts (bitB (b : Int)) : Nat) - (cutA ts (bitB ((a &&& b : Nat) : Int)) : Nat) - (cutA ts (bitB ((a ||| b : Nat) : Int)) : Nat) = 2 * (nearA ts a b : Nat) := by
  have h := gaps_one a.testBit b.testBit ts
  unfold nearA
  rw [bitF, bitF, bitF, bitF, andF, orF]
  omega
theorem told2 (ts : List Arc) (a b : Nat) : ((cutA ts (bitB (a : Int)) : Nat) : Int) + (cutA ts (bitB (b : Int)) : Nat) - (cutA ts (bitB ((a - (a &&& b) : Nat) : Int)) : Nat) - (cutA ts (bitB ((b - (a &&& b) : Nat) : Int)) : Nat) = 2 * (apartA ts a b : Nat) := by
  have h := gaps_two a.testBit b.testBit ts
  unfold apartA
  rw [bitF, bitF, bitF, bitF, lessF, lessG]
  omega
theorem bitLot {n : Nat} (m : Int) {k : Nat} (hk : k < n) : decide ((k : Int) ∈ lotOf m n) = bitB m k := by
  rw [Bool.eq_iff_iff, decide_eq_true_eq, lot_mem]
  constructor
  · rintro ⟨j, _, hj, e⟩
    have : j = k := by omega
    rw [← this]
    exact hj
  · intro h
    exact ⟨k, hk, h, rfl⟩
theorem cutLot {n : Nat} {ts : List Arc} (h : ∀ t ∈ ts, arcOk n t) (m : Int) : (cutA ts fun k => decide ((k : Int) ∈ lotOf m n)) = cutA ts (bitB m) := cutA_congrN h fun k hk => bitLot m hk
section
variable {P : Program} {w : World} {K : PySem.W.Frag} {mg : Str → Option Value} {base : Heap} {C N : Addr}
abbrev NCT : List Str := ["net", "many", "a", "b", "row", "cuts", "both", "mask"]
def spCutsTold (C : Addr) : Sp := fun vs H Q _ => ∃ (x : Addr) (n : Nat) (ts : List Arc) (a b : Nat), vs = [.ref x, .int n, .int a, .int b] ∧ WebAt C H x n ts ∧ (∀ t ∈ ts, arcOk n t) ∧ n ≤ 100 ∧ ts.length ≤ 10000 ∧
  ∀ (H' : Hp) (p : Addr), Ex H H' → H' p = some (.tup [.int (2 * (nearA ts a b : Nat)), .int (2 * (apartA ts a b : Nat))]) → Q (.ref p) H'
end
end TW
set_option Elab.async false
set_option linter.all false
set_option maxRecDepth 100000
set_option maxHeartbeats 1000000
namespace TW
open PySem PySem.Spec PyProof.Rows L2
/-! orders of places -/
abbrev IsOrd (row : List Nat) (n : Nat) : Prop := row.Perm (List.range n)
def renA (row : List Nat) (t : Arc) : Arc := (row.idxOf t.1, row.idxOf t.2.1, t.2.2)
theorem ord_mem {row : List Nat} {n k : Nat} (h : IsOrd row n) : k ∈ row ↔ k < n := by rw [h.mem_iff, List.mem_range]
theorem ord_nd {row : List Nat} {n : Nat} (h : IsOrd row n) : row.Nodup := h.nodup_iff.mpr List.nodup_range
theorem ord_len {row : List Nat} {n : Nat} (h : IsOrd row n) : row.length = n := by rw [h.length_eq, List.length_range]
theorem nd_inj {row : List Nat} (nd : row.Nodup) {i j k : Nat} (h1 : row[i]? = some k) (h2 : row[j]? = some k) : i = j := by
  obtain ⟨hi, e1⟩ := List.getElem?_eq_some_iff.mp h1
  obtain ⟨hj, e2⟩ := List.getElem?_eq_some_iff.mp h2
  rcases Nat.lt_trichotomy i j with c | c | c
  · exact absurd (e1.trans e2.symm) (List.pairwise_iff_getElem.mp nd i j hi hj c)
  · exact c
  · exact absurd (e2.trans e1.symm) (List.pairwise_iff_getElem.mp nd j i hj hi c)
theorem at_idx {row : List Nat} {k : Nat} (h : k ∈ row) : row[row.idxOf k]? = some k := by
  have hl := List.idxOf_lt_length_of_mem h
  rw [List.getElem?_eq_getElem hl, List.getElem_idxOf hl]
theorem idx_of {row : List Nat} (nd : row.Nodup) {i k : Nat} (h : row[i]? = some k) : row.idxOf k = i := nd_inj nd (at_idx (List.mem_of_getElem? h)) h
theorem idx_lt {row : List Nat} {n k : Nat} (h : IsOrd row n) (hk : k < n) : row.idxOf k < n := by
  have hl := List.idxOf_lt_length_of_mem ((ord_mem h).mpr hk)
  rw [ord_len h] at hl
  exact hl
theorem idx_eq {row : List Nat} {n k i a : Nat} (h : IsOrd row n) (hk : k < n) (ha : row[i]? = some a) : row.idxOf k = i ↔ k = a := by
  constructor
  · intro e
    have h1 := at_idx ((ord_mem h).mpr hk)
    rw [e, ha] at h1
    exact (Option.some.inj h1).symm
  · rintro rfl
    exact idx_of (ord_nd h) ha
theorem ren_ok {row : List Nat} {n : Nat} (h : IsOrd row n) {t : Arc} (ht : arcOk n t) : arcOk n (renA row t) := by
  obtain ⟨h1, h2, h3⟩ := ht
  refine ⟨idx_lt h h1, idx_lt h h2, fun e => h3 ?_⟩
  have e : row.idxOf t.1 = row.idxOf t.2.1 := e
  exact (idx_eq h h1 (at_idx ((ord_mem h).mpr h2))).mp e
theorem ren_oks {row : List Nat} {n : Nat} (h : IsOrd row n) {X : List Arc} (hX : ∀ t ∈ X, arcOk n t) : ∀ t ∈ X.map (renA row), arcOk n t := fun t ht => by
  obtain ⟨u, hu, rfl⟩ := List.mem_map.mp ht
  exact ren_ok h (hX u hu)
theorem wOf_ren {row : List Nat} {n : Nat} (h : IsOrd row n) {X : List Arc} (hX : ∀ t ∈ X, arcOk n t) {i j a b : Nat} (hij : i < j) (ha : row[i]? = some a) (hb : row[j]? = some b) : wOf (X.map (renA row)) (i, j) = wOf X (min a b, max a b) := by
  unfold wOf
  rw [List.filter_map, List.map_map]
  have hab : a ≠ b := fun e => by
    rw [e] at ha
    have := nd_inj (ord_nd h) ha hb
    omega
  rw [filt_congr (g := fun t : Arc => decide (endsA t = (min a b, max a b))) fun t ht => ?_]
  · rfl
  · obtain ⟨h1, h2, h3⟩ := hX t ht
    show decide (endsA (renA row t) = (i, j)) = _
    rw [decide_eq_decide]
    have x1 := idx_eq h h1 ha
    have x2 := idx_eq h h1 hb
    have y1 := idx_eq h h2 ha
    have y2 := idx_eq h h2 hb
    unfold endsA renA
    rw [Prod.mk.injEq, Prod.mk.injEq]
    show (min (row.idxOf t.1) (row.idxOf t.2.1) = i ∧ max (row.idxOf t.1) (row.idxOf t.2.1) = j) ↔ _
    generalize row.idxOf t.1 = x at *
    generalize row.idxOf t.2.1 = y at *
    generalize t.1 = lo at *
    generalize t.2.1 = hi at *
    constructor
    · rintro ⟨p, q⟩
      have : (x = i ∧ y = j) ∨ (x = j ∧ y = i) := by omega
      rcases this with ⟨p, q⟩ | ⟨p, q⟩
      · have := x1.mp p
        have := y2.mp q
        omega
      · have := x2.mp p
        have := y1.mp q
        omega
    · rintro ⟨p, q⟩
      have : (lo = a ∧ hi = b) ∨ (lo = b ∧ hi = a) := by omega
      rcases this with ⟨p, q⟩ | ⟨p, q⟩
      · have := x1.mpr p
        have := y2.mpr q
        omega
      · have := x2.mpr p
        have := y1.mpr q
        omega
theorem sum_ren {row : List Nat} {n : Nat} (h : IsOrd row n) {X : List Arc} (hX : ∀ t ∈ X, arcOk n t) : sumA n ((sumA n X).map (renA row)) = sumA n (X.map (renA row)) := sumA_of fun p h1 h2 => by
  obtain ⟨i, j⟩ := p
  have h1 : i < j := h1
  have h2 : j < n := h2
  have li : i < row.length := by rw [ord_len h]; omega
  have lj : j < row.length := by rw [ord_len h]; omega
  have ha : row[i]? = some row[i] := List.getElem?_eq_getElem li
  have hb : row[j]? = some row[j] := List.getElem?_eq_getElem lj
  rw [wOf_ren h sumA_ok h1 ha hb, wOf_ren h hX h1 ha hb]
  have ma := (ord_mem h).mp (List.mem_of_getElem? ha)
  have mb := (ord_mem h).mp (List.mem_of_getElem? hb)
  have ne : row[i] ≠ row[j] := fun e => by
    rw [e] at ha
    have := nd_inj (ord_nd h) ha hb
    omega
  generalize row[i] = a at *
  generalize row[j] = b at *
  exact wOf_sumA (by show min a b < max a b; omega) (by show max a b < n; omega)
theorem ren_ren {r1 r2 r3 : List Nat} {n : Nat} {X : List Arc} (hX : ∀ t ∈ X, arcOk n t) (h : ∀ k, k < n → r2.idxOf (r1.idxOf k) = r3.idxOf k) : (X.map (renA r1)).map (renA r2) = X.map (renA r3) := by
  rw [List.map_map]
  refine List.map_congr_left fun t ht => ?_
  obtain ⟨h1, h2, _⟩ := hX t ht
  show (r2.idxOf (r1.idxOf t.1), r2.idxOf (r1.idxOf t.2.1), t.2.2) = (r3.idxOf t.1, r3.idxOf t.2.1, t.2.2)
  rw [h _ h1, h _ h2]
theorem ren_id {r : List Nat} {n : Nat} {X : List Arc} (hX : ∀ t ∈ X, arcOk n t) (h : ∀ k, k < n → r.idxOf k = k) : X.map (renA r) = X := by
  conv => rhs; rw [← List.map_id X]
  refine List.map_congr_left fun t ht => ?_
  obtain ⟨h1, h2, _⟩ := hX t ht
  show (r.idxOf t.1, r.idxOf t.2.1, t.2.2) = t
  rw [h _ h1, h _ h2]
theorem idx_range {n k : Nat} (h : k < n) : (List.range n).idxOf k = k := idx_of List.nodup_range (by rw [List.getElem?_range h])
theorem ord_of {row : List Nat} {n : Nat} (nd : row.Nodup) (sub : ∀ k ∈ row, k < n) (len : row.length = n) : IsOrd row n := by
  refine (List.perm_ext_iff_of_nodup nd List.nodup_range).mpr fun k => ⟨fun h => List.mem_range.mpr (sub k h), fun h => ?_⟩
  by_cases c : k ∈ row
  · exact c
  · have hk := List.mem_range.mp h
    have := nodup_lenG (xs := k :: row) (ys := List.range n) (List.nodup_cons.mpr ⟨c, nd⟩) fun x hx => by
      rcases List.mem_cons.mp hx with rfl | hx
      · exact h
      · exact List.mem_range.mpr (sub x hx)
    rw [List.length_cons, List.length_range] at this
    omega
/-- the way back -/
theorem back_ord {row : List Nat} {n : Nat} (h : IsOrd row n) : IsOrd ((List.range n).map row.idxOf) n ∧ ∀ k, k < n → ((List.range n).map row.idxOf).idxOf (row.idxOf k) = k := by
  have nd : ((List.range n).map row.idxOf).Nodup := by
    refine List.pairwise_map.mpr (List.Pairwise.imp_of_mem (fun {a b} ha hb ne e => ne ?_) List.nodup_range)
    have ha := List.mem_range.mp ha
    have hb := List.mem_range.mp hb
    exact (idx_eq h ha (at_idx ((ord_mem h).mpr hb))).mp e
  refine ⟨ord_of nd (fun x hx => by
    obtain ⟨k, hk, rfl⟩ := List.mem_map.mp hx
    exact idx_lt h (List.mem_range.mp hk)) (by rw [List.length_map, List.length_range]), fun k hk => idx_of nd ?_⟩
  rw [List.getElem?_map, List.getElem?_range hk]
  rfl
theorem both_ord {one two : List Nat} {n : Nat} (h1 : IsOrd one n) (h2 : IsOrd two n) {both : List Nat} (hb : both.length = n) (hg : ∀ i k : Nat, two[i]? = some k → ∃ m, one[k]? = some m ∧ both[i]? = some m) : IsOrd both n ∧ ∀ k, k < n → two.idxOf (one.idxOf k) = both.idxOf k := by
  have get : ∀ i, i < n → ∃ k m, two[i]? = some k ∧ k < n ∧ one[k]? = some m ∧ both[i]? = some m := fun i hi => by
    have li : i < two.length := by rw [ord_len h2]; exact hi
    have e := List.getElem?_eq_getElem li
    obtain ⟨m, q1, q2⟩ := hg i _ e
    exact ⟨_, m, e, (ord_mem h2).mp (List.mem_of_getElem? e), q1, q2⟩
  have nd : both.Nodup := List.pairwise_iff_getElem.mpr fun i j hi hj hij e => by
    obtain ⟨k1, m1, a1, b1, c1, d1⟩ := get i (by omega)
    obtain ⟨k2, m2, a2, b2, c2, d2⟩ := get j (by omega)
    rw [List.getElem?_eq_getElem hi] at d1
    rw [List.getElem?_eq_getElem hj] at d2
    have e1 : m1 = m2 := by rw [← Option.some.inj d1, ← Option.some.inj d2]; exact e
    rw [e1] at c1
    have e2 := nd_inj (ord_nd h1) c1 c2
    rw [e2] at a1
    have := nd_inj (ord_nd h2) a1 a2
    omega
  have perm : IsOrd both n := ord_of nd (fun x hx => by
    obtain ⟨i, hi⟩ := List.mem_iff_getElem?.mp hx
    obtain ⟨li, _⟩ := List.getElem?_eq_some_iff.mp hi
    obtain ⟨k, m, _, _, c, d⟩ := get i (by omega)
    rw [hi] at d
    cases d
    exact (ord_mem h1).mp (List.mem_of_getElem? c)) hb
  refine ⟨perm, fun k hk => (idx_of nd ?_).symm⟩
  have g1 := at_idx ((ord_mem h1).mpr hk)
  have g2 := at_idx ((ord_mem h2).mpr (idx_lt h1 hk))
  obtain ⟨m, q1, q2⟩ := hg _ _ g2
  rw [g1] at q1
  cases q1
  exact q2
/-! cuts by the pairs' weights -/
theorem sum_add {α : Type} (f g : α → Nat) : ∀ L : List α, (L.map fun p => f p + g p).sum = (L.map f).sum + (L.map g).sum
  | [] => rfl
  | p :: L => by
    have ih := sum_add f g L
    rw [List.map_cons, List.map_cons, List.map_cons, List.sum_cons, List.sum_cons, List.sum_cons, ih]
    omega
theorem sum_zero {α : Type} (f : α → Nat) : ∀ L : List α, (∀ p ∈ L, f p = 0) → (L.map f).sum = 0
  | [], _ => rfl
  | p :: L, h => by
    rw [List.map_cons, List.sum_cons, h p List.mem_cons_self, sum_zero f L fun q hq => h q (List.mem_cons_of_mem _ hq)]
theorem sum_only {α : Type} [DecidableEq α] (f : α → Nat) {e : α} : ∀ {L : List α}, L.Nodup → e ∈ L → (∀ p, p ≠ e → f p = 0) → (L.map f).sum = f e
  | p :: L, nd, he, h => by
    rw [List.map_cons, List.sum_cons]
    by_cases c : p = e
    · subst c
      rw [sum_zero f L fun q hq => h q fun e' => (List.nodup_cons.mp nd).1 (e' ▸ hq)]
      omega
    · rw [h p c, sum_only f (List.nodup_cons.mp nd).2 ((List.mem_cons.mp he).resolve_left fun e' => c e'.symm) h]
      omega
theorem pairs_nd (n : Nat) : (pairsN n).Nodup := (pairsN_pw n).imp fun {a b} h e => by
  subst e
  omega
theorem cut_pairs {n : Nat} (f : Nat → Bool) : ∀ {X : List Arc}, (∀ t ∈ X, arcOk n t) → cutA X f = ((pairsN n).map fun p => wIf (f p.1 != f p.2) (wOf X p)).sum
  | [], _ => by
    rw [sum_zero]
    · rfl
    · intro p _
      show wIf _ 0 = 0
      unfold wIf
      split <;> rfl
  | t :: X, h => by
    obtain ⟨h1, h2, h3⟩ := h t List.mem_cons_self
    have ih := cut_pairs f (X := X) fun u hu => h u (List.mem_cons_of_mem _ hu)
    have e : (fun p : Nat × Nat => wIf (f p.1 != f p.2) (wOf (t :: X) p)) = fun p => wIf (f p.1 != f p.2) (if endsA t = p then t.2.2 else 0) + wIf (f p.1 != f p.2) (wOf X p) := by
      funext p
      rw [wOf_cons]
      unfold wIf
      cases (f p.1 != f p.2) <;> rfl
    rw [cutA_cons, ih, e, sum_add, sum_only (e := endsA t) (fun p => wIf (f p.1 != f p.2) (if endsA t = p then t.2.2 else 0)) (pairs_nd n) (mem_pairsN.mpr ⟨by show min _ _ < max _ _; omega, by show max _ _ < n; omega⟩) fun p hp => by
      show wIf (f p.1 != f p.2) (if endsA t = p then t.2.2 else 0) = 0
      rw [if_neg fun e => hp e.symm]
      unfold wIf
      split <;> rfl]
    congr 1
    show _ = wIf (f (endsA t).1 != f (endsA t).2) (if endsA t = endsA t then t.2.2 else 0)
    rw [if_pos rfl]
    have sy : (f t.1 != f t.2.1) = (f (endsA t).1 != f (endsA t).2) := by
      unfold endsA
      show _ = (f (min t.1 t.2.1) != f (max t.1 t.2.1))
      rcases Nat.lt_or_gt_of_ne h3 with c | c
      · rw [Nat.min_eq_left (by omega), Nat.max_eq_right (by omega)]
      · rw [Nat.min_eq_right (by omega), Nat.max_eq_left (by omega)]
        cases f t.1 <;> cases f t.2.1 <;> rfl
    rw [sy]
theorem cut_sum {n : Nat} {X : List Arc} (h : ∀ t ∈ X, arcOk n t) (f : Nat → Bool) : cutA (sumA n X) f = cutA X f := by
  rw [cut_pairs f (n := n) sumA_ok, cut_pairs f h]
  congr 1
  refine List.map_congr_left fun p hp => ?_
  obtain ⟨h1, h2⟩ := mem_pairsN.mp hp
  rw [wOf_sumA h1 h2]
theorem cut_ren (row : List Nat) (X : List Arc) (f : Nat → Bool) : cutA (X.map (renA row)) f = cutA X fun k => f (row.idxOf k) := by
  unfold cutA
  rw [List.filter_map, List.map_map]
  rfl
/-! sums of powers -/
theorem pow_add_bit {S x : Nat} (h : S.testBit x = false) : 2 ^ x + S = S ||| 2 ^ x := by
  have e := and_split (S ||| 2 ^ x) (2 ^ x)
  have e1 : (S ||| 2 ^ x) &&& 2 ^ x = 2 ^ x := Nat.eq_of_testBit_eq fun j => by
    rw [Nat.testBit_and, Nat.testBit_or]
    cases S.testBit j <;> cases (2 ^ x).testBit j <;> rfl
  have e2 : (S ||| 2 ^ x) &&& ((S ||| 2 ^ x) ^^^ 2 ^ x) = S := Nat.eq_of_testBit_eq fun j => by
    rw [Nat.testBit_and, Nat.testBit_xor, Nat.testBit_or, Nat.testBit_two_pow]
    by_cases c : x = j
    · subst c
      rw [h, decide_eq_true rfl]
      rfl
    · rw [decide_eq_false c]
      cases S.testBit j <;> rfl
  rw [e1, e2] at e
  exact e
theorem pow_bits : ∀ {L : List Nat}, L.Nodup → ∀ j, ((L.map fun x => 2 ^ x).sum).testBit j = decide (j ∈ L)
  | [], _, j => by
    show (0 : Nat).testBit j = _
    rw [Nat.zero_testBit]
    rfl
  | x :: L, nd, j => by
    obtain ⟨h1, h2⟩ := List.nodup_cons.mp nd
    have ih := pow_bits h2
    rw [List.map_cons, List.sum_cons, pow_add_bit (by rw [ih, decide_eq_false h1]), Nat.testBit_or, Nat.testBit_two_pow, ih]
    rw [Bool.eq_iff_iff]
    simp only [Bool.or_eq_true, decide_eq_true_eq, List.mem_cons]
    constructor
    · rintro (h | h)
      · exact .inr h
      · exact .inl h.symm
    · rintro (h | h)
      · exact .inr h.symm
      · exact .inl h
end TW
set_option Elab.async false
set_option linter.all false
set_option maxRecDepth 100000
set_option maxHeartbeats 1000000
namespace TW
open PySem PySem.Spec PyProof.Rows L2
theorem tri10 : ∀ {n : Nat}, n ≤ 10 → tri n ≤ 45 := fun {n} h => by
  by_cases h9 : n ≤ 9
  · exact Nat.le_trans (tri9 h9) (by decide)
  · rw [show n = 10 by omega]
    decide
section
variable {P : Program} {w : World} {K : PySem.W.Frag} {mg : Str → Option Value} {base : Heap} {C N : Addr}
/-! _law_some_ties -/
abbrev NST3 : List Str := ["well", "many", "pairs", "share", "high", "low", "out", "scale", "heavy", "k", "twin"]
theorem sc_law_some_ties10 : FnScope NST3 ["well", "many"] (defScope s__law_some_ties) := ⟨rfl, rfl, rfl, by decide +kernel, rfl, by decide +kernel, by decide +kernel⟩
def spSomeTies10 : Sp := fun vs H Q _ => ∃ (G : Hp) (l : List (Addr × HO)) (p : Addr) (o : HO) (k n : Nat), vs = [.ref p, .int n] ∧ Has G H ((p, o) :: l) ∧ WellO k o ∧ k < 10 ^ 6 ∧ n ≤ 10 ∧
  ∀ (G' H' : Hp) (o' : HO) (t : Addr) (xs : List V) (ts : List Arc), Ex G G' → Has G' H' ((t, .lst xs) :: (p, o') :: l) → WellO (k + 3000) o' → Ats G' xs (ts.map arcD) → (∀ t ∈ ts, arcOk n t) → ts.length ≤ 45 → (∀ t ∈ ts, t.2.2 ≤ 10 ^ 11) → Q (.ref t) H'
theorem ok_some_ties10 (D : Dfn K mg "_law_some_ties" s__law_some_ties ["well", "many"]) (z : Z mg) (zmin : mg "min" = none) (O_dip : Ok P w K mg base 1 "_law_dip" ["well", "upto"] spDipW) (O_mixed : Ok P w K mg base 2 "_law_mixed" ["well", "row"] (spMixed K)) : Ok P w K mg base 3 "_law_some_ties" ["well", "many"] spSomeTies10 := D.ok fun f fd F => by
  refine F.ok sc_law_some_ties10 (fun vs H Q E h => ?_) (fun cdv A outer s H vs Q E hr h => ?_)
  · obtain ⟨G, l, p, o, k, n, rfl, _⟩ := h
    rfl
  · obtain ⟨G, l, p, o, k, n, rfl, S, wo, hk, hn, q⟩ := h
    refine ⟨_, (pss_cons (ps_set (i := 2) sc_law_some_ties10.nd rfl (Or.inl rfl) (pe_lst pa_nil))
      (pss_cons (ps_set (i := 3) sc_law_some_ties10.nd rfl (Or.inl rfl) (pe_op op_add pe_int (pe_o O_dip (hr.mono (by decide)) (pa_cons (pv 0) (pa_cons pe_int pa_nil)))))
      (pss_cons (ps_for PassesOwn.never rfl (pi_range1 (by rfl) z.range (pa_cons (pv 1) pa_nil)) (pg_name (i := 4) sc_law_some_ties10.nd rfl (Or.inl rfl))
        (pss_one (ps_for PassesOwn.never rfl (pi_range1 (by rfl) z.range (pa_cons (pv 4) pa_nil)) (pg_name (i := 5) sc_law_some_ties10.nd rfl (Or.inl rfl))
          (pss_one (ps_if (pt_cmpR op_lt (pe_o O_dip (hr.mono (by decide)) (pa_cons (pv 0) (pa_cons pe_int pa_nil))) (pv 3) (nomark _)) (pss_one (ps_expr (pe_bm PySem.F.plainAttrs_list PySem.F.slot_list_append PySem.F.type_list_append mt_append (pv 2) (pa_cons (pe_tup (pa_cons (pv 5) (pa_cons (pv 4) pa_nil))) pa_nil)))) pss_nil)))))
      (pss_cons (ps_set (i := 6) sc_law_some_ties10.nd rfl (Or.inl rfl) (pe_lst pa_nil))
      (pss_cons (ps_set (i := 7) sc_law_some_ties10.nd rfl (Or.inl rfl) (pe_ix ix_list (pe_lst (pa_cons pe_int (pa_cons pe_int (pa_cons pe_int (pa_cons (pe_op op_pow pe_int pe_int) pa_nil))))) (pe_o O_dip (hr.mono (by decide)) (pa_cons (pv 0) (pa_cons pe_int pa_nil))) (fun _ _ => rfl)))
      (pss_cons (ps_for PassesOwn.never rfl (pi_list (pv 2)) (pg_tup rfl (pgs_cons (pg_name (i := 5) sc_law_some_ties10.nd rfl (Or.inl rfl)) (pgs_cons (pg_name (i := 4) sc_law_some_ties10.nd rfl (Or.inl rfl)) pgs_nil)))
        (pss_cons (ps_set (i := 8) sc_law_some_ties10.nd rfl (Or.inl rfl) (pe_op op_add (pe_o O_dip (hr.mono (by decide)) (pa_cons (pv 0) (pa_cons (pv 7) pa_nil))) (pe_callTy call_int1 (by rfl) z.int (by decide +kernel) (pa_cons (pe_cmpR op_gt (pe_o O_dip (hr.mono (by decide)) (pa_cons (pv 0) (pa_cons pe_int pa_nil))) pe_int (nomark _)) pa_nil))))
        (pss_one (ps_expr (pe_bm PySem.F.plainAttrs_list PySem.F.slot_list_append PySem.F.type_list_append mt_append (pv 6) (pa_cons (PE.imp (t' := tArcE) (pe_ifExp (pt_cmpR op_gt (pe_o O_dip (hr.mono (by decide)) (pa_cons (pv 0) (pa_cons pe_int pa_nil))) pe_int (nomark _)) (pe_tup (pa_cons (pv 5) (pa_cons (pv 4) (pa_cons (pv 8) pa_nil)))) (pe_tup (pa_cons (pv 4) (pa_cons (pv 5) (pa_cons (pv 8) pa_nil))))) (fun σ H Q h => by
            obtain ⟨G, l, p, o, k, lo, hi, w, h0, h5, h4, h8, S, wo, hk, q⟩ := h
            refine ⟨_, h0, p, 3, o, k, rfl, S.get 0 rfl, wo, by omega, by decide, by decide, fun r o1 hr1 wo1 => ?_⟩
            have S1 : Has G _ ((p, o1) :: l) := S.set 0 rfl
            generalize upd H p o1 = H1 at S1
            refine ⟨_, _, rfl, rfl, _, rfl, ?_⟩
            refine ite2 (fun _ => ?_) (fun _ => ?_)
            · exact ⟨_, h5, _, h4, _, h8, sz (by show 3 ≤ 100000; decide), fun u nu => q _ o1 u (lo, hi, w) (S1.new nu) wo1 (.inl rfl)⟩
            · exact ⟨_, h4, _, h5, _, h8, sz (by show 3 ≤ 100000; decide), fun u nu => q _ o1 u (hi, lo, w) (S1.new nu) wo1 (.inr rfl)⟩)) pa_nil))))))
      (pss_cons (ps_for PassesOwn.never rfl (pi_range1 (by rfl) z.range (pa_cons (pe_callB (call_min3Nu rfl) (by rfl) zmin (by decide +kernel) (pa_cons (pe_o O_dip (hr.mono (by decide)) (pa_cons (pv 0) (pa_cons pe_int pa_nil))) (pa_cons (pe_callB call_len_seq (by rfl) z.len PySem.boot_len (pa_cons (pv 6) pa_nil)) (pa_cons (pe_op op_sub pe_int (pe_callB call_len_seq (by rfl) z.len PySem.boot_len (pa_cons (pv 6) pa_nil))) pa_nil)))) pa_nil)) (pg_name (i := 9) sc_law_some_ties10.nd rfl (Or.inl rfl))
        (pss_cons (ps_set (i := 10) sc_law_some_ties10.nd rfl (Or.inl rfl) (pe_ix ix_list (pv 6) (pe_o O_dip (hr.mono (by decide)) (pa_cons (pv 0) (pa_cons (pe_callB call_len_seq (by rfl) z.len PySem.boot_len (pa_cons (pv 6) pa_nil)) pa_nil))) (fun _ _ => rfl)))
        (pss_one (ps_expr (pe_bm PySem.F.plainAttrs_list PySem.F.slot_list_insert PySem.F.type_list_insert mt_insert (pv 6) (pa_cons (pe_o O_dip (hr.mono (by decide)) (pa_cons (pv 0) (pa_cons (pe_op op_add (pe_callB call_len_seq (by rfl) z.len PySem.boot_len (pa_cons (pv 6) pa_nil)) pe_int) pa_nil))) (pa_cons (pe_tup (pa_cons (pe_ix (ix_any (K := K)) (pv 10) pe_int (fun _ _ => rfl)) (pa_cons (pe_ix (ix_any (K := K)) (pv 10) pe_int (fun _ _ => rfl)) (pa_cons (pe_o O_dip (hr.mono (by decide)) (pa_cons (pv 0) (pa_cons (pv 7) pa_nil))) pa_nil)))) pa_nil)))))))
      (pss_one (ps_ret (pe_o O_mixed hr (pa_cons (pv 0) (pa_cons (pv 6) pa_nil)))))))))))), ?_⟩
    refine ⟨sz (by show 0 ≤ 100000; decide), fun pr npr => ?_⟩
    have S1 := S.new (o := .lst []) npr
    generalize upd H pr (.lst []) = H1 at S1
    refine ⟨_, rfl, p, 4, o, k, rfl, S1.get 1 rfl, wo, by omega, by decide, by decide, fun sh o1 hr1 wo1 => ?_⟩
    have S2 : Has G _ ((pr, .lst []) :: (p, o1) :: l) := S1.set 1 rfl
    generalize upd H1 p o1 = H2 at S2
    refine ⟨_, _, rfl, rfl, ?_⟩
    refine ⟨_, rfl, n, rfl, by omega, by omega, ?_⟩
    rw [show ((n : Nat) : Int).toNat = n by omega]
    refine for_range (lo := 0) (n := n) (fun i σ H' => ∃ (G' : Hp) (v4 v5 v6 v7 v8 v9 v10 : Option V) (o' : HO) (ys : List V) (ps : List (Nat × Nat)), σ = [some (.ref p), some (.int n), some (.ref pr), some (.int (1 + (sh : Int))), v4, v5, v6, v7, v8, v9, v10] ∧ Ex G G' ∧ Has G' H' ((pr, .lst ys) :: (p, o') :: l) ∧ WellO (k + 1 + 9 * i) o' ∧ Ats G' ys (ps.map prD) ∧ (∀ q ∈ ps, q.1 < q.2 ∧ q.2 < n) ∧ ps.length ≤ tri i)
      ⟨G, none, none, none, none, none, none, none, o1, [], [], rfl, Evl.Ex.refl _, S2, wo1, .nil, fun q h => absurd h List.not_mem_nil, Nat.le_refl _⟩ ?_ ?_
    · rintro i σ H3 hi ⟨G3, v4, v5, v6, v7, v8, v9, v10, o3, ys, ps, rfl, e3, S3, wo3, ay, hps, lps⟩
      rw [Int.zero_add]
      refine ⟨_, rfl, i, rfl, by omega, by omega, ?_⟩
      rw [show ((i : Nat) : Int).toNat = i by omega]
      refine for_range (lo := 0) (n := i) (fun j σ H' => ∃ (G' : Hp) (v5 v6 v7 v8 v9 v10 : Option V) (o' : HO) (ys : List V) (ps : List (Nat × Nat)), σ = [some (.ref p), some (.int n), some (.ref pr), some (.int (1 + (sh : Int))), some (.int i), v5, v6, v7, v8, v9, v10] ∧ Ex G G' ∧ Has G' H' ((pr, .lst ys) :: (p, o') :: l) ∧ WellO (k + 1 + 9 * i + j) o' ∧ Ats G' ys (ps.map prD) ∧ (∀ q ∈ ps, q.1 < q.2 ∧ q.2 < n) ∧ ps.length ≤ tri i + j)
        ⟨G3, v5, v6, v7, v8, v9, v10, o3, ys, ps, rfl, e3, S3, wo3, ay, hps, lps⟩ ?_ ?_
      · rintro j σ H4 hj ⟨G4, v5, v6, v7, v8, v9, v10, o4, ys, ps, rfl, e4, S4, wo4, ay, hps, lps⟩
        rw [Int.zero_add]
        have ly : ys.length = ps.length := by rw [ay.1, List.length_map]
        have t9 := tri10 (show i ≤ 10 by omega)
        refine ⟨_, rfl, p, 4, o4, _, rfl, S4.get 1 rfl, wo4, by omega, by decide, by decide, fun r o5 hr5 wo5 => ?_⟩
        have S5 : Has G4 _ ((pr, .lst ys) :: (p, o5) :: l) := S4.set 1 rfl
        generalize upd H4 p o5 = H5 at S5
        refine ⟨_, rfl, _, _, rfl, rfl, _, rfl, ?_⟩
        refine ite2 (fun _ => ?_) (fun _ => ?_)
        · refine ⟨_, rfl, .inl ⟨rfl, _, Evl.sq_of (S5.get 0 rfl)⟩, _, rfl, _, rfl, sz (by show 2 ≤ 100000; decide), fun u nu => ?_⟩
          have S6 := S5.new (o := .tup [.int j, .int i]) nu
          generalize upd H5 u (.tup [.int j, .int i]) = H6 at S6
          refine ⟨pr, _, _, rfl, rfl, S6.get 1 rfl, szl (by omega), ?_⟩
          have S7 : Has (upd G4 u (.tup [.int j, .int i])) _ ((pr, .lst (ys ++ [V.ref u])) :: (p, o5) :: l) := S6.sink.set 0 rfl
          refine ⟨_, _, _, _, _, _, _, o5, ys ++ [V.ref u], ps ++ [(j, i)], rfl, e4.trans S6.exS, S7, wo5.up (by omega), ?_, fun q hq => ?_, by rw [List.length_append]; show ps.length + 1 ≤ _; omega⟩
          · rw [List.map_append]
            exact (ay.ex S6.exS).snoc (at_pr upd_same)
          · rcases List.mem_append.mp hq with h | h
            · exact hps q h
            · rw [List.mem_singleton.mp h]
              exact ⟨hj, hi⟩
        · exact ⟨G4, _, _, _, _, _, _, o5, ys, ps, rfl, e4, S5, wo5.up (by omega), ay, hps, by omega⟩
      · rintro σ H4 ⟨G4, v5, v6, v7, v8, v9, v10, o4, ys, ps, rfl, e4, S4, wo4, ay, hps, lps⟩
        exact ⟨G4, _, _, _, _, _, _, _, o4, ys, ps, rfl, e4, S4, wo4.up (by omega), ay, hps, lps⟩
    · rintro σ H3 ⟨G3, v4, v5, v6, v7, v8, v9, v10, o3, ys, ps, rfl, e3, S3, wo3, ay, hps, lps⟩
      have ly : ys.length = ps.length := by rw [ay.1, List.length_map]
      refine ⟨sz (by show 0 ≤ 100000; decide), fun ou nou => ?_⟩
      have S4 := S3.new (o := .lst []) nou
      generalize upd H3 ou (.lst []) = H4 at S4
      refine ⟨_, _, rfl, rfl, ⟨by decide, by decide, by decide⟩, sz (by show 4 ≤ 100000; decide), fun lt nlt => ?_⟩
      generalize hL : ([V.int 2, V.int 4, V.int 10, V.int ((10 : Int) ^ (11 : Int).toNat)] : List V) = L
      have S5 := S4.new (o := .lst L) nlt
      generalize upd H4 lt (.lst L) = H5 at S5
      refine ⟨_, rfl, p, 4, o3, _, rfl, S5.get 3 rfl, wo3, by omega, by decide, by decide, fun r o5 hr5 wo5 => ?_⟩
      have S6 : Has G3 _ ((lt, .lst L) :: (ou, .lst []) :: (pr, .lst ys) :: (p, o5) :: l) := S5.set 3 rfl
      generalize upd H5 p o5 = H6 at S6
      obtain ⟨sc, hat, sc0, sc1⟩ : ∃ sc : Nat, atI L (r : Int) = some (.int sc) ∧ 0 < sc ∧ sc ≤ 10 ^ 11 := by
        rw [← hL]
        have : r = 0 ∨ r = 1 ∨ r = 2 ∨ r = 3 := by omega
        rcases this with rfl | rfl | rfl | rfl
        · exact ⟨2, rfl, by decide, by decide⟩
        · exact ⟨4, rfl, by decide, by decide⟩
        · exact ⟨10, rfl, by decide, by decide⟩
        · exact ⟨10 ^ 11, rfl, by decide, by decide⟩
      refine ⟨lt, _, r, _, rfl, rfl, Evl.sq_of (S6.get 0 rfl), hat, ?_⟩
      have S7 := S6.tail
      have sc2 : (sc : Int) < 2 ^ 200 := Int.lt_of_le_of_lt (show (sc : Int) ≤ 10 ^ 11 by exact_mod_cast sc1) (by decide)
      have n81 := tri10 hn
      have S8 := S7.swap.sink
      have e8 := S7.swap.exS
      have ay8 := ay.ex e8
      have hpr8 : (upd G3 pr (.lst ys)) pr = some (.lst ys) := upd_same
      generalize upd G3 pr (.lst ys) = G8 at S8 e8 ay8 hpr8
      refine ⟨_, rfl, pr, rfl, ⟨_, Evl.sq_of (S8.ex _ _ hpr8)⟩, for_list (K := K) (a := pr) (xs := ys) (fun i σ H' => ∃ (G' : Hp) (v4 v5 v8 v9 v10 : Option V) (o' : HO) (zs : List V) (ts : List Arc), σ = [some (.ref p), some (.int n), some (.ref pr), some (.int (1 + (sh : Int))), v4, v5, some (.ref ou), some (.int sc), v8, v9, v10] ∧ Ex G8 G' ∧ Has G' H' ((ou, .lst zs) :: (p, o') :: l) ∧ WellO (k + 200 + 3 * i) o' ∧ Ats G' zs (ts.map arcD) ∧ (∀ t ∈ ts, arcOk n t ∧ t.2.2 ≤ 10 ^ 11) ∧ ts.length = i)
        ⟨G8, _, _, _, _, _, o5, [], [], rfl, Evl.Ex.refl _, S8, wo5.up (by omega), .nil, fun q h => absurd h List.not_mem_nil, rfl⟩ (fun i σ H' _ h => by
          obtain ⟨G', _, _, _, _, _, _, _, _, _, e, S', _⟩ := h
          exact Evl.sq_of ((e.trans S'.ex) _ _ hpr8)) ?_ ?_⟩
      · rintro i x σ H7 hi ⟨G7, v4, v5, v8, v9, v10, o7, zs, ts, rfl, e7, S9, wo7, az, hts, lts⟩
        obtain ⟨pq, hpq, ax⟩ := ats_get ay8 hi
        have hi2 := (List.getElem?_eq_some_iff.mp hpq).1
        obtain ⟨q1, q2⟩ := hps pq (List.mem_of_getElem? hpq)
        obtain ⟨b, rfl, hb⟩ := (ax.ex (e7.trans S9.ex)).pr
        have lz : zs.length = ts.length := by rw [az.1, List.length_map]
        refine ⟨b, _, rfl, Evl.st_of hb, rfl, _, _, rfl, _, _, rfl, rfl, ?_⟩
        refine ⟨_, rfl, _, rfl, p, sc, o7, _, rfl, S9.get 1 rfl, wo7, by omega, sc0, sc2, fun r1 o8 hr1 wo8 => ?_⟩
        have S10 : Has G7 _ ((ou, .lst zs) :: (p, o8) :: l) := S9.set 1 rfl
        generalize upd H7 p o8 = H8 at S10
        refine ⟨_, rfl, p, 5, o8, _, rfl, S10.get 1 rfl, wo8, by omega, by decide, by decide, fun r2 o9 hr2 wo9 => ?_⟩
        have S11 : Has G7 _ ((ou, .lst zs) :: (p, o9) :: l) := S10.set 1 rfl
        generalize upd H8 p o9 = H9 at S11
        refine ⟨_, _, rfl, rfl, .inr ⟨_, rfl, _, _, rfl, rfl, ?_⟩⟩
        obtain ⟨w1, ew, wb⟩ : ∃ w1 : Nat, (r1 : Int) + (if decide ((r2 : Int) > 0) = true then 1 else 0) = (w1 : Int) ∧ w1 ≤ 10 ^ 11 := by
          split
          · exact ⟨r1 + 1, by push_cast; rfl, by omega⟩
          · exact ⟨r1, by omega, by omega⟩
        rw [show (fun i j : Int => V.int (i + j)) (r1 : Int) (if decide ((r2 : Int) > 0) = true then 1 else 0) = V.int (w1 : Int) from congrArg V.int ew]
        refine ⟨_, rfl, .inl ⟨rfl, _, Evl.sq_of (S11.get 0 rfl)⟩, G7, _, p, o9, _, pq.1, pq.2, w1, rfl, rfl, rfl, rfl, S11.swap, wo9, by omega, fun H10 o10 u t S12 wo10 ht => ?_⟩
        have S13 := S12.sink.swap
        have e13 := S12.exS
        have hu : At (upd G7 u (.tup [.int t.1, .int t.2.1, .int t.2.2])) (.ref u) (arcD t) := at_arc upd_same
        generalize upd G7 u (.tup [.int t.1, .int t.2.1, .int t.2.2]) = G13 at S13 e13 hu
        refine ⟨ou, _, _, rfl, rfl, S13.get 0 rfl, szl (by omega), ?_⟩
        refine ⟨G13, _, _, _, _, _, o10, zs ++ [V.ref u], ts ++ [t], rfl, e7.trans e13, S13.set 0 rfl, wo10.up (by omega), ?_, fun q hq => ?_, by rw [List.length_append, lts]; rfl⟩
        · rw [List.map_append]
          exact (az.ex e13).snoc hu
        · rcases List.mem_append.mp hq with h | h
          · exact hts q h
          · rw [List.mem_singleton.mp h]
            rcases ht with rfl | rfl
            · exact ⟨⟨by show pq.1 < n; omega, q2, by show pq.1 ≠ pq.2; omega⟩, wb⟩
            · exact ⟨⟨q2, by show pq.1 < n; omega, by show pq.2 ≠ pq.1; omega⟩, wb⟩
      · rintro σ H7 ⟨G7, v4, v5, v8, v9, v10, o7, zs, ts, rfl, e7, S9, wo7, az, hts, lts⟩
        have lz : zs.length = ts.length := by rw [az.1, List.length_map]
        refine ⟨_, rfl, p, 5, o7, _, rfl, S9.get 1 rfl, wo7, by omega, by decide, by decide, fun r o8 hr8 wo8 => ?_⟩
        have S10 : Has G7 _ ((ou, .lst zs) :: (p, o8) :: l) := S9.set 1 rfl
        generalize upd H7 p o8 = H8 at S10
        have sq := Evl.sq_of (K := K) (S10.get 0 rfl)
        refine ⟨_, rfl, ou, _, rfl, .inl sq, _, rfl, ou, _, rfl, .inl sq, _, _, rfl, rfl, ?_⟩
        obtain ⟨m, hm, m1, m2, m3, m4⟩ := nuMin3_int (r : Int) ((zs.length : Nat) : Int) (40 - ((zs.length : Nat) : Int))
        refine ⟨_, _, _, .int m, rfl, hm, m, rfl, by omega, by omega, ?_⟩
        refine for_range (lo := 0) (n := m.toNat) (fun j σ H' => ∃ (G' : Hp) (v4 v5 v8 v9 v10 : Option V) (o' : HO) (zs' : List V) (ts' : List Arc), σ = [some (.ref p), some (.int n), some (.ref pr), some (.int (1 + (sh : Int))), v4, v5, some (.ref ou), some (.int sc), v8, v9, v10] ∧ Ex G8 G' ∧ Has G' H' ((ou, .lst zs') :: (p, o') :: l) ∧ WellO (k + 500 + 3 * j) o' ∧ Ats G' zs' (ts'.map arcD) ∧ (∀ t ∈ ts', arcOk n t ∧ t.2.2 ≤ 10 ^ 11) ∧ ts'.length = ts.length + j)
          ⟨G7, _, _, _, _, _, o8, zs, ts, rfl, e7, S10, wo8.up (by omega), az, hts, rfl⟩ ?_ ?_
        · rintro j σ H9 hj ⟨G9, v4, v5, v8, v9, v10, o9, zs', ts', rfl, e9, S11, wo9, az', hts', lts'⟩
          have lz' : zs'.length = ts'.length := by rw [az'.1, List.length_map]
          have pos : 0 < zs'.length := by omega
          have big : ((zs'.length + 1 : Nat) : Int) < 2 ^ 200 := Int.lt_of_le_of_lt (show ((zs'.length + 1 : Nat) : Int) ≤ 1000 by omega) (by decide)
          have sq' := Evl.sq_of (K := K) (S11.get 0 rfl)
          refine ⟨_, rfl, _, rfl, _, rfl, ou, _, rfl, .inl sq', p, zs'.length, o9, _, rfl, S11.get 1 rfl, wo9, by omega, pos, by omega, fun r1 o10 hr1 wo10 => ?_⟩
          have S12 : Has G9 _ ((ou, .lst zs') :: (p, o10) :: l) := S11.set 1 rfl
          generalize upd H9 p o10 = H10 at S12
          obtain ⟨t, htt⟩ : ∃ t, ts'[r1]? = some t := ⟨ts'[r1], List.getElem?_eq_getElem (by omega)⟩
          have hz : zs'[r1]? = some zs'[r1] := List.getElem?_eq_getElem hr1
          obtain ⟨t2, ht2, at2⟩ := ats_get az' hz
          rw [htt] at ht2
          cases ht2
          have sq2 := Evl.sq_of (K := K) (S12.get 0 rfl)
          obtain ⟨b, eb, hb⟩ := (at2.ex S12.ex).arc
          rw [eb] at hz
          refine ⟨ou, zs', r1, .ref b, rfl, rfl, sq2, atI_nat (j := r1) hz, ?_⟩
          refine ⟨_, rfl, .inl ⟨rfl, _, sq2⟩, _, rfl, _, rfl, ou, _, rfl, .inl sq2, _, _, rfl, rfl, p, zs'.length + 1, o10, _, rfl, S12.get 1 rfl, wo10, by omega, by omega, big, fun r2 o11 hr2 wo11 => ?_⟩
          have S13 : Has G9 _ ((ou, .lst zs') :: (p, o11) :: l) := S12.set 1 rfl
          have hb11 : (upd H10 p o11) b = some (.tup [.int t.1, .int t.2.1, .int t.2.2]) := by
            obtain ⟨b2, eb2, hb2⟩ := (at2.ex S13.ex).arc
            rw [eb] at eb2
            cases eb2
            exact hb2
          generalize upd H10 p o11 = H11 at S13 hb11
          refine ⟨_, rfl, .inr ⟨b, _, 1, _, rfl, rfl, Evl.st_of hb11, rfl, _, rfl, .inr ⟨b, _, 0, _, rfl, rfl, Evl.st_of hb11, rfl, _, rfl, _, rfl, p, sc, o11, _, rfl, S13.get 1 rfl, wo11, by omega, sc0, sc2, fun r3 o12 hr3 wo12 => ⟨sz (by show 3 ≤ 100000; decide), fun u nu => ?_⟩⟩⟩⟩
          have S14 : Has G9 _ ((ou, .lst zs') :: (p, o12) :: l) := S13.set 1 rfl
          generalize upd H11 p o12 = H12 at S14 nu
          have S15 := S14.new (o := .tup [.int t.2.1, .int t.1, .int r3]) nu
          generalize upd H12 u (.tup [.int t.2.1, .int t.1, .int r3]) = H13 at S15
          have S16 := S15.sink
          have e16 := S15.exS
          have hu : At (upd G9 u (.tup [.int t.2.1, .int t.1, .int r3])) (.ref u) (arcD (t.2.1, t.1, r3)) := at_arc (t := (t.2.1, t.1, r3)) upd_same
          generalize upd G9 u (.tup [.int t.2.1, .int t.1, .int r3]) = G16 at S16 e16 hu
          refine ⟨ou, zs', r2, .ref u, rfl, rfl, S16.get 0 rfl, by have : sizeLine = 16777216 := sizeLine_eq; omega, by omega, by omega, ?_⟩
          rw [show ((r2 : Nat) : Int).toNat = r2 by omega]
          obtain ⟨⟨k1, k2, k3⟩, _⟩ := hts' t (List.mem_of_getElem? htt)
          refine ⟨G16, _, _, _, _, _, o12, _, ts'.take r2 ++ [(t.2.1, t.1, r3)] ++ ts'.drop r2, rfl, e9.trans e16, S16.set 0 rfl, wo12.up (by omega), ats_ins (az'.ex e16) hu r2, fun q hq => ?_, ?_⟩
          · rcases List.mem_append.mp hq with h | h
            · rcases List.mem_append.mp h with h | h
              · exact hts' q (List.mem_of_mem_take h)
              · rw [List.mem_singleton.mp h]
                exact ⟨⟨k2, k1, fun e => k3 e.symm⟩, by show r3 ≤ 10 ^ 11; omega⟩
            · exact hts' q (List.mem_of_mem_drop h)
          · rw [List.length_append, List.length_append, List.length_take, List.length_drop]
            show min r2 ts'.length + 1 + (ts'.length - r2) = _
            omega
        · rintro σ H9 ⟨G9, v4, v5, v8, v9, v10, o9, zs', ts', rfl, e9, S11, wo9, az', hts', lts'⟩
          have lz' : zs'.length = ts'.length := by rw [az'.1, List.length_map]
          refine ⟨_, rfl, _, rfl, G9, _, p, ou, o9, _, zs', rfl, S11.swap, wo9, by omega, Evl.sq_of (S11.get 0 rfl), fun e => ?_, by omega, fun H10 o10 t rs S12 wo10 pm => ?_⟩
          · have := S11.nd
            rw [List.map_cons, List.map_cons, List.nodup_cons] at this
            exact this.1 (by rw [e]; exact List.mem_cons_self)
          obtain ⟨us, pu, au⟩ := ats_permW pm az'
          exact q G9 H10 o10 t rs us ((e3.trans e8).trans e9) (S12.sub (((List.sublist_cons_self _ _).cons₂ _).cons₂ _)) (wo10.up (by omega)) au (fun t ht => (hts' t (pu.mem_iff.mp ht)).1) (by rw [pu.length_eq]; omega) (fun t ht => (hts' t (pu.mem_iff.mp ht)).2)
end
end TW
set_option Elab.async false
set_option linter.all false
set_option maxRecDepth 100000
set_option maxHeartbeats 1000000
namespace TW
open PySem PySem.Spec PyProof.Rows L2
/-! a place taken out: the arithmetic -/
def atB (p : Nat) (t : Arc) : Bool := decide (p = t.1 ∨ p = t.2.1)
def farE (p : Nat) (t : Arc) : Nat := if t.1 = p then t.2.1 else t.1
def nearT (ts : List Arc) (p : Nat) : List (Nat × Nat) := (ts.filter (atB p)).map fun t => (farE p t, t.2.2)
def lowT (p k : Nat) : Nat := if p < k then k - 1 else k
def facT (d : Nat) : Nat := if d = 3 then 2 else 1
def keptT (ts : List Arc) (p c : Nat) : List Arc := (ts.filter fun t => !atB p t).map fun t => (t.1, t.2.1, c * t.2.2)
def freeT (T w : Nat) : Nat := min w (T - w)
def triT (a b c : Nat × Nat) : List Arc :=
  let T := a.2 + b.2 + c.2
  let F := freeT T a.2 + freeT T b.2 + freeT T c.2
  [(b.1, c.1, F - 2 * freeT T a.2), (a.1, c.1, F - 2 * freeT T b.2), (a.1, b.1, F - 2 * freeT T c.2)]
def insteadT : List (Nat × Nat) → List Arc
  | [a, b] => [(a.1, b.1, min a.2 b.2)]
  | [a, b, c] => triT a b c
  | _ => []
def lowA (p : Nat) (t : Arc) : Arc := (lowT p t.1, lowT p t.2.1, t.2.2)
def outT (ts : List Arc) (p : Nat) : List Arc := (keptT ts p (facT (nearT ts p).length) ++ insteadT (nearT ts p)).map (lowA p)
/-- the place p told b, the others as f says of their new names -/
def plB (f : Nat → Bool) (p : Nat) (b : Bool) (k : Nat) : Bool := if k = p then b else f (lowT p k)
theorem cutA_nil (f : Nat → Bool) : cutA [] f = 0 := rfl
theorem cutA_append (f : Nat → Bool) : ∀ X Y : List Arc, cutA (X ++ Y) f = cutA X f + cutA Y f
  | [], Y => by rw [List.nil_append, cutA_nil, Nat.zero_add]
  | t :: X, Y => by rw [List.cons_append, cutA_cons, cutA_cons, cutA_append f X Y, Nat.add_assoc]
theorem cut_scale (c : Nat) (f : Nat → Bool) : ∀ X : List Arc, cutA (X.map fun t => (t.1, t.2.1, c * t.2.2)) f = c * cutA X f
  | [] => by rw [List.map_nil, cutA_nil, Nat.mul_zero]
  | t :: X => by
    rw [List.map_cons, cutA_cons, cutA_cons, cut_scale c f X, Nat.mul_add]
    congr 1
    unfold wIf
    show (if _ then c * t.2.2 else 0) = _
    split
    · rfl
    · rw [Nat.mul_zero]
def sideN (near : List (Nat × Nat)) (g : Nat → Bool) (b : Bool) : Nat := (near.map fun q => wIf (g q.1 != b) q.2).sum
theorem cut_pl (f : Nat → Bool) (p : Nat) (b : Bool) : ∀ {ts : List Arc}, (∀ t ∈ ts, t.1 ≠ t.2.1) → cutA ts (plB f p b) = cutA ((ts.filter fun t => !atB p t).map (lowA p)) f + sideN (nearT ts p) (fun k => f (lowT p k)) b
  | [], _ => rfl
  | t :: ts, h => by
    have ih := cut_pl f p b (ts := ts) fun s hs => h s (List.mem_cons_of_mem _ hs)
    have ht := h t List.mem_cons_self
    rw [cutA_cons, ih]
    unfold nearT
    cases ha : atB p t with
    | true =>
      rw [List.filter_cons_of_neg (p := fun t => !atB p t) (by rw [ha]; decide), List.filter_cons_of_pos (p := atB p) ha, List.map_cons (f := fun t => (farE p t, t.2.2))]
      unfold sideN
      rw [List.map_cons, List.sum_cons]
      have hp := of_decide_eq_true ha
      have e : (plB f p b t.1 != plB f p b t.2.1) = (f (lowT p (farE p t)) != b) := by
        unfold plB farE
        rcases hp with e | e
        · rw [if_pos e.symm, if_neg (by omega), if_pos e.symm]
          cases b <;> cases f (lowT p t.2.1) <;> rfl
        · rw [if_neg (by omega), if_pos e.symm, if_neg (by omega)]
      rw [e]
      simp only []
      omega
    | false =>
      rw [List.filter_cons_of_pos (p := fun t => !atB p t) (by rw [ha]; decide), List.filter_cons_of_neg (p := atB p) (by rw [ha]; decide), List.map_cons, cutA_cons]
      have hp := of_decide_eq_false ha
      have e : (plB f p b t.1 != plB f p b t.2.1) = (f (lowA p t).1 != f (lowA p t).2.1) := by
        unfold plB lowA
        rw [if_neg (by omega), if_neg (by omega)]
      rw [e]
      show wIf _ t.2.2 + (_ + _) = wIf _ t.2.2 + _ + _
      omega
theorem cut_instead (g : Nat → Bool) : ∀ {near : List (Nat × Nat)}, near.length ≤ 3 → cutA (insteadT near) g = facT near.length * min (sideN near g true) (sideN near g false)
  | [], _ => rfl
  | [a], _ => by
    show 0 = 1 * min (wIf (g a.1 != true) a.2 + 0) (wIf (g a.1 != false) a.2 + 0)
    unfold wIf
    cases g a.1 <;> simp
  | [a, b], _ => by
    rw [show insteadT [a, b] = [(a.1, b.1, min a.2 b.2)] from rfl, cutA_cons, cutA_nil]
    show wIf (g a.1 != g b.1) (min a.2 b.2) + 0 = 1 * min (wIf (g a.1 != true) a.2 + (wIf (g b.1 != true) b.2 + 0)) (wIf (g a.1 != false) a.2 + (wIf (g b.1 != false) b.2 + 0))
    unfold wIf
    cases g a.1 <;> cases g b.1 <;> simp <;> omega
  | [a, b, c], _ => by
    obtain ⟨a1, a2⟩ := a
    obtain ⟨b1, b2⟩ := b
    obtain ⟨c1, c2⟩ := c
    rw [show insteadT [(a1, a2), (b1, b2), (c1, c2)] = triT (a1, a2) (b1, b2) (c1, c2) from rfl]
    unfold triT freeT
    simp only []
    rw [cutA_cons, cutA_cons, cutA_cons, cutA_nil]
    show _ = 2 * min (wIf (g a1 != true) a2 + (wIf (g b1 != true) b2 + (wIf (g c1 != true) c2 + 0))) (wIf (g a1 != false) a2 + (wIf (g b1 != false) b2 + (wIf (g c1 != false) c2 + 0)))
    unfold wIf
    cases g a1 <;> cases g b1 <;> cases g c1 <;> simp <;> omega
  | a :: b :: c :: d :: r, h => absurd h (by show ¬ r.length + 1 + 1 + 1 + 1 ≤ 3; omega)
theorem map_low (p c : Nat) (L : List Arc) : (L.map fun t => (t.1, t.2.1, c * t.2.2)).map (lowA p) = (L.map (lowA p)).map fun t => (t.1, t.2.1, c * t.2.2) := by
  rw [List.map_map, List.map_map]
  rfl
theorem cut_lowA (p : Nat) (f : Nat → Bool) : ∀ L : List Arc, cutA (L.map (lowA p)) f = cutA L fun k => f (lowT p k)
  | [] => rfl
  | t :: L => by
    rw [List.map_cons, cutA_cons, cutA_cons, cut_lowA p f L]
    rfl
/-- the cut of the web with the place taken out -/
theorem cut_out {ts : List Arc} (h : ∀ t ∈ ts, t.1 ≠ t.2.1) {p : Nat} (few : (nearT ts p).length ≤ 3) (f : Nat → Bool) : cutA (outT ts p) f = facT (nearT ts p).length * min (cutA ts (plB f p true)) (cutA ts (plB f p false)) := by
  rw [cut_pl f p true h, cut_pl f p false h]
  unfold outT keptT
  rw [List.map_append, cutA_append, map_low, cut_scale, cut_lowA p f (insteadT _), cut_instead _ few, ← Nat.mul_add]
  congr 1
  omega
/-! places below a new number of them -/
theorem lowT_lt {n p k : Nat} (hp : p < n) (hk : k < n) (hne : k ≠ p) : lowT p k < n - 1 := by
  unfold lowT
  split <;> omega
theorem lowT_inj {p j k : Nat} (hj : j ≠ p) (hk : k ≠ p) (e : lowT p j = lowT p k) : j = k := by
  unfold lowT at e
  split at e <;> split at e <;> omega
theorem near_pw {n : Nat} {ts : List Arc} (net : Net n ts) (p : Nat) : (nearT ts p).Pairwise (fun a b => a.1 ≠ b.1) := by
  unfold nearT
  rw [List.pairwise_map]
  have pw : ts.Pairwise fun s t => s.1 < t.1 ∨ (s.1 = t.1 ∧ s.2.1 < t.2.1) := by
    have h := sumA_pw n ts
    rw [net.sum] at h
    exact h
  refine List.Pairwise.imp_of_mem (fun {s t} hs ht h e => ?_) (pw.sublist List.filter_sublist)
  obtain ⟨s1, s2⟩ := List.mem_filter.mp hs
  obtain ⟨t1, t2⟩ := List.mem_filter.mp ht
  have ps := of_decide_eq_true s2
  have pt := of_decide_eq_true t2
  obtain ⟨os, _⟩ := net.ok s s1
  obtain ⟨ot, _⟩ := net.ok t t1
  simp only [farE] at e
  split at e <;> split at e <;> omega
theorem near_ok {n : Nat} {ts : List Arc} (net : Net n ts) (p : Nat) : ∀ q ∈ nearT ts p, q.1 < n ∧ q.1 ≠ p := fun q hq => by
  obtain ⟨t, ht, rfl⟩ := List.mem_map.mp hq
  obtain ⟨t1, t2⟩ := List.mem_filter.mp ht
  have pt := of_decide_eq_true t2
  obtain ⟨o1, o2, _⟩ := net.ok t t1
  show farE p t < n ∧ farE p t ≠ p
  unfold farE
  split <;> omega
theorem instead_ok {n p : Nat} : ∀ {near : List (Nat × Nat)}, near.Pairwise (fun a b => a.1 ≠ b.1) → (∀ q ∈ near, q.1 < n ∧ q.1 ≠ p) → ∀ t ∈ insteadT near, (t.1 < n ∧ t.1 ≠ p) ∧ (t.2.1 < n ∧ t.2.1 ≠ p) ∧ t.1 ≠ t.2.1
  | [], _, _ => fun t ht => absurd ht List.not_mem_nil
  | [a], _, _ => fun t ht => absurd ht List.not_mem_nil
  | [a, b], pw, h => fun t ht => by
    rw [List.mem_singleton.mp ht]
    exact ⟨h a (by simp), h b (by simp), (List.pairwise_cons.mp pw).1 b (by simp)⟩
  | [a, b, c], pw, h => fun t ht => by
    have hab := (List.pairwise_cons.mp pw).1 b (by simp)
    have hac := (List.pairwise_cons.mp pw).1 c (by simp)
    have hbc := (List.pairwise_cons.mp (List.pairwise_cons.mp pw).2).1 c (by simp)
    have ha := h a (by simp)
    have hb := h b (by simp)
    have hc := h c (by simp)
    have ht' : t ∈ triT a b c := ht
    unfold triT at ht'
    simp only [List.mem_cons, List.not_mem_nil, or_false] at ht'
    rcases ht' with rfl | rfl | rfl
    · exact ⟨hb, hc, hbc⟩
    · exact ⟨ha, hc, hac⟩
    · exact ⟨ha, hb, hab⟩
  | a :: b :: c :: d :: r, _, _ => fun t ht => absurd ht List.not_mem_nil
theorem instead_len : ∀ near : List (Nat × Nat), (insteadT near).length ≤ 3
  | [] => by show 0 ≤ 3; omega
  | [a] => by show 0 ≤ 3; omega
  | [a, b] => by show 1 ≤ 3; omega
  | [a, b, c] => by show 3 ≤ 3; omega
  | a :: b :: c :: d :: r => by show 0 ≤ 3; omega
theorem out_len (ts : List Arc) (p : Nat) : (outT ts p).length ≤ ts.length + 3 := by
  unfold outT keptT
  rw [List.length_map, List.length_append, List.length_map]
  have := List.length_filter_le (fun t => !atB p t) ts
  have := instead_len (nearT ts p)
  omega
theorem out_ok {n : Nat} {ts : List Arc} (net : Net n ts) {p : Nat} (hp : p < n) : ∀ t ∈ outT ts p, arcOk (n - 1) t := fun t ht => by
  obtain ⟨s, hs, rfl⟩ := List.mem_map.mp ht
  have key : (s.1 < n ∧ s.1 ≠ p) ∧ (s.2.1 < n ∧ s.2.1 ≠ p) ∧ s.1 ≠ s.2.1 := by
    rcases List.mem_append.mp hs with h | h
    · obtain ⟨u, hu, rfl⟩ := List.mem_map.mp h
      obtain ⟨u1, u2⟩ := List.mem_filter.mp hu
      obtain ⟨o1, o2, _⟩ := net.ok u u1
      have : ¬ (p = u.1 ∨ p = u.2.1) := by
        unfold atB at u2
        simpa using u2
      show (u.1 < n ∧ u.1 ≠ p) ∧ (u.2.1 < n ∧ u.2.1 ≠ p) ∧ u.1 ≠ u.2.1
      omega
    · exact instead_ok (near_pw net p) (near_ok net p) s h
  obtain ⟨k1, k2, k3⟩ := key
  exact ⟨lowT_lt hp k1.1 k1.2, lowT_lt hp k2.1 k2.2, fun e => k3 (lowT_inj k1.2 k2.2 e)⟩
end TW
set_option Elab.async false
set_option linter.all false
set_option maxRecDepth 100000
set_option maxHeartbeats 1000000
namespace TW
open PySem PySem.Spec PyProof.Rows L2
theorem Has.sinkV {G H : Hp} {l : List (Addr × HO)} {u : Addr} {o : HO} (h : Has G H ((u, o) :: l)) : ∃ G', Ex G G' ∧ G' u = some o ∧ Has G' H l := ⟨_, h.exS, upd_same, h.sink⟩
theorem Has.newV {G H : Hp} {l : List (Addr × HO)} {u : Addr} {o : HO} (h : Has G H l) (nu : H u = none) : ∃ G', Ex G G' ∧ G' u = some o ∧ Has G' (upd H u o) l := (h.new nu).sinkV
section
variable {P : Program} {w : World} {K : PySem.W.Frag} {mg : Str → Option Value} {base : Heap} {C N : Addr}
/-! _lowered -/
theorem sc__lowered : FnScope ["old", "place"] ["old", "place"] (defScope s__lowered) := ⟨rfl, rfl, rfl, by decide +kernel, rfl, by decide +kernel, by decide +kernel⟩
def spLowered : Sp := fun vs H Q _ => ∃ k p : Nat, vs = [.int k, .int p] ∧ Q (.int (lowT p k : Nat)) H
theorem ok_lowered (D : Dfn K mg "_lowered" s__lowered ["old", "place"]) : Ok P w K mg base 1 "_lowered" ["old", "place"] spLowered := D.ok fun f fd F => by
  refine F.ok sc__lowered (fun vs H Q E h => ?_) (fun cdv A outer s H vs Q E hr h => ?_)
  · obtain ⟨k, p, rfl, _⟩ := h
    rfl
  · obtain ⟨k, p, rfl, c⟩ := h
    refine ⟨_, (pss_one (ps_ret (pe_ifExp (pt_cmpR op_gt (pv 0) (pv 1) (nomark _)) (pe_op op_sub (pv 0) pe_int) (pv 0)))), ?_⟩
    refine ⟨_, rfl, _, rfl, _, _, rfl, rfl, _, rfl, ?_⟩
    unfold lowT at c
    refine ite2 (fun hd => ?_) (fun hd => ?_)
    · have d : p < k := by
        have := of_decide_eq_true hd
        omega
      rw [if_pos d] at c
      refine ⟨_, rfl, _, _, rfl, rfl, ?_⟩
      rw [show (fun i j : Int => V.int (i - j)) (k : Int) 1 = V.int ((k - 1 : Nat) : Int) from congrArg V.int (by omega)]
      exact c
    · have d : ¬ p < k := fun h => hd (decide_eq_true (by omega))
      rw [if_neg d] at c
      exact ⟨_, rfl, c⟩
/-! _ties_at -/
abbrev NTA : List Str := ["web", "place", "low", "high", "weight"]
theorem sc__ties_at : FnScope NTA ["web", "place"] (defScope s__ties_at) := ⟨rfl, rfl, rfl, by decide +kernel, rfl, by decide +kernel, by decide +kernel⟩
def spTiesAt (C : Addr) : Sp := fun vs H Q _ => ∃ (G : Hp) (l : List (Addr × HO)) (a : Addr) (p n : Nat) (ts : List Arc), vs = [.ref a, .int p] ∧ Has G H l ∧ WebAt C G a n ts ∧ ts.length ≤ 1000 ∧
  ∀ (G' H' : Hp) (t : Addr) (xs : List V), Ex G G' → Has G' H' ((t, .lst xs) :: l) → Ats G' xs ((nearT ts p).map prD) → Q (.ref t) H'
theorem ok_ties_at {gi : Addr} {gid : FuncData} (D : Dfn K mg "_ties_at" s__ties_at ["web", "place"]) (It : WI P w K mg base C gi gid) : Ok P w K mg base 3 "_ties_at" ["web", "place"] (spTiesAt C) := D.ok fun f fd F => by
  refine F.ok sc__ties_at (fun vs H Q E h => ?_) (fun cdv A outer s H vs Q E hr h => ?_)
  · obtain ⟨G, l, a, p, n, ts, rfl, _⟩ := h
    rfl
  · obtain ⟨G, l, a, p, n, ts, rfl, S, web, lts, k⟩ := h
    obtain ⟨dx, tl, xs, h1, h2, h3⟩ := id web
    refine ⟨_, (pss_one (ps_ret (pe_lc (own := [("low", 2), ("high", 3), ("weight", 4)]) (g := gTup K 3 (gCons (gName 2) (gCons (gName 3) (gCons (gName 4) gNil)))) rfl sc__ties_at.nd (pi_own (f := "_ties") (pv 0) It.at_ It.fn It.ok It.b (hr.mono (by decide))) (blkOk_by (N := NTA) (own := [("low", 2), ("high", 3), ("weight", 4)]) (sc := defScope s__ties_at) (by decide +kernel)) (fun _ _ _ _ _ => pg_tup rfl (pgs_cons (pg_name (i := 2) sc__ties_at.nd rfl (Or.inl rfl)) (pgs_cons (pg_name (i := 3) sc__ties_at.nd rfl (Or.inl rfl)) (pgs_cons (pg_name (i := 4) sc__ties_at.nd rfl (Or.inl rfl)) pgs_nil))))
        (fun _ _ _ _ _ => pts_one (pt_cmpR (op_inK (K := K)) (pv 1) (pe_tup (pa_cons (pv 2) (pa_cons (pv 3) pa_nil))) (by rfl))) (fun _ _ _ _ _ => (pe_tup (pa_cons (pe_ifExp (pt_cmpR op_eq (pv 2) (pv 1) (nomark _)) (pv 3) (pv 2)) (pa_cons (pv 4) pa_nil))))))), ?_⟩
    refine ⟨_, rfl, a, dx, _, tl, _, rfl, S.ex _ _ h1, wf_ties n tl, Evl.st_of (S.ex _ _ h2), fun Dl hD => ?_⟩
    refine lc_tup (K := K) (a := tl) (xs := xs) (fun i H' => ∃ (G' : Hp) (ys : List V), Ex G G' ∧ Has G' H' ((Dl, .lst ys) :: l) ∧ Ats G' ys ((((ts.take i).filter (atB p)).map fun t => (farE p t, t.2.2)).map prD)) ⟨G, [], Evl.Ex.refl _, S.new hD, .nil⟩ (fun i H' _ h => by
      obtain ⟨G', _, e, S', _⟩ := h
      exact Evl.st_of ((e.trans S'.ex) _ _ h2)) ?_ ?_
    · rintro i x H2 hi ⟨G2, ys, e2, S2, ay⟩
      obtain ⟨t, ht, ax⟩ := ats_get h3 hi
      obtain ⟨b, rfl, hb⟩ := (ax.ex (e2.trans S2.ex)).arc
      have ly : ys.length ≤ ts.length := by
        rw [ay.1, List.length_map, List.length_map]
        exact Nat.le_trans (List.length_filter_le _ _) (List.length_take_le' _ _)
      refine ⟨b, _, rfl, Evl.st_of hb, rfl, _, _, rfl, _, _, rfl, _, _, rfl, rfl, rfl, ?_⟩
      refine ⟨_, rfl, _, rfl, _, rfl, sz (by show 2 ≤ 100000; decide), fun v nv => ?_⟩
      have S3 := S2.new (o := .tup [.int t.1, .int t.2.1]) nv
      generalize upd H2 v (.tup [.int t.1, .int t.2.1]) = H3 at S3
      refine ⟨v, _, rfl, .inr (Evl.st_of (S3.get 0 rfl)), rfl, rfl, _, rfl, ?_⟩
      rw [if_neg (by decide), show inV (V.int (p : Int)) [V.int (t.1 : Int), V.int (t.2.1 : Int)] = decide ((p : Int) ∈ [(t.1 : Int), (t.2.1 : Int)]) from inV_int (p : Int) [(t.1 : Int), (t.2.1 : Int)], in2]
      have S4 := S3.tail
      show if atB p t = true then _ else _
      cases hc : atB p t with
      | true =>
        have fin : ∀ q : Nat, q = farE p t → ∀ z, H3 z = none → ∃ acc, (upd H3 z (.tup [.int q, .int t.2.2])) Dl = some (.lst acc) ∧ acc.length < sizeLine ∧ ∃ (G' : Hp) (ys' : List V), Ex G G' ∧ Has G' (upd (upd H3 z (.tup [.int q, .int t.2.2])) Dl (.lst (acc ++ [.ref z]))) ((Dl, .lst ys') :: l) ∧ Ats G' ys' ((((ts.take (i + 1)).filter (atB p)).map fun t => (farE p t, t.2.2)).map prD) := fun q eq z nz => by
          have S5 := S4.new (o := .tup [.int q, .int t.2.2]) nz
          have aP : At (upd G2 z (.tup [.int q, .int t.2.2])) (.ref z) (prD (farE p t, t.2.2)) := by
            rw [← eq]
            exact at_pr (p := (q, t.2.2)) upd_same
          have S6 : Has (upd G2 z (.tup [.int q, .int t.2.2])) _ ((Dl, .lst (ys ++ [V.ref z])) :: l) := S5.sink.set 0 rfl
          refine ⟨ys, S5.get 1 rfl, by have : sizeLine = 16777216 := sizeLine_eq; omega, _, ys ++ [V.ref z], e2.trans S5.exS, S6, ?_⟩
          rw [filt_yes (f := atB p) ht hc, List.map_append, List.map_append]
          exact (ay.ex S5.exS).snoc aP
        refine ⟨_, rfl, _, rfl, rfl, _, rfl, ?_⟩
        rw [decI]
        refine ite2 (fun e => ?_) (fun e => ?_)
        · exact ⟨_, rfl, _, rfl, sz (by show 2 ≤ 100000; decide), fun z nz => fin t.2.1 (by unfold farE; rw [if_pos (of_decide_eq_true e)]) z nz⟩
        · exact ⟨_, rfl, _, rfl, sz (by show 2 ≤ 100000; decide), fun z nz => fin t.1 (by unfold farE; rw [if_neg (fun h => e (decide_eq_true h))]) z nz⟩
      | false =>
        refine ⟨G2, ys, e2, S4, ?_⟩
        rw [filt_no (f := atB p) ht hc]
        exact ay
    · rintro H2 ⟨G2, ys, e2, S2, ay⟩
      have lx : xs.length = ts.length := by rw [h3.1, List.length_map]
      rw [lx, List.take_length] at ay
      exact k G2 H2 Dl ys e2 S2 ay
end
end TW
set_option Elab.async false
set_option linter.all false
set_option maxRecDepth 100000
set_option maxHeartbeats 1000000
namespace TW
open PySem PySem.Spec PyProof.Rows L2
theorem cutV_to (xs : List V) (k : Nat) : cutV xs none (some (k : Int)) = xs.take k := by
  unfold cutV
  rw [HT.sIx_none, HT.sIx_nat]
  simp only [List.drop_zero, Nat.sub_zero]
  by_cases h : k ≤ xs.length
  · rw [Nat.min_eq_left h]
  · rw [Nat.min_eq_right (by omega), List.take_length, List.take_of_length_le (by omega)]
theorem cutV_from (xs : List V) (k : Nat) : cutV xs (some (k : Int)) none = xs.drop k := by
  unfold cutV
  rw [HT.sIx_none, HT.sIx_nat]
  by_cases h : k ≤ xs.length
  · rw [Nat.min_eq_left h, List.take_of_length_le (by rw [List.length_drop]; omega)]
  · rw [Nat.min_eq_right (by omega), List.drop_length, List.drop_eq_nil_of_le (by omega), List.take_nil]
def prO (q : Nat × Nat) : HO := .tup [.int q.1, .int q.2]
theorem ats3 {H : Hp} {xs : List V} {a b c : Nat × Nat} (h : Ats H xs ([a, b, c].map prD)) : ∃ x y z, xs = [.ref x, .ref y, .ref z] ∧ H x = some (prO a) ∧ H y = some (prO b) ∧ H z = some (prO c) := by
  have len := h.1
  match xs, len with
  | [u, v, w], _ =>
    obtain ⟨q, hq, au⟩ := ats_get (l := [a, b, c]) h (show ([u, v, w] : List V)[0]? = some u from rfl)
    cases hq
    obtain ⟨q, hq, av⟩ := ats_get (l := [a, b, c]) h (show ([u, v, w] : List V)[1]? = some v from rfl)
    cases hq
    obtain ⟨q, hq, aw⟩ := ats_get (l := [a, b, c]) h (show ([u, v, w] : List V)[2]? = some w from rfl)
    cases hq
    obtain ⟨x, rfl, hx⟩ := au.pr
    obtain ⟨y, rfl, hy⟩ := av.pr
    obtain ⟨z, rfl, hz⟩ := aw.pr
    exact ⟨x, y, z, rfl, hx, hy, hz⟩
theorem ats2 {H : Hp} {xs : List V} {a b : Nat × Nat} (h : Ats H xs ([a, b].map prD)) : ∃ x y, xs = [.ref x, .ref y] ∧ H x = some (prO a) ∧ H y = some (prO b) := by
  have len := h.1
  match xs, len with
  | [u, v], _ =>
    obtain ⟨q, hq, au⟩ := ats_get (l := [a, b]) h (show ([u, v] : List V)[0]? = some u from rfl)
    cases hq
    obtain ⟨q, hq, av⟩ := ats_get (l := [a, b]) h (show ([u, v] : List V)[1]? = some v from rfl)
    cases hq
    obtain ⟨x, rfl, hx⟩ := au.pr
    obtain ⟨y, rfl, hy⟩ := av.pr
    exact ⟨x, y, rfl, hx, hy⟩
section
variable {P : Program} {w : World} {K : PySem.W.Frag} {mg : Str → Option Value} {base : Heap} {C N : Addr}
/-! _triangle -/
abbrev NTRI : List Str := ["near", "total", "free", "ties", "k", "place", "_", "other_place", "weight"]
theorem sc__triangle : FnScope NTRI ["near"] (defScope s__triangle) := ⟨rfl, rfl, rfl, by decide +kernel, rfl, by decide +kernel, by decide +kernel⟩
def spTriangle : Sp := fun vs H Q _ => ∃ (G : Hp) (l : List (Addr × HO)) (nr : Addr) (xs : List V) (a b c : Nat × Nat), vs = [.ref nr] ∧ Has G H l ∧ G nr = some (.lst xs) ∧ Ats G xs ([a, b, c].map prD) ∧
  ∀ (G' H' : Hp) (t : Addr) (ys : List V), Ex G G' → Has G' H' ((t, .lst ys) :: l) → Ats G' ys ((triT a b c).map arcD) → Q (.ref t) H'
theorem ok_triangle (D : Dfn K mg "_triangle" s__triangle ["near"]) (z : Z mg) (zmin : mg "min" = none) (zsum : mg "sum" = none) : Ok P w K mg base 1 "_triangle" ["near"] spTriangle := D.ok fun f fd F => by
  refine F.ok sc__triangle (fun vs H Q E h => ?_) (fun cdv A outer s H vs Q E hr h => ?_)
  · obtain ⟨G, l, nr, xs, a, b, c, rfl, _⟩ := h
    rfl
  · obtain ⟨G, l, nr, xs, a, b, c, rfl, S, hnr, hx, k⟩ := h
    refine ⟨_, (pss_cons (ps_set (i := 1) sc__triangle.nd rfl (Or.inr rfl) (pe_callB (cr_sum rfl) (by rfl) zsum (by decide +kernel) (pa_cons (pe_lc (own := [("_", 6), ("weight", 8)]) (g := gTup K 2 (gCons (gName 6) (gCons (gName 8) gNil))) rfl sc__triangle.nd (pi_list (pv 0)) (blkOk_by (N := NTRI) (own := [("_", 6), ("weight", 8)]) (sc := defScope s__triangle) (by decide +kernel)) (fun _ _ _ _ _ => pg_tup rfl (pgs_cons (pg_name (i := 6) sc__triangle.nd rfl (Or.inl rfl)) (pgs_cons (pg_name (i := 8) sc__triangle.nd rfl (Or.inl rfl)) pgs_nil))) (fun _ _ _ _ _ => pts_nil) (fun _ _ _ _ _ => (pv 8))) pa_nil)))
      (pss_cons (ps_setLc (i := 2) (own := [("_", 6), ("weight", 8)]) (g := gTup K 2 (gCons (gName 6) (gCons (gName 8) gNil))) rfl sc__triangle.nd rfl rfl (sw_true rfl rfl rfl (by decide +kernel)) (pi_list (pv 0)) (blkOk_by (N := NTRI) (own := [("_", 6), ("weight", 8)]) (sc := defScope s__triangle) (by decide +kernel)) (fun _ _ _ _ _ => pg_tup rfl (pgs_cons (pg_name (i := 6) sc__triangle.nd rfl (Or.inl rfl)) (pgs_cons (pg_name (i := 8) sc__triangle.nd rfl (Or.inl rfl)) pgs_nil))) (fun _ _ _ _ _ => pts_nil) (fun _ _ _ _ _ => (pe_callB (call_min2 rfl) (by rfl) zmin (by decide +kernel) (pa_cons (pv 8) (pa_cons (pe_op op_sub (pv 1) (pv 8)) pa_nil)))))
      (pss_cons (ps_set (i := 3) sc__triangle.nd rfl (Or.inl rfl) (pe_lst pa_nil))
      (pss_cons (ps_for PassesOwn.never rfl (pi_range1 (by rfl) z.range (pa_cons pe_int pa_nil)) (pg_name (i := 4) sc__triangle.nd rfl (Or.inl rfl))
        (pss_cons (ps_asg (pe_op op_cat (pe_slice sl_list (pv 0) po_none (po_some (pv 4))) (pe_slice sl_list (pv 0) (po_some (pe_op op_add (pv 4) pe_int)) po_none)) (pg_lst rfl (pgs_cons (pg_tup rfl (pgs_cons (pg_name (i := 5) sc__triangle.nd rfl (Or.inl rfl)) (pgs_cons (pg_name (i := 6) sc__triangle.nd rfl (Or.inl rfl)) pgs_nil))) (pgs_cons (pg_tup rfl (pgs_cons (pg_name (i := 7) sc__triangle.nd rfl (Or.inl rfl)) (pgs_cons (pg_name (i := 6) sc__triangle.nd rfl (Or.inl rfl)) pgs_nil))) pgs_nil))))
        (pss_one (ps_expr (pe_bm PySem.F.plainAttrs_list PySem.F.slot_list_append PySem.F.type_list_append mt_append (pv 3) (pa_cons (pe_tup (pa_cons (pv 5) (pa_cons (pv 7) (pa_cons (pe_op op_sub (pe_callB (cr_sum rfl) (by rfl) zsum (by decide +kernel) (pa_cons (pv 2) pa_nil)) (pe_op op_mul pe_int (pe_ix ix_list (pv 2) (pv 4) (fun _ _ => rfl)))) pa_nil)))) pa_nil))))))
      (pss_one (ps_ret (pv 3))))))), ?_⟩
    obtain ⟨r0, r1, r2, rfl, ha, hb, hc⟩ := ats3 hx
    have hL := S.ex _ _ hnr
    have get : ∀ i x, ([V.ref r0, V.ref r1, V.ref r2] : List V)[i]? = some x → ∃ (u : Addr) (q : Nat × Nat), x = .ref u ∧ [a, b, c][i]? = some q ∧ G u = some (prO q) ∧ i < 3 := fun i x hi => by
      have h3 := (List.getElem?_eq_some_iff.mp hi).1
      have h3' : i < 3 := h3
      have : i = 0 ∨ i = 1 ∨ i = 2 := by omega
      rcases this with rfl | rfl | rfl <;> cases hi
      · exact ⟨r0, a, rfl, rfl, ha, h3'⟩
      · exact ⟨r1, b, rfl, rfl, hb, h3'⟩
      · exact ⟨r2, c, rfl, rfl, hc, h3'⟩
    -- total
    refine ⟨_, rfl, nr, rfl, ⟨_, Evl.sq_of hL⟩, fun D1 hD1 => ?_⟩
    refine lc_list (K := K) (a := nr) (xs := [.ref r0, .ref r1, .ref r2]) (fun i H' => Has G H' ((D1, .lst ((([a, b, c].take i).map fun q => (q.2 : Int)).map V.int)) :: l)) (S.new hD1) (fun i H' _ S' => Evl.sq_of (S'.ex _ _ hnr)) ?_ ?_
    · rintro i x H2 hi S2
      obtain ⟨u, q, rfl, hq, hu, i3⟩ := get i x hi
      refine ⟨u, _, rfl, Evl.st_of (S2.ex _ _ hu), rfl, _, _, rfl, _, _, rfl, rfl, rfl, ?_⟩
      refine ⟨_, rfl, _, S2.get 0 rfl, szl (by rw [List.length_map, List.length_map, List.length_take]; show min i 3 < _; omega), ?_⟩
      show Has G _ ((D1, .lst ((([a, b, c].take (i + 1)).map fun q => (q.2 : Int)).map V.int)) :: l)
      rw [List.take_add_one, hq, List.map_append, List.map_append]
      exact S2.set 0 rfl
    rintro H2 S2
    refine ⟨D1, _, rfl, Evl.sq_of (S2.get 0 rfl), ?_⟩
    rw [show ((([a, b, c] : List (Nat × Nat)).take ([V.ref r0, V.ref r1, V.ref r2] : List V).length).map fun q => (q.2 : Int)).sum = ((a.2 + b.2 + c.2 : Nat) : Int) from by
      show (a.2 : Int) + ((b.2 : Int) + ((c.2 : Int) + 0)) = _
      push_cast
      omega]
    have S3 := S2.tail
    generalize hT : a.2 + b.2 + c.2 = T
    -- free
    refine ⟨_, rfl, nr, rfl, ⟨_, Evl.sq_of (S3.ex _ _ hnr)⟩, fun D2 hD2 => ?_⟩
    refine lc_list (K := K) (a := nr) (xs := [.ref r0, .ref r1, .ref r2]) (fun i H' => Has G H' ((D2, .lst ((([a, b, c].take i).map fun q => (freeT T q.2 : Int)).map V.int)) :: l)) (S3.new hD2) (fun i H' _ S' => Evl.sq_of (S'.ex _ _ hnr)) ?_ ?_
    · rintro i x H4 hi S4
      obtain ⟨u, q, rfl, hq, hu, i3⟩ := get i x hi
      have qT : q.2 ≤ T := by
        have := List.mem_of_getElem? hq
        simp only [List.mem_cons, List.not_mem_nil, or_false] at this
        rcases this with rfl | rfl | rfl <;> omega
      refine ⟨u, _, rfl, Evl.st_of (S4.ex _ _ hu), rfl, _, _, rfl, _, _, rfl, rfl, rfl, ?_⟩
      refine ⟨_, rfl, _, rfl, _, rfl, _, _, rfl, rfl, _, _, rfl, ?_⟩
      rw [show (if (T : Int) - (q.2 : Int) < (q.2 : Int) then (T : Int) - (q.2 : Int) else (q.2 : Int)) = (freeT T q.2 : Int) from by
        unfold freeT
        split <;> omega]
      refine ⟨_, S4.get 0 rfl, szl (by rw [List.length_map, List.length_map, List.length_take]; show min i 3 < _; omega), ?_⟩
      show Has G _ ((D2, .lst ((([a, b, c].take (i + 1)).map fun q => (freeT T q.2 : Int)).map V.int)) :: l)
      rw [List.take_add_one, hq, List.map_append, List.map_append]
      exact S4.set 0 rfl
    rintro H4 S4
    have S4' : Has G H4 ((D2, .lst ([(freeT T a.2 : Int), (freeT T b.2 : Int), (freeT T c.2 : Int)].map V.int)) :: l) := S4
    refine ⟨sz (by show 0 ≤ 100000; decide), fun t1 nt1 => ?_⟩
    have S5 := S4'.new (o := .lst []) nt1
    generalize upd H4 t1 (.lst []) = H5 at S5
    generalize hfs : ([(freeT T a.2 : Int), (freeT T b.2 : Int), (freeT T c.2 : Int)] : List Int) = fs at S5
    refine ⟨3, rfl, by decide, by decide, ?_⟩
    refine for_range (lo := 0) (n := 3) (fun i σ H' => ∃ (G' : Hp) (v4 v5 v6 v7 v8 : Option V) (ys : List V), σ = [some (.ref nr), some (.int T), some (.ref D2), some (.ref t1), v4, v5, v6, v7, v8] ∧ Ex G G' ∧ Has G' H' ((t1, .lst ys) :: (D2, .lst (fs.map V.int)) :: l) ∧ Ats G' ys (((triT a b c).take i).map arcD))
      ⟨G, none, none, none, none, none, [], rfl, Evl.Ex.refl _, S5, .nil⟩ ?_ ?_
    · rintro i σ H6 hi ⟨G6, v4, v5, v6, v7, v8, ys, rfl, e6, S6, ay⟩
      rw [Int.zero_add]
      have ly : ys.length ≤ 3 := by
        rw [ay.1, List.length_map]
        exact List.length_take_le' _ _
      have key : ∃ (x y : Addr) (p q : Nat × Nat) (v wv : Nat), ([V.ref r0, V.ref r1, V.ref r2] : List V).take i ++ ([V.ref r0, V.ref r1, V.ref r2] : List V).drop (i + 1) = [.ref x, .ref y] ∧ G x = some (prO p) ∧ G y = some (prO q) ∧ (triT a b c)[i]? = some (p.1, q.1, v) ∧ fs[i]? = some (wv : Int) ∧ fs.sum - 2 * (wv : Int) = (v : Int) ∧ wv ≤ T := by
        have : i = 0 ∨ i = 1 ∨ i = 2 := by omega
        rw [← hfs]
        unfold triT
        simp only []
        rw [hT]
        rcases this with rfl | rfl | rfl
        · refine ⟨r1, r2, b, c, _, freeT T a.2, rfl, hb, hc, rfl, rfl, ?_, by unfold freeT; omega⟩
          show (freeT T a.2 : Int) + ((freeT T b.2 : Int) + ((freeT T c.2 : Int) + 0)) - _ = _
          unfold freeT
          omega
        · refine ⟨r0, r2, a, c, _, freeT T b.2, rfl, ha, hc, rfl, rfl, ?_, by unfold freeT; omega⟩
          show (freeT T a.2 : Int) + ((freeT T b.2 : Int) + ((freeT T c.2 : Int) + 0)) - _ = _
          unfold freeT
          omega
        · refine ⟨r0, r1, a, b, _, freeT T c.2, rfl, ha, hb, rfl, rfl, ?_, by unfold freeT; omega⟩
          show (freeT T a.2 : Int) + ((freeT T b.2 : Int) + ((freeT T c.2 : Int) + 0)) - _ = _
          unfold freeT
          omega
      obtain ⟨x, y, p, q, v, wv, er, hx, hy, ht, hf, hv, wT⟩ := key
      have hL6 : SqL K H6 nr [.ref r0, .ref r1, .ref r2] := Evl.sq_of (S6.ex _ _ (e6 _ _ hnr))
      refine ⟨_, rfl, _, rfl, _, rfl, nr, _, rfl, hL6, fun p1 np1 => ?_⟩
      rw [cutV_to]
      have T1 := S6.new (o := .lst (([V.ref r0, V.ref r1, V.ref r2] : List V).take i)) np1
      generalize upd H6 p1 (.lst (([V.ref r0, V.ref r1, V.ref r2] : List V).take i)) = H7 at T1
      refine ⟨_, rfl, _, rfl, _, _, rfl, rfl, (i : Int) + 1, rfl, nr, _, rfl, Evl.sq_of (T1.ex _ _ (e6 _ _ hnr)), fun p2 np2 => ?_⟩
      rw [show (some ((i : Int) + 1) : Option Int) = some ((i + 1 : Nat) : Int) from by push_cast; rfl, cutV_from]
      have T2 := T1.new (o := .lst (([V.ref r0, V.ref r1, V.ref r2] : List V).drop (i + 1))) np2
      generalize upd H7 p2 (.lst (([V.ref r0, V.ref r1, V.ref r2] : List V).drop (i + 1))) = H8 at T2
      refine ⟨p1, p2, _, _, rfl, rfl, T2.get 1 rfl, T2.get 0 rfl, by rw [← List.length_append, er]; exact sz (by show 2 ≤ 100000; decide), fun p3 np3 => ?_⟩
      rw [er]
      have T3 := (T2.new (o := .lst [.ref x, .ref y]) np3)
      generalize upd H8 p3 (.lst [.ref x, .ref y]) = H9 at T3
      refine ⟨p3, _, rfl, Evl.sq_of (T3.get 0 rfl), rfl, _, _, rfl, ⟨x, _, rfl, Evl.st_of (T3.ex _ _ (e6 _ _ hx)), rfl, _, _, rfl, _, _, rfl, rfl, _, _, rfl, ⟨y, _, rfl, Evl.st_of (T3.ex _ _ (e6 _ _ hy)), rfl, _, _, rfl, _, _, rfl, rfl, rfl, ?_⟩⟩⟩
      have T4 := T3.tail.tail.tail
      refine ⟨_, rfl, .inl ⟨rfl, _, Evl.sq_of (T4.get 0 rfl)⟩, _, rfl, _, rfl, _, rfl, D2, fs, rfl, Evl.sq_of (T4.get 1 rfl), _, rfl, _, rfl, D2, _, i, _, rfl, rfl, Evl.sq_of (T4.get 1 rfl), atI_nat (j := i) (show (fs.map V.int)[i]? = some (V.int (wv : Int)) by rw [List.getElem?_map, hf]; rfl), 2, _, rfl, rfl, .inl ⟨by decide, by decide⟩, _, _, rfl, rfl, sz (by show 3 ≤ 100000; decide), fun u nu => ?_⟩
      have T5 := T4.new (o := .tup [.int p.1, .int q.1, .int (fs.sum - 2 * (wv : Int))]) nu
      have T6 := T5.sink
      have e7 := T5.exS
      have hu : At (upd G6 u (.tup [.int p.1, .int q.1, .int (fs.sum - 2 * (wv : Int))])) (.ref u) (arcD (p.1, q.1, v)) := by
        rw [hv]
        exact at_arc (t := (p.1, q.1, v)) upd_same
      generalize upd G6 u (.tup [.int p.1, .int q.1, .int (fs.sum - 2 * (wv : Int))]) = G7 at T6 e7 hu
      refine ⟨t1, _, _, rfl, rfl, T6.get 0 rfl, szl (by omega), ?_⟩
      refine ⟨G7, _, _, _, _, _, ys ++ [V.ref u], rfl, e6.trans e7, T6.set 0 rfl, ?_⟩
      rw [List.take_add_one, ht, List.map_append]
      exact (ay.ex e7).snoc hu
    · rintro σ H6 ⟨G6, v4, v5, v6, v7, v8, ys, rfl, e6, S6, ay⟩
      exact ⟨_, rfl, k G6 H6 t1 ys e6 (S6.sub (by simp)) ay⟩
/-! _ties_instead -/
abbrev NTIN : List Str := ["near", "place", "weight", "other_place", "other_weight"]
theorem sc__ties_instead : FnScope NTIN ["near"] (defScope s__ties_instead) := ⟨rfl, rfl, rfl, by decide +kernel, rfl, by decide +kernel, by decide +kernel⟩
def spInstead : Sp := fun vs H Q _ => ∃ (G : Hp) (l : List (Addr × HO)) (nr : Addr) (xs : List V) (near : List (Nat × Nat)), vs = [.ref nr] ∧ Has G H l ∧ G nr = some (.lst xs) ∧ Ats G xs (near.map prD) ∧ near.length ≤ 3 ∧
  ∀ (G' H' : Hp) (t : Addr) (ys : List V), Ex G G' → Has G' H' ((t, .lst ys) :: l) → Ats G' ys ((insteadT near).map arcD) → Q (.ref t) H'
theorem ok_instead (D : Dfn K mg "_ties_instead" s__ties_instead ["near"]) (z : Z mg) (zmin : mg "min" = none) (O_tri : Ok P w K mg base 1 "_triangle" ["near"] spTriangle) : Ok P w K mg base 2 "_ties_instead" ["near"] spInstead := D.ok fun f fd F => by
  refine F.ok sc__ties_instead (fun vs H Q E h => ?_) (fun cdv A outer s H vs Q E hr h => ?_)
  · obtain ⟨G, l, nr, xs, near, rfl, _⟩ := h
    rfl
  · obtain ⟨G, l, nr, xs, near, rfl, S, hnr, hx, few, k⟩ := h
    refine ⟨_, (pss_cons (ps_if (pt_cmpR op_eq (pe_callB call_len_seq (by rfl) z.len PySem.boot_len (pa_cons (pv 0) pa_nil)) pe_int (nomark _))
        (pss_cons (ps_asg (pv 0) (pg_lst rfl (pgs_cons (pg_tup rfl (pgs_cons (pg_name (i := 1) sc__ties_instead.nd rfl (Or.inl rfl)) (pgs_cons (pg_name (i := 2) sc__ties_instead.nd rfl (Or.inl rfl)) pgs_nil))) (pgs_cons (pg_tup rfl (pgs_cons (pg_name (i := 3) sc__ties_instead.nd rfl (Or.inl rfl)) (pgs_cons (pg_name (i := 4) sc__ties_instead.nd rfl (Or.inl rfl)) pgs_nil))) pgs_nil))))
        (pss_one (ps_ret (pe_lst (pa_cons (pe_tup (pa_cons (pv 1) (pa_cons (pv 3) (pa_cons (pe_callB (call_min2 rfl) (by rfl) zmin (by decide +kernel) (pa_cons (pv 2) (pa_cons (pv 4) pa_nil))) pa_nil)))) pa_nil))))) pss_nil)
      (pss_cons (ps_if (pt_cmpR op_eq (pe_callB call_len_seq (by rfl) z.len PySem.boot_len (pa_cons (pv 0) pa_nil)) pe_int (nomark _))
        (pss_one (ps_ret (pe_o O_tri hr (pa_cons (pv 0) pa_nil)))) pss_nil)
      (pss_one (ps_ret (pe_lst pa_nil))))), ?_⟩
    have hL := S.ex _ _ hnr
    have sq : SqL K H nr xs := Evl.sq_of hL
    have lx : xs.length = near.length := by rw [hx.1, List.length_map]
    refine ⟨_, rfl, nr, xs, rfl, .inl sq, rfl, _, rfl, ?_⟩
    refine ite2 (fun e => ?_) (fun e => ?_)
    · have l2 : near.length = 2 := by
        have := V.int.inj (of_decide_eq_true e)
        omega
      match near, l2, hx, k with
      | [a, b], _, hx, k =>
        obtain ⟨x, y, rfl, ha, hb⟩ := ats2 hx
        refine ⟨_, rfl, nr, _, rfl, sq, rfl, _, _, rfl, ⟨x, _, rfl, Evl.st_of (S.ex _ _ ha), rfl, _, _, rfl, _, _, rfl, rfl, _, _, rfl, ⟨y, _, rfl, Evl.st_of (S.ex _ _ hb), rfl, _, _, rfl, _, _, rfl, rfl, rfl, ?_⟩⟩⟩
        refine ⟨_, rfl, _, rfl, _, rfl, _, rfl, _, _, rfl, sz (by show 3 ≤ 100000; decide), fun u nu => ?_⟩
        have em : (if (b.2 : Int) < (a.2 : Int) then (b.2 : Int) else (a.2 : Int)) = ((min a.2 b.2 : Nat) : Int) := by
          split <;> omega
        have T5 := S.new (o := .tup [.int a.1, .int b.1, .int (if (b.2 : Int) < (a.2 : Int) then (b.2 : Int) else (a.2 : Int))]) nu
        have T6 := T5.sink
        have e7 := T5.exS
        have hu : At (upd G u (.tup [.int a.1, .int b.1, .int (if (b.2 : Int) < (a.2 : Int) then (b.2 : Int) else (a.2 : Int))])) (.ref u) (arcD (a.1, b.1, min a.2 b.2)) := by
          rw [em]
          exact at_arc (t := (a.1, b.1, min a.2 b.2)) upd_same
        generalize upd G u (.tup [.int a.1, .int b.1, .int (if (b.2 : Int) < (a.2 : Int) then (b.2 : Int) else (a.2 : Int))]) = G7 at T6 e7 hu
        exact ⟨sz (by show 1 ≤ 100000; decide), fun t nt => k G7 _ t [.ref u] e7 (T6.new (o := .lst [.ref u]) nt) (.cons hu .nil)⟩
    · have n2 : near.length ≠ 2 := fun h => e (decide_eq_true (by rw [lx, h]; rfl))
      refine ⟨_, rfl, nr, xs, rfl, .inl sq, rfl, _, rfl, ?_⟩
      refine ite2 (fun e => ?_) (fun e => ?_)
      · have l3 : near.length = 3 := by
          have := V.int.inj (of_decide_eq_true e)
          omega
        match near, l3, hx, k with
        | [a, b, c], _, hx, k => exact ⟨_, rfl, G, l, nr, xs, a, b, c, rfl, S, hnr, hx, fun G' H' t ys e' S' ay => k G' H' t ys e' S' ay⟩
      · have n3 : near.length ≠ 3 := fun h => e (decide_eq_true (by rw [lx, h]; rfl))
        refine ⟨sz (by show 0 ≤ 100000; decide), fun t nt => ?_⟩
        match near, n2, n3, few, k with
        | [], _, _, _, k => exact k G _ t [] (Evl.Ex.refl _) (S.new nt) .nil
        | [a], _, _, _, k => exact k G _ t [] (Evl.Ex.refl _) (S.new nt) .nil
        | [a, b], h, _, _, _ => exact absurd rfl h
        | [a, b, c], _, h, _, _ => exact absurd rfl h
        | a :: b :: c :: d :: r, _, _, h, _ => exact absurd h (by show ¬ r.length + 1 + 1 + 1 + 1 ≤ 3; omega)
end
end TW
set_option Elab.async false
set_option linter.all false
set_option maxRecDepth 100000
set_option maxHeartbeats 1000000
namespace TW
open PySem PySem.Spec PyProof.Rows L2
/-- 2 if len(near) == 3 else 1 -/
def tFac : TE := fun σ H Q => ∃ (nr : Addr) (ns : List V), σ[2]? = some (some (.ref nr)) ∧ H nr = some (.lst ns) ∧ Q (.int (facT ns.length : Nat)) H
section
variable {P : Program} {w : World} {K : PySem.W.Frag} {mg : Str → Option Value} {base : Heap} {C N : Addr}
/-! take_out -/
abbrev NTKO : List Str := ["web", "place", "near", "factor", "kept", "ties", "low", "high", "weight"]
theorem sc_take_out : FnScope NTKO ["web", "place"] (defScope s_take_out) := ⟨rfl, rfl, rfl, by decide +kernel, rfl, by decide +kernel, by decide +kernel⟩
def spTakeOut (C N : Addr) : Sp := fun vs H Q E => ∃ (G : Hp) (l : List (Addr × HO)) (a : Addr) (p n : Nat) (ts : List Arc), vs = [.ref a, .int p] ∧ Has G H l ∧ WebAt C G a n ts ∧ Net n ts ∧ n ≤ 20 ∧ p < n ∧ 1 < n ∧
  (3 < (nearT ts p).length → ∀ H', Has G H' l → E (.ref N) none H') ∧
  ((nearT ts p).length ≤ 3 → ∀ (G' H' : Hp) (t x : Addr), Ex G G' → Has G' H' l → G' t = some (.tup [.ref x, .int (facT (nearT ts p).length : Nat)]) → WebAt C G' x (n - 1) (sumA (n - 1) (outT ts p)) → Q (.ref t) H')
theorem near_len (ts : List Arc) (p : Nat) : (nearT ts p).length ≤ ts.length := by
  unfold nearT
  rw [List.length_map]
  exact List.length_filter_le _ _
theorem fn_take_out {f gp gg fi gi : Addr} {fd gpd fid gid : FuncData} (F : Fun K "take_out" "take_out" s_take_out f fd) (z : Z mg) (T : WC K mg C) (TE : TN K mg "TooManyTies" N) (It : WI P w K mg base C gi gid) (M : WM P w K mg base C fi fid) (PP : TG P w K mg base C gp gg gpd "places" (spWPlaces C)) (O_web : Ok P w K mg base 1 "check_web" ["web"] (spCheckWeb C)) (O_place : Ok P w K mg base 3 "check_place" ["place", "places"] spCheckPlace)
    (O_near : Ok P w K mg base 3 "_ties_at" ["web", "place"] (spTiesAt C)) (O_low : Ok P w K mg base 1 "_lowered" ["old", "place"] spLowered) (O_inst : Ok P w K mg base 2 "_ties_instead" ["near"] spInstead) : FnOk P w K mg base (L2.CX P w) 6 f fd ["web", "place"] (spTakeOut C N) := by
  refine F.okX sc_take_out (fun vs H Q E h => ?_) (fun cdv A outer s H vs Q E hr h => ?_)
  · obtain ⟨G, l, a, p, n, ts, rfl, _⟩ := h
    rfl
  · obtain ⟨G, l, a, p, n, ts, rfl, S, web, net, hn20, hp, hn1, ke, k⟩ := h
    obtain ⟨dx, tl, xs, h1, h2, h3⟩ := id web
    refine ⟨_, (pss_cons (ps_expr (pe_o O_web (hr.mono (by decide)) (pa_cons (pv 0) pa_nil)))
      (pss_cons (ps_expr (pe_o O_place (hr.mono (by decide)) (pa_cons (pv 1) (pa_cons (pe_prop (pv 0) T.cl PP.at_ PP.ok (hr.mono (by decide)) PP.b .nil pass0 rfl) pa_nil))))
      (pss_cons (ps_if (pt_cmpR op_eq (pe_prop (pv 0) T.cl PP.at_ PP.ok (hr.mono (by decide)) PP.b .nil pass0 rfl) pe_int (nomark _)) (pss_one ps_never) pss_nil)
      (pss_cons (ps_set (i := 2) sc_take_out.nd rfl (Or.inl rfl) (pe_o O_near (hr.mono (by decide)) (pa_cons (pv 0) (pa_cons (pv 1) pa_nil))))
      (pss_cons (ps_if (pt_cmpR op_gt (pe_callB call_len_seq (by rfl) z.len PySem.boot_len (pa_cons (pv 2) pa_nil)) pe_int (nomark _)) (pss_one (ps_raise rfl (takes_of rfl rfl rfl rfl) (pmk_own PySem.F.excBase_ValueError TE.ex TE.g TE.k (raises_own TE.b TE.t) (by exact rfl)))) pss_nil)
      (pss_cons (ps_set (i := 3) sc_take_out.nd rfl (Or.inr rfl) (PE.imp (t' := tFac) (pe_ifExp (pt_cmpR op_eq (pe_callB call_len_seq (by rfl) z.len PySem.boot_len (pa_cons (pv 2) pa_nil)) pe_int (nomark _)) pe_int pe_int) (fun σ H Q h => by
          obtain ⟨nr, ns, h2, hn, q⟩ := h
          refine ⟨_, h2, nr, ns, rfl, .inl (Evl.sq_of hn), rfl, _, rfl, ?_⟩
          unfold facT at q
          refine ite2 (fun e => ?_) (fun e => ?_)
          · have e3 : ns.length = 3 := by
              have := V.int.inj (of_decide_eq_true e)
              omega
            rw [if_pos e3] at q
            exact q
          · have e3 : ns.length ≠ 3 := fun h => e (decide_eq_true (by rw [h]; rfl))
            rw [if_neg e3] at q
            exact q)))
      (pss_cons (ps_setLc (i := 4) (own := [("low", 6), ("high", 7), ("weight", 8)]) (g := gTup K 3 (gCons (gName 6) (gCons (gName 7) (gCons (gName 8) gNil)))) rfl sc_take_out.nd rfl rfl (sw_true rfl rfl rfl (by decide +kernel)) (pi_own (f := "_ties") (pv 0) It.at_ It.fn It.ok It.b (hr.mono (by decide))) (blkOk_by (N := NTKO) (own := [("low", 6), ("high", 7), ("weight", 8)]) (sc := defScope s_take_out) (by decide +kernel)) (fun _ _ _ _ _ => pg_tup rfl (pgs_cons (pg_name (i := 6) sc_take_out.nd rfl (Or.inl rfl)) (pgs_cons (pg_name (i := 7) sc_take_out.nd rfl (Or.inl rfl)) (pgs_cons (pg_name (i := 8) sc_take_out.nd rfl (Or.inl rfl)) pgs_nil))))
        (fun _ _ _ _ _ => pts_one (pt_cmpR (op_notInK (K := K)) (pv 1) (pe_tup (pa_cons (pv 6) (pa_cons (pv 7) pa_nil))) (by rfl))) (fun _ _ _ _ _ => (pe_tup (pa_cons (pv 6) (pa_cons (pv 7) (pa_cons (pe_op op_mul (pv 3) (pv 8)) pa_nil))))))
      (pss_cons (ps_setLc (i := 5) (own := [("low", 6), ("high", 7), ("weight", 8)]) (g := gTup K 3 (gCons (gName 6) (gCons (gName 7) (gCons (gName 8) gNil)))) rfl sc_take_out.nd rfl rfl (sw_true rfl rfl rfl (by decide +kernel)) (pi_list (pe_op op_cat (pv 4) (pe_o O_inst (hr.mono (by decide)) (pa_cons (pv 2) pa_nil)))) (blkOk_by (N := NTKO) (own := [("low", 6), ("high", 7), ("weight", 8)]) (sc := defScope s_take_out) (by decide +kernel)) (fun _ _ _ _ _ => pg_tup rfl (pgs_cons (pg_name (i := 6) sc_take_out.nd rfl (Or.inl rfl)) (pgs_cons (pg_name (i := 7) sc_take_out.nd rfl (Or.inl rfl)) (pgs_cons (pg_name (i := 8) sc_take_out.nd rfl (Or.inl rfl)) pgs_nil))))
        (fun _ _ _ _ _ => pts_nil) (fun _ _ _ _ _ => (pe_tup (pa_cons (pe_o O_low (hr.mono (by decide)) (pa_cons (pv 6) (pa_cons (pv 1) pa_nil))) (pa_cons (pe_o O_low (hr.mono (by decide)) (pa_cons (pv 7) (pa_cons (pv 1) pa_nil))) (pa_cons (pv 8) pa_nil))))))
      (pss_one (ps_ret (pe_tup (pa_cons (pe_make M.make M.ok (hr.mono (by decide)) (by rfl) T.mg M.b .nil pass0 (pa_cons (pe_op op_sub (pe_prop (pv 0) T.cl PP.at_ PP.ok (hr.mono (by decide)) PP.b .nil pass0 rfl) pe_int) (pa_cons (pv 5) pa_nil))) (pa_cons (pv 3) pa_nil))))))))))))), ?_⟩
    have webH := web.ex S.ex
    have hH1 := S.ex _ _ h1
    have l400 : ts.length ≤ 400 := by
      have h := sumA_len n ts
      rw [net.sum] at h
      have : n * n ≤ 20 * 20 := Nat.mul_le_mul hn20 hn20
      omega
    refine ⟨_, rfl, a, n, ts, rfl, webH, ?_⟩
    refine ⟨_, rfl, _, rfl, a, dx, _, rfl, hH1, a, n, ts, rfl, webH, p, n, rfl, hp, ?_⟩
    refine ⟨_, rfl, a, dx, _, rfl, hH1, a, n, ts, rfl, webH, rfl, _, rfl, ?_⟩
    rw [decide_eq_false (show ¬ V.int (n : Int) = V.int 1 from fun e => by have := V.int.inj e; omega)]
    refine ⟨_, rfl, _, rfl, G, l, a, p, n, ts, rfl, S, web, by omega, fun G1 H1 nr ns e1 S1' an' => ?_⟩
    obtain ⟨G2, e2, hnr, S2⟩ := S1'.sinkV
    have an := an'.ex e2
    have e12 := e1.trans e2
    have ln : ns.length = (nearT ts p).length := by rw [an.1, List.length_map]
    have lnt := near_len ts p
    have hfar := keptT ts p (facT (nearT ts p).length)
    have sqn : SqL K H1 nr ns := Evl.sq_of (S2.ex _ _ hnr)
    refine ⟨_, rfl, nr, ns, rfl, .inl sqn, _, _, rfl, rfl, _, rfl, ?_⟩
    refine ite2 (fun hc => ?_) (fun hc => ?_)
    · have many : 3 < (nearT ts p).length := by
        have := of_decide_eq_true hc
        omega
      exact ke many _ (S2.down e12)
    have few : (nearT ts p).length ≤ 3 := by
      have : ¬ ((ns.length : Int) > 3) := fun h => hc (decide_eq_true h)
      omega
    refine ⟨nr, ns, rfl, S2.ex _ _ hnr, ?_⟩
    rw [ln]
    have fac2 : facT (nearT ts p).length ≤ 2 := by
      unfold facT
      split <;> omega
    have kk := k few
    have oks := out_ok net hp
    have lno := out_len ts p
    have out : outT ts p = (keptT ts p (facT (nearT ts p).length) ++ insteadT (nearT ts p)).map (lowA p) := rfl
    generalize facT (nearT ts p).length = c at fac2 kk out
    -- kept
    refine ⟨_, rfl, a, dx, _, tl, _, rfl, S2.ex _ _ (e12 _ _ h1), wf_ties n tl, Evl.st_of (S2.ex _ _ (e12 _ _ h2)), fun D1 hD1 => ?_⟩
    refine lc_tup (K := K) (a := tl) (xs := xs) (fun i H' => ∃ (G' : Hp) (ys : List V), Ex G2 G' ∧ Has G' H' ((D1, .lst ys) :: l) ∧ Ats G' ys ((((ts.take i).filter fun t => !atB p t).map fun t => (t.1, t.2.1, c * t.2.2)).map arcD)) ⟨G2, [], Evl.Ex.refl _, S2.new hD1, .nil⟩ (fun i H' _ h => by
      obtain ⟨G', _, e, S', _⟩ := h
      exact Evl.st_of (S'.ex _ _ (e _ _ (e12 _ _ h2)))) ?_ ?_
    · rintro i x H2 hi ⟨G3, ys, e3, S3, ay⟩
      obtain ⟨t, ht, ax⟩ := ats_get h3 hi
      obtain ⟨b, rfl, hb⟩ := (ax.ex ((e12.trans e3).trans S3.ex)).arc
      have ly : ys.length ≤ ts.length := by
        rw [ay.1, List.length_map, List.length_map]
        exact Nat.le_trans (List.length_filter_le _ _) (List.length_take_le' _ _)
      refine ⟨b, _, rfl, Evl.st_of hb, rfl, _, _, rfl, _, _, rfl, _, _, rfl, rfl, rfl, ?_⟩
      refine ⟨_, rfl, _, rfl, _, rfl, sz (by show 2 ≤ 100000; decide), fun v nv => ?_⟩
      have S4 := S3.new (o := .tup [.int t.1, .int t.2.1]) nv
      generalize upd H2 v (.tup [.int t.1, .int t.2.1]) = H3 at S4
      refine ⟨v, _, rfl, .inr (Evl.st_of (S4.get 0 rfl)), rfl, rfl, _, rfl, ?_⟩
      rw [if_pos rfl, show inV (V.int (p : Int)) [V.int (t.1 : Int), V.int (t.2.1 : Int)] = decide ((p : Int) ∈ [(t.1 : Int), (t.2.1 : Int)]) from inV_int (p : Int) [(t.1 : Int), (t.2.1 : Int)], in2]
      have S5 := S4.tail
      show if (!atB p t) = true then _ else _
      cases hc : !atB p t with
      | true =>
        refine ⟨_, rfl, _, rfl, _, rfl, _, rfl, _, _, rfl, rfl, .inl ⟨by omega, by omega⟩, sz (by show 3 ≤ 100000; decide), fun u nu => ?_⟩
        have S6 := S5.new (o := .tup [.int t.1, .int t.2.1, .int ((c : Int) * (t.2.2 : Int))]) nu
        have au : At (upd G3 u (.tup [.int t.1, .int t.2.1, .int ((c : Int) * (t.2.2 : Int))])) (.ref u) (arcD (t.1, t.2.1, c * t.2.2)) := by
          rw [show (c : Int) * (t.2.2 : Int) = ((c * t.2.2 : Nat) : Int) from by push_cast; rfl]
          exact at_arc (t := (t.1, t.2.1, c * t.2.2)) upd_same
        have S7 : Has (upd G3 u (.tup [.int t.1, .int t.2.1, .int ((c : Int) * (t.2.2 : Int))])) _ ((D1, .lst (ys ++ [V.ref u])) :: l) := S6.sink.set 0 rfl
        refine ⟨ys, S6.get 1 rfl, by have : sizeLine = 16777216 := sizeLine_eq; omega, _, ys ++ [V.ref u], e3.trans S6.exS, S7, ?_⟩
        rw [filt_yes (f := fun t : Arc => !atB p t) ht hc, List.map_append, List.map_append]
        exact (ay.ex S6.exS).snoc au
      | false =>
        refine ⟨G3, ys, e3, S5, ?_⟩
        rw [filt_no (f := fun t : Arc => !atB p t) ht hc]
        exact ay
    rintro H3 ⟨G3, ys, e3, S3', ay'⟩
    have lx : xs.length = ts.length := by rw [h3.1, List.length_map]
    rw [lx, List.take_length] at ay'
    obtain ⟨G4, e4, hD1', S4⟩ := S3'.sinkV
    have ay : Ats G4 ys ((keptT ts p c).map arcD) := ay'.ex e4
    have e34 := e3.trans e4
    -- ties
    refine ⟨_, rfl, _, rfl, G4, l, nr, ns, nearT ts p, rfl, S4, e34 _ _ hnr, an.ex e34, few, fun G5 H5 t5 zs e5 S5 az => ?_⟩
    have lys : ys.length ≤ ts.length := by
      rw [ay.1, List.length_map]
      unfold keptT
      rw [List.length_map]
      exact List.length_filter_le _ _
    have lzs : zs.length ≤ 3 := by
      rw [az.1, List.length_map]
      exact instead_len _
    refine ⟨D1, t5, ys, zs, rfl, rfl, S5.ex _ _ (e5 _ _ hD1'), S5.get 0 rfl, sz (by show ys.length + zs.length ≤ 100000; omega), fun q2 nq2 => ?_⟩
    have S6' : Has G5 _ ((q2, .lst (ys ++ zs)) :: l) := (S5.new (o := .lst (ys ++ zs)) nq2).drop2
    obtain ⟨G6, e6, hq2, S6⟩ := S6'.sinkV
    have aw : Ats G6 (ys ++ zs) ((keptT ts p c ++ insteadT (nearT ts p)).map arcD) := by
      rw [List.map_append]
      exact ((ay.ex e5).append az).ex e6
    generalize ys ++ zs = ws at S6 hq2 aw
    generalize hL : keptT ts p c ++ insteadT (nearT ts p) = L at out aw
    have lw : ws.length = L.length := by rw [aw.1, List.length_map]
    have lL : L.length ≤ ts.length + 3 := by
      rw [out, List.length_map] at lno
      exact lno
    have e26 := (e34.trans e5).trans e6
    refine ⟨q2, rfl, ⟨_, Evl.sq_of (S6.ex _ _ hq2)⟩, fun D2 hD2 => ?_⟩
    refine lc_list (K := K) (a := q2) (xs := ws) (fun i H' => ∃ (G' : Hp) (us : List V), Ex G6 G' ∧ Has G' H' ((D2, .lst us) :: l) ∧ Ats G' us (((L.take i).map (lowA p)).map arcD)) ⟨G6, [], Evl.Ex.refl _, S6.new hD2, .nil⟩ (fun i H' _ h => by
      obtain ⟨G', us, e', S', _⟩ := h
      exact Evl.sq_of (S'.ex _ _ (e' _ _ hq2))) ?_ ?_
    · rintro i x H7 hi ⟨G7, us, e7, S7, au⟩
      obtain ⟨t, ht, ax⟩ := ats_get aw hi
      obtain ⟨b, rfl, hb⟩ := ((ax.ex e7).ex S7.ex).arc
      refine ⟨b, _, rfl, Evl.st_of hb, rfl, _, _, rfl, _, _, rfl, _, _, rfl, rfl, rfl, ?_⟩
      refine ⟨_, rfl, _, rfl, t.1, p, rfl, _, rfl, _, rfl, t.2.1, p, rfl, _, rfl, sz (by show 3 ≤ 100000; decide), fun u nu => ?_⟩
      obtain ⟨G8, e8, hu, S8⟩ := S7.newV (o := .tup [.int (lowT p t.1 : Nat), .int (lowT p t.2.1 : Nat), .int t.2.2]) nu
      have lu : us.length = (L.take i).length := by rw [au.1, List.length_map, List.length_map]
      refine ⟨_, S8.get 0 rfl, szl (by rw [lu, List.length_take]; omega), _, us ++ [.ref u], e7.trans e8, S8.set 0 rfl, ?_⟩
      rw [take_snoc ht, List.map_append, List.map_append]
      exact (au.ex e8).append (.cons (at_arc (t := lowA p t) hu) .nil)
    rintro H7 ⟨G7, us, e7, S7', au⟩
    rw [lw, List.take_length, ← out] at au
    obtain ⟨G8, e8, hD2', S8⟩ := S7'.sinkV
    have e28 := (e26.trans e7).trans e8
    refine ⟨_, rfl, a, dx, _, rfl, S8.ex _ _ (e28 _ _ (e12 _ _ h1)), a, n, ts, rfl, ((web.ex e12).ex e28).ex S8.ex, _, _, rfl, rfl, _, rfl, ?_⟩
    intro x dx2 nx ndx hne
    rw [show (fun i j : Int => V.int (i - j)) (n : Int) 1 = V.int ((n - 1 : Nat) : Int) from congrArg V.int (by omega)]
    refine webs_made M nx ndx (Ne.symm hne) S8 (Stays.grd hD2') (au.ex e8) oks (by omega) (by omega) (by omega) (fun G' H' e' S' web' => ?_)
    refine ⟨_, rfl, sz (by show 2 ≤ 100000; decide), fun u nu => ?_⟩
    obtain ⟨G9, e9, hu, S9⟩ := S'.newV (o := .tup [.ref x, .int (c : Nat)]) nu
    exact kk G9 _ u x ((((e12.trans e28).trans e')).trans e9) S9 hu (web'.ex e9)
end
end TW
set_option Elab.async false
set_option linter.all false
set_option maxRecDepth 100000
set_option maxHeartbeats 1000000
namespace TW
open PySem PySem.Spec PyProof.Rows L2
/-! outlines by trying: the least cut of all masks with told bits -/
def patM (ls : List Nat) (m : Nat) : Nat := (((List.range ls.length).filter fun i => m.testBit (ls.getD i 0)).map fun i => 2 ^ i).sum
theorem pat_bit (ls : List Nat) (m j : Nat) : (patM ls m).testBit j = (decide (j < ls.length) && m.testBit (ls.getD j 0)) := by
  unfold patM
  rw [pow_bits (List.Pairwise.sublist List.filter_sublist List.nodup_range), Bool.eq_iff_iff, decide_eq_true_eq, Bool.and_eq_true, decide_eq_true_eq, List.mem_filter, List.mem_range]
theorem pat_lt (ls : List Nat) (m : Nat) : patM ls m < 2 ^ ls.length := Nat.lt_pow_two_of_testBit _ fun i hi => by
  rw [pat_bit, decide_eq_false (by omega), Bool.false_and]
theorem mask_of (f : Nat → Bool) (n : Nat) : ∃ m, m < 2 ^ n ∧ ∀ k, k < n → m.testBit k = f k := by
  have b := fun j => pow_bits (L := (List.range n).filter f) (List.Pairwise.sublist List.filter_sublist List.nodup_range) j
  refine ⟨(((List.range n).filter f).map fun x => 2 ^ x).sum, Nat.lt_pow_two_of_testBit _ fun i hi => ?_, fun k hk => ?_⟩
  · rw [b, decide_eq_false]
    rw [List.mem_filter, List.mem_range]
    omega
  · rw [b, Bool.eq_iff_iff, decide_eq_true_eq, List.mem_filter, List.mem_range]
    exact ⟨fun h => h.2, fun h => ⟨hk, h⟩⟩
theorem pat_eq {ls : List Nat} {m k : Nat} (hk : k < 2 ^ ls.length) : patM ls m = k ↔ ∀ j, j < ls.length → m.testBit (ls.getD j 0) = k.testBit j := by
  constructor
  · rintro rfl j hj
    rw [pat_bit, decide_eq_true hj, Bool.true_and]
  · intro h
    refine Nat.eq_of_testBit_eq fun j => ?_
    rw [pat_bit]
    by_cases hj : j < ls.length
    · rw [decide_eq_true hj, Bool.true_and, h j hj]
    · rw [decide_eq_false hj, Bool.false_and]
      exact (Nat.testBit_lt_two_pow (Nat.lt_of_lt_of_le hk (Nat.pow_le_pow_right (by decide) (by omega)))).symm
/-- what stands for k behind i masks -/
def bestO (ts : List Arc) (ls : List Nat) : Nat → Nat → Option Nat
  | 0, _ => none
  | i + 1, k => if patM ls i = k then some (match bestO ts ls i k with
    | none => cutA ts i.testBit
    | some b => if cutA ts i.testBit < b then cutA ts i.testBit else b) else bestO ts ls i k
theorem best_in {ts : List Arc} {ls : List Nat} {k : Nat} : ∀ {i v : Nat}, bestO ts ls i k = some v → ∃ m, m < i ∧ patM ls m = k ∧ v = cutA ts m.testBit
  | 0, v, h => by cases h
  | i + 1, v, h => by
    unfold bestO at h
    split at h
    · next hp =>
      have h := (Option.some.inj h).symm
      cases hb : bestO ts ls i k with
      | none =>
        rw [hb] at h
        exact ⟨i, by omega, hp, h⟩
      | some b =>
        rw [hb] at h
        simp only [] at h
        split at h
        · exact ⟨i, by omega, hp, h⟩
        · obtain ⟨m, h1, h2, h3⟩ := best_in hb
          exact ⟨m, by omega, h2, h.trans h3⟩
    · obtain ⟨m, h1, h2, h3⟩ := best_in h
      exact ⟨m, by omega, h2, h3⟩
theorem best_le {ts : List Arc} {ls : List Nat} {k : Nat} : ∀ {i m : Nat}, m < i → patM ls m = k → ∃ v, bestO ts ls i k = some v ∧ v ≤ cutA ts m.testBit
  | 0, m, h, _ => absurd h (Nat.not_lt_zero m)
  | i + 1, m, h, hp => by
    unfold bestO
    by_cases e : m = i
    · rw [← e, if_pos hp]
      refine ⟨_, rfl, ?_⟩
      cases bestO ts ls m k with
      | none => exact Nat.le_refl _
      | some b =>
        show (if _ then _ else _) ≤ _
        split <;> omega
    · obtain ⟨v, h1, h2⟩ := best_le (i := i) (by omega) hp
      rw [h1]
      split
      · refine ⟨_, rfl, ?_⟩
        show (if _ then _ else _) ≤ _
        split <;> omega
      · exact ⟨v, rfl, h2⟩
def optV : Option Nat → V
  | none => .non
  | some v => .int (v : Int)
def dueV (ts : List Arc) (n : Nat) (ls : List Nat) (k : Nat) : Nat := (bestO ts ls (2 ^ n) k).getD 0
structure OutsOk (n : Nat) (ls : List Nat) : Prop where
  nd : ls.Nodup
  lt : ∀ x ∈ ls, x < n
theorem OutsOk.mask {n : Nat} {ls : List Nat} (h : OutsOk n ls) (k : Nat) (hk : k < 2 ^ ls.length) : ∃ m, m < 2 ^ n ∧ patM ls m = k := by
  obtain ⟨m, hm, hb⟩ := mask_of (fun x => k.testBit (ls.idxOf x)) n
  refine ⟨m, hm, (pat_eq hk).mpr fun j hj => ?_⟩
  have e : ls.getD j 0 = ls[j] := by rw [List.getD_eq_getElem?_getD, List.getElem?_eq_getElem hj]; rfl
  have hmem : ls[j] ∈ ls := List.getElem_mem hj
  rw [e, hb _ (h.lt _ hmem)]
  rw [idx_of h.nd (List.getElem?_eq_getElem hj)]
theorem due_some {ts : List Arc} {n : Nat} {ls : List Nat} (h : OutsOk n ls) {k : Nat} (hk : k < 2 ^ ls.length) : bestO ts ls (2 ^ n) k = some (dueV ts n ls k) := by
  obtain ⟨m, hm, hp⟩ := h.mask k hk
  obtain ⟨v, hv, _⟩ := best_le (ts := ts) hm hp
  unfold dueV
  rw [hv]
  rfl
theorem due_in {ts : List Arc} {n : Nat} {ls : List Nat} (h : OutsOk n ls) {k : Nat} (hk : k < 2 ^ ls.length) : ∃ m, m < 2 ^ n ∧ patM ls m = k ∧ dueV ts n ls k = cutA ts m.testBit := best_in (due_some h hk)
theorem due_le {ts : List Arc} {n : Nat} {ls : List Nat} (h : OutsOk n ls) {k m : Nat} (hm : m < 2 ^ n) (hp : patM ls m = k) : dueV ts n ls k ≤ cutA ts m.testBit := by
  obtain ⟨v, hv, hle⟩ := best_le (ts := ts) hm hp
  unfold dueV
  rw [hv]
  exact hle
/-! all places but one -/
def leftP (n p : Nat) : List Nat := (List.range n).filter fun k => !decide (k = p)
def upP (p i : Nat) : Nat := if i < p then i else i + 1
theorem left_map (p : Nat) : ∀ n, leftP n p = (List.range (if p < n then n - 1 else n)).map (upP p)
  | 0 => by
    rw [if_neg (by omega)]
    rfl
  | n + 1 => by
    have ih := left_map p n
    unfold leftP at ih ⊢
    rw [List.range_succ, List.filter_append, ih]
    by_cases h1 : p < n
    · rw [if_pos h1, if_pos (by omega), List.filter_cons_of_pos (by rw [decide_eq_false (by omega)]; rfl), show n + 1 - 1 = (n - 1) + 1 by omega, List.range_succ, List.map_append]
      show _ ++ [n] = _ ++ [upP p (n - 1)]
      unfold upP
      rw [if_neg (by omega), show n - 1 + 1 = n by omega]
    · by_cases h2 : p = n
      · rw [if_neg h1, if_pos (by omega), List.filter_cons_of_neg (by rw [decide_eq_true h2.symm]; decide)]
        show _ ++ [] = _
        rw [List.append_nil, show n + 1 - 1 = n by omega]
      · rw [if_neg h1, if_neg (by omega), List.filter_cons_of_pos (by rw [decide_eq_false (by omega)]; rfl), List.range_succ, List.map_append]
        show _ ++ [n] = _ ++ [upP p n]
        unfold upP
        rw [if_pos (by omega)]
theorem left_len {n p : Nat} (hp : p < n) : (leftP n p).length = n - 1 := by
  rw [left_map, if_pos hp, List.length_map, List.length_range]
theorem left_at {n p j : Nat} (hp : p < n) (hj : j < n - 1) : (leftP n p).getD j 0 = upP p j := by
  rw [left_map, if_pos hp, List.getD_eq_getElem?_getD, List.getElem?_map, List.getElem?_range hj]
  rfl
theorem left_ok (n p : Nat) : OutsOk n (leftP n p) := ⟨List.Pairwise.sublist List.filter_sublist List.nodup_range, fun x hx => List.mem_range.mp (List.mem_filter.mp hx).1⟩
theorem low_up (p j : Nat) : lowT p (upP p j) = j := by
  unfold upP lowT
  split <;> split <;> omega
theorem up_low {p k : Nat} (h : k ≠ p) : upP p (lowT p k) = k := by
  unfold upP lowT
  split <;> split <;> omega
/-- the outline of what is left -/
theorem due_left {ts : List Arc} {n p : Nat} (hts : ∀ t ∈ ts, arcOk n t) (hp : p < n) {k : Nat} (hk : k < 2 ^ (n - 1)) : dueV ts n (leftP n p) k = min (cutA ts (plB k.testBit p true)) (cutA ts (plB k.testBit p false)) := by
  have ok := left_ok n p
  have ln := left_len hp
  have hk2 : k < 2 ^ (leftP n p).length := by rw [ln]; exact hk
  have cut : ∀ m, patM (leftP n p) m = k → cutA ts m.testBit = cutA ts (plB k.testBit p (m.testBit p)) := fun m hm => cutA_congrN hts fun j hj => by
    unfold plB
    by_cases e : j = p
    · rw [if_pos e, e]
    · rw [if_neg e]
      have := (pat_eq hk2).mp hm (lowT p j) (by rw [ln]; exact lowT_lt hp hj e)
      rw [left_at hp (lowT_lt hp hj e), up_low e] at this
      exact this
  have low : ∀ b, dueV ts n (leftP n p) k ≤ cutA ts (plB k.testBit p b) := fun b => by
    obtain ⟨m, hm, hb⟩ := mask_of (plB k.testBit p b) n
    have hpat : patM (leftP n p) m = k := (pat_eq hk2).mpr fun j hj => by
      rw [ln] at hj
      rw [left_at hp hj]
      have lt : upP p j < n := by unfold upP; split <;> omega
      rw [hb _ lt]
      unfold plB
      rw [if_neg (by unfold upP; split <;> omega), low_up]
    have h := due_le (ts := ts) ok hm hpat
    rw [cutA_congrN hts (g := plB k.testBit p b) fun j hj => hb j hj] at h
    exact h
  obtain ⟨m, hm, hpat, e⟩ := due_in (ts := ts) ok hk2
  rw [cut m hpat] at e
  have l1 := low true
  have l2 := low false
  cases hb : m.testBit p with
  | true =>
    rw [hb] at e
    omega
  | false =>
    rw [hb] at e
    omega
end TW
set_option Elab.async false
set_option linter.all false
set_option maxRecDepth 100000
set_option maxHeartbeats 1000000
namespace TW
open PySem PySem.Spec PyProof.Rows L2
theorem shl10 {n : Nat} (h : n ≤ 20) : CShl 1 (n : Int) := ⟨by omega, by
  have : Builtin.Int.intBits 1 = 1 := by decide +kernel
  rw [this]
  omega⟩
theorem pow_cast (n : Nat) : (1 : Int) * 2 ^ n = ((2 ^ n : Nat) : Int) := by
  rw [Int.one_mul]
  push_cast
  rfl
theorem rg_nat {x : Nat} (h : x ≤ 10000) : -2 ^ 62 ≤ (x : Int) ∧ (x : Int) < 2 ^ 62 := ⟨by omega, by omega⟩
theorem pow_le10 {n : Nat} (h : n ≤ 10) : 2 ^ n ≤ 1024 := Nat.pow_le_pow_right (by decide) h
theorem cutA_congr2 {ts : List Arc} {f g : Nat → Bool} (h : ∀ k, f k = g k) : cutA ts f = cutA ts g := by
  rw [show f = g from funext h]
def nsV (ls : List Nat) : List V := ls.map fun k : Nat => V.int (k : Int)
theorem nsV_len (ls : List Nat) : (nsV ls).length = ls.length := List.length_map _
theorem nsV_at {ls : List Nat} {i : Nat} (h : i < ls.length) : (nsV ls)[i]? = some (V.int (ls.getD i 0 : Nat)) := by
  unfold nsV
  rw [List.getElem?_map, List.getD_eq_getElem?_getD, List.getElem?_eq_getElem h]
  rfl
def bestV (ts : List Arc) (ls : List Nat) (i : Nat) : List V := (List.range (2 ^ ls.length)).map fun k => optV (bestO ts ls i k)
theorem bestV_len (ts : List Arc) (ls : List Nat) (i : Nat) : (bestV ts ls i).length = 2 ^ ls.length := by unfold bestV; rw [List.length_map, List.length_range]
theorem bestV_at (ts : List Arc) (ls : List Nat) (i : Nat) {k : Nat} (h : k < 2 ^ ls.length) : (bestV ts ls i)[k]? = some (optV (bestO ts ls i k)) := by
  unfold bestV
  rw [List.getElem?_map, List.getElem?_range h]
  rfl
theorem bestV_keep {ts : List Arc} {ls : List Nat} {i b : Nat} (h : bestO ts ls i (patM ls i) = some b) (hn : ¬ cutA ts i.testBit < b) : bestV ts ls (i + 1) = bestV ts ls i := by
  unfold bestV
  refine List.map_congr_left fun k _ => ?_
  congr 1
  show (if patM ls i = k then _ else _) = _
  by_cases e : patM ls i = k
  · rw [if_pos e, ← e, h]
    simp only []
    rw [if_neg hn]
  · rw [if_neg e]
theorem bestV_set {ts : List Arc} {ls : List Nat} {i : Nat} (h : ∀ b, bestO ts ls i (patM ls i) = some b → cutA ts i.testBit < b) : bestV ts ls (i + 1) = (bestV ts ls i).set (patM ls i) (.int (cutA ts i.testBit : Nat)) := by
  refine List.ext_getElem? fun k => ?_
  rw [List.getElem?_set]
  by_cases hk : k < 2 ^ ls.length
  · rw [bestV_at _ _ _ hk, bestV_at _ _ _ hk, bestV_len]
    show some (optV (if patM ls i = k then _ else _)) = _
    by_cases e : patM ls i = k
    · rw [if_pos e, if_pos e, if_pos (by omega), ← e]
      cases hb : bestO ts ls i (patM ls i) with
      | none => rfl
      | some b =>
        simp only []
        rw [if_pos (h b hb)]
        rfl
    · rw [if_neg e, if_neg e]
  · have := pat_lt ls i
    rw [List.getElem?_eq_none (by rw [bestV_len]; omega), if_neg (by omega), List.getElem?_eq_none (by rw [bestV_len]; omega)]
def dueL (ts : List Arc) (n : Nat) (ls : List Nat) : List Nat := (List.range (2 ^ ls.length)).map (dueV ts n ls)
theorem bestV_due {ts : List Arc} {n : Nat} {ls : List Nat} (h : OutsOk n ls) : bestV ts ls (2 ^ n) = nsV (dueL ts n ls) := by
  unfold bestV nsV dueL
  rw [List.map_map]
  refine List.map_congr_left fun k hk => ?_
  rw [due_some h (List.mem_range.mp hk)]
  rfl
theorem dueL_len (ts : List Arc) (n : Nat) (ls : List Nat) : (dueL ts n ls).length = 2 ^ ls.length := by unfold dueL; rw [List.length_map, List.length_range]
theorem bit_one (m x : Nat) : decide (V.int ((m : Int) / 2 ^ x % 2 ^ 1) = V.int 1) = m.testBit x := by
  rw [← bitW]
  unfold bitB
  rw [decide_eq_decide]
  exact ⟨fun h => V.int.inj h, fun h => congrArg V.int h⟩
theorem optV_non (o : Option Nat) : decide (optV o = V.non) = o.isNone := by
  cases o with
  | none => rfl
  | some b => exact decide_eq_false fun h => nomatch h
section
variable {P : Program} {w : World} {K : PySem.W.Frag} {mg : Str → Option Value} {base : Heap} {C N : Addr}
/-! _law_outline_due -/
abbrev NOD : List Str := ["arcs", "many", "outside", "out", "mask", "k", "heavy", "i"]
theorem sc_law_outline_due : FnScope NOD ["arcs", "many", "outside"] (defScope s__law_outline_due) := ⟨rfl, rfl, rfl, by decide +kernel, rfl, by decide +kernel, by decide +kernel⟩
def spOutlineDue : Sp := fun vs H Q _ => ∃ (G : Hp) (l : List (Addr × HO)) (a o : Addr) (n : Nat) (xs : List V) (ts : List Arc) (ls : List Nat), vs = [.ref a, .int n, .ref o] ∧ Has G H l ∧ G a = some (.lst xs) ∧ Ats G xs (ts.map arcD) ∧ ts.length ≤ 10000 ∧ G o = some (.lst (nsV ls)) ∧ OutsOk n ls ∧ n ≤ 10 ∧ ls.length ≤ 10 ∧
  ∀ (H' : Hp) (u : Addr), Has G H' ((u, .lst (nsV (dueL ts n ls))) :: l) → Q (.ref u) H'
theorem ok_outline_due (D : Dfn K mg "_law_outline_due" s__law_outline_due ["arcs", "many", "outside"]) (z : Z mg) (zsum : mg "sum" = none) (O_due : Ok P w K mg base 1 "_law_cut_due" ["arcs", "mask"] (spCutDue K)) : Ok P w K mg base 2 "_law_outline_due" ["arcs", "many", "outside"] spOutlineDue := D.ok fun f fd F => by
  refine F.ok sc_law_outline_due (fun vs H Q E h => ?_) (fun cdv A outer s H vs Q E hr h => ?_)
  · obtain ⟨G, l, a, o, n, xs, ts, ls, rfl, _⟩ := h
    rfl
  · obtain ⟨G, l, a, o, n, xs, ts, ls, rfl, S, ha, hx, lts, ho, ok, hn, hl, q⟩ := h
    refine ⟨_, (pss_cons (ps_setLc (i := 3) (own := [("k", 5)]) (g := gName 5) rfl sc_law_outline_due.nd rfl rfl (sw_true rfl rfl rfl (by decide +kernel)) (pi_range1 (by rfl) z.range (pa_cons (pe_op op_shlN pe_int (pe_callB call_len_seq (by rfl) z.len PySem.boot_len (pa_cons (pv 2) pa_nil))) pa_nil)) (blkOk_by (N := NOD) (own := [("k", 5)]) (sc := defScope s__law_outline_due) (by decide +kernel)) (fun _ _ _ _ _ => pg_name (i := 5) sc_law_outline_due.nd rfl (Or.inl rfl)) (fun _ _ _ _ _ => pts_nil) (fun _ _ _ _ _ => pe_non))
      (pss_cons (ps_for PassesOwn.never rfl (pi_range1 (by rfl) z.range (pa_cons (pe_op op_shlN pe_int (pv 1)) pa_nil)) (pg_name (i := 4) sc_law_outline_due.nd rfl (Or.inr rfl))
        (pss_cons (ps_set (i := 5) sc_law_outline_due.nd rfl (Or.inl rfl) (pe_callB (cr_sum rfl) (by rfl) zsum (by decide +kernel) (pa_cons (pe_lc (own := [("i", 7)]) (g := gName 7) rfl sc_law_outline_due.nd (pi_range1 (by rfl) z.range (pa_cons (pe_callB call_len_seq (by rfl) z.len PySem.boot_len (pa_cons (pv 2) pa_nil)) pa_nil)) (blkOk_by (N := NOD) (own := [("i", 7)]) (sc := defScope s__law_outline_due) (by decide +kernel)) (fun _ _ _ _ _ => pg_name (i := 7) sc_law_outline_due.nd rfl (Or.inl rfl))
          (fun _ _ _ _ _ => pts_one (pt_cmpR op_eq (pe_op op_andM (pe_op op_shrN (pv 4) (pe_ix (ix_any (K := K)) (pv 2) (pv 7) (fun _ _ => rfl))) pe_int) pe_int (nomark _))) (fun _ _ _ _ _ => (pe_op op_shlN pe_int (pv 7)))) pa_nil)))
        (pss_cons (ps_set (i := 6) sc_law_outline_due.nd rfl (Or.inl rfl) (pe_o O_due hr (pa_cons (pv 0) (pa_cons (pv 4) pa_nil))))
        (pss_one (ps_if (PW.pt (pw_or (pt_cmpR op_isN (pe_ix ix_list (pv 3) (pv 5) (fun _ _ => rfl)) pe_non (nomark _)) (pw_or1 (pt_cmpR op_lt (pv 6) (pe_ix ix_list (pv 3) (pv 5) (fun _ _ => rfl)) (nomark _))))) (pss_one (ps_asg (pv 6) (pg_sub (pv 3) (pv 5) set_list))) pss_nil)))))
      (pss_one (ps_ret (pv 3))))), ?_⟩
    have pl := pow_le10 hl
    have pn := pow_le10 hn
    have hoH := S.ex _ _ ho
    refine ⟨_, rfl, o, _, rfl, .inl (Evl.sq_of hoH), _, ls.length, rfl, by rw [nsV_len], shl10 (by omega), _, rfl, ?_⟩
    rw [pow_cast]
    refine ⟨(rg_nat (by omega)).1, (rg_nat (by omega)).2, fun D1 hD1 => ?_⟩
    rw [Int.toNat_natCast]
    refine lc_range (lo := 0) (n := 2 ^ ls.length) (fun i H' => Has G H' ((D1, .lst ((List.range i).map fun _ => V.non)) :: l)) (S.new hD1) ?_ ?_
    · rintro i H2 hi S2
      refine ⟨rfl, _, S2.get 0 rfl, szl (by rw [List.length_map, List.length_range]; omega), ?_⟩
      show Has G _ ((D1, .lst ((List.range (i + 1)).map fun _ => V.non)) :: l)
      rw [List.range_succ, List.map_append]
      exact S2.set 0 rfl
    rintro H2 S2
    have S2 : Has G H2 ((D1, .lst (bestV ts ls 0)) :: l) := S2
    refine ⟨_, rfl, _, n, rfl, rfl, shl10 (by omega), _, rfl, ?_⟩
    rw [pow_cast]
    refine ⟨(rg_nat (by omega)).1, (rg_nat (by omega)).2, ?_⟩
    rw [Int.toNat_natCast]
    refine for_range (lo := 0) (n := 2 ^ n) (fun i σ H' => ∃ v4 v5 v6 v7 : Option V, σ = [some (.ref a), some (.int n), some (.ref o), some (.ref D1), v4, v5, v6, v7] ∧ Has G H' ((D1, .lst (bestV ts ls i)) :: l))
      ⟨_, _, _, _, rfl, S2⟩ ?_ ?_
    · rintro i σ H3 hi ⟨v4, v5, v6, v7, rfl, S3⟩
      rw [Int.zero_add]
      -- the pattern
      refine ⟨_, rfl, o, _, rfl, .inl (Evl.sq_of (S3.ex _ _ ho)), ls.length, by rw [nsV_len], by omega, by omega, fun D2 hD2 => ?_⟩
      rw [show ((ls.length : Nat) : Int).toNat = ls.length by omega]
      refine lc_range (lo := 0) (n := ls.length) (fun j H' => Has G H' ((D2, .lst (nsV (((List.range j).filter fun j => i.testBit (ls.getD j 0)).map fun j => 2 ^ j))) :: (D1, .lst (bestV ts ls i)) :: l)) (S3.new hD2) ?_ ?_
      · rintro j H4 hj S4
        rw [Int.zero_add]
        refine ⟨rfl, _, rfl, _, rfl, _, rfl, .inl ⟨o, _, j, _, rfl, rfl, Evl.sq_of (S4.ex _ _ ho), atI_nat (nsV_at hj), i, ls.getD j 0, rfl, rfl, _, 1, rfl, rfl, rfl, _, rfl, ?_⟩⟩
        rw [bit_one]
        have lj : ((List.range j).filter fun j => i.testBit (ls.getD j 0)).length ≤ j := by
          have := List.length_filter_le (fun j => i.testBit (ls.getD j 0)) (List.range j)
          rw [List.length_range] at this
          exact this
        cases hb : i.testBit (ls.getD j 0) with
        | true =>
          refine ⟨_, rfl, _, j, rfl, rfl, shl10 (by omega), _, S4.get 0 rfl, szl (by rw [nsV_len, List.length_map]; omega), ?_⟩
          rw [pow_cast, List.range_succ, List.filter_append, List.filter_cons_of_pos (by exact hb), List.map_append]
          unfold nsV
          rw [List.map_append]
          exact S4.set 0 rfl
        | false =>
          show Has G H4 _
          rw [List.range_succ, List.filter_append, List.filter_cons_of_neg (by rw [hb]; decide)]
          rw [List.filter_nil, List.append_nil]
          exact S4
      rintro H4 S4
      have hsum : ((((List.range ls.length).filter fun j => i.testBit (ls.getD j 0)).map fun j => 2 ^ j).map fun k : Nat => (k : Int)).sum = ((patM ls i : Nat) : Int) := sum_cast _
      refine ⟨D2, ((((List.range ls.length).filter fun j => i.testBit (ls.getD j 0)).map fun j => 2 ^ j).map fun k : Nat => (k : Int)), rfl, Evl.sq_of (by rw [List.map_map]; exact S4.get 0 rfl), ?_⟩
      rw [hsum]
      have S5 := S4.tail
      -- the cut
      refine ⟨_, rfl, _, rfl, a, i, xs, ts, rfl, Evl.sq_of (S5.ex _ _ ha), hx.ex S5.ex, lts, fun H5 e5 => ?_⟩
      have S6 := S5.go e5
      rw [cutA_congr2 (g := i.testBit) (fun k => bitW i k)]
      have hk := pat_lt ls i
      have hget := bestV_at ts ls i hk
      have six : SqL K H5 D1 (bestV ts ls i) := Evl.sq_of (S6.get 0 rfl)
      have six2 : ∀ {x : V}, (bestV ts ls i)[patM ls i]? = some x → atI (bestV ts ls i) ((patM ls i : Nat) : Int) = some x := fun h => atI_nat h
      refine ⟨_, rfl, _, rfl, D1, _, patM ls i, _, rfl, rfl, six, six2 hget, rfl, _, rfl, ?_⟩
      rw [optV_non]
      have put : bestV ts ls (i + 1) = (bestV ts ls i).set (patM ls i) (.int (cutA ts i.testBit : Nat)) → ∃ H', H' = upd H5 D1 (.lst ((bestV ts ls i).set (patM ls i) (.int (cutA ts i.testBit : Nat)))) ∧ Has G H' ((D1, .lst (bestV ts ls (i + 1))) :: l) := fun e => ⟨_, rfl, by rw [e]; exact S6.set 0 rfl⟩
      cases hb : bestO ts ls i (patM ls i) with
      | none =>
        obtain ⟨_, rfl, S7⟩ := put (bestV_set fun b h => by rw [hb] at h; cases h)
        exact ⟨_, rfl, _, rfl, _, rfl, D1, _, patM ls i, patM ls i, rfl, rfl, S6.get 0 rfl, Evl.ixN_nat (by rw [bestV_len]; exact hk), _, _, _, _, rfl, S7⟩
      | some b =>
        rw [hb] at hget
        refine ⟨_, rfl, _, rfl, _, rfl, D1, _, patM ls i, _, rfl, rfl, six, six2 hget, _, _, rfl, rfl, _, rfl, ?_⟩
        refine ite2 (fun hc => ?_) (fun hc => ?_)
        · have lt : cutA ts i.testBit < b := by
            have := of_decide_eq_true hc
            omega
          obtain ⟨_, rfl, S7⟩ := put (bestV_set fun b' h => by rw [hb] at h; cases h; exact lt)
          exact ⟨_, rfl, _, rfl, _, rfl, D1, _, patM ls i, patM ls i, rfl, rfl, S6.get 0 rfl, Evl.ixN_nat (by rw [bestV_len]; exact hk), _, _, _, _, rfl, S7⟩
        · have nlt : ¬ cutA ts i.testBit < b := fun h => hc (decide_eq_true (by omega))
          refine ⟨_, _, _, _, rfl, ?_⟩
          rw [bestV_keep hb nlt]
          exact S6
    · rintro σ H3 ⟨v4, v5, v6, v7, rfl, S3⟩
      rw [bestV_due ok] at S3
      exact ⟨_, rfl, q H3 D1 S3⟩
end
end TW
set_option Elab.async false
set_option linter.all false
set_option maxRecDepth 100000
set_option maxHeartbeats 1000000
namespace TW
open PySem PySem.Spec PyProof.Rows L2
theorem near_lenF (ts : List Arc) (p : Nat) : (nearT ts p).length = (ts.filter (atB p)).length := List.length_map _
theorem rep_nats {H : Hp} {a b : Addr} {ls : List Nat} (ha : H a = some (.lst (nsV ls))) (hb : H b = some (.lst (nsV ls))) (hl : ls.length ≤ 10000) : Rep 1 H (.ref a) (.ref b) :=
  .inr ⟨a, b, _, _, rfl, rfl, .inl ⟨ha, hb⟩, rfl, by rw [nsV_len]; exact hl, fun i x y hx hy => by
    rw [hx] at hy
    cases hy
    unfold nsV at hx
    rw [List.getElem?_map] at hx
    cases hk : ls[i]? with
    | none => rw [hk] at hx; cases hx
    | some k =>
      rw [hk] at hx
      cases hx
      exact ⟨rfl, rfl⟩⟩
theorem rep_flat {H : Hp} {x : V} (h : isFlat x = true) : Rep 0 H x x := ⟨rfl, h⟩
theorem sl_tupK {X : Cx} {K : PySem.W.Frag} (h : X.K = K := by rfl) : SlR X (rSlT K) := by
  subst h
  exact sl_tup
def wTM : Str := "too many"
section
variable {P : Program} {w : World} {K : PySem.W.Frag} {mg : Str → Option Value} {base : Heap} {C N : Addr}
/-! _law_shadow -/
theorem sc_law_shadow : FnScope ["arcs", "many", "left"] ["arcs", "many", "left"] (defScope s__law_shadow) := ⟨rfl, rfl, rfl, by decide +kernel, rfl, by decide +kernel, by decide +kernel⟩
theorem ok_shadow (D : Dfn K mg "_law_shadow" s__law_shadow ["arcs", "many", "left"]) (O : Ok P w K mg base 2 "_law_outline_due" ["arcs", "many", "outside"] spOutlineDue) : Ok P w K mg base 3 "_law_shadow" ["arcs", "many", "left"] spOutlineDue := D.ok fun f fd F => by
  refine F.ok sc_law_shadow (fun vs H Q E h => ?_) (fun cdv A outer s H vs Q E hr h => ?_)
  · obtain ⟨G, l, a, o, n, xs, ts, ls, rfl, _⟩ := h
    rfl
  · obtain ⟨G, l, a, o, n, xs, ts, ls, rfl, S, ha, hx, lts, ho, ok, hn, hl, q⟩ := h
    refine ⟨_, (pss_one (ps_ret (pe_o O hr (pa_cons (pv 0) (pa_cons (pv 1) (pa_cons (pv 2) pa_nil)))))), ?_⟩
    exact ⟨_, rfl, _, rfl, _, rfl, G, l, a, o, n, xs, ts, ls, rfl, S, ha, hx, lts, ho, ok, hn, hl, q⟩
/-! _law_degree -/
theorem sc_law_degree : FnScope ["arcs", "spot_here", "arc"] ["arcs", "spot_here"] (defScope s__law_degree) := ⟨rfl, rfl, rfl, by decide +kernel, rfl, by decide +kernel, by decide +kernel⟩
def spDegree (K : PySem.W.Frag) : Sp := fun vs H Q _ => ∃ (a : Addr) (p : Nat) (xs : List V) (ts : List Arc), vs = [.ref a, .int p] ∧ SqL K H a xs ∧ Ats H xs (ts.map arcD) ∧ ts.length ≤ 10000 ∧ ∀ H', Ex H H' → Q (.int ((nearT ts p).length : Nat)) H'
theorem ok_degree (D : Dfn K mg "_law_degree" s__law_degree ["arcs", "spot_here"]) (z : Z mg) : Ok P w K mg base 1 "_law_degree" ["arcs", "spot_here"] (spDegree K) := D.ok fun f fd F => by
  refine F.ok sc_law_degree (fun vs H Q E h => ?_) (fun cdv A outer s H vs Q E hr h => ?_)
  · obtain ⟨a, p, xs, ts, rfl, _⟩ := h
    rfl
  · obtain ⟨a, p, xs, ts, rfl, hx, h3, lts, q⟩ := h
    refine ⟨_, (pss_one (ps_ret (pe_callB call_len_seq (by rfl) z.len PySem.boot_len (pa_cons (pe_lc (own := [("arc", 2)]) (g := gName 2) rfl sc_law_degree.nd (pi_list (pv 0)) (blkOk_by (N := ["arcs", "spot_here", "arc"]) (own := [("arc", 2)]) (sc := defScope s__law_degree) (by decide +kernel)) (fun _ _ _ _ _ => pg_name (i := 2) sc_law_degree.nd rfl (Or.inl rfl))
      (fun _ _ _ _ _ => pts_one (pt_cmpR (op_inK (K := K)) (pv 1) (pe_slice (sl_tupK (K := K)) (pv 2) po_none (po_some pe_int)) (by rfl))) (fun _ _ _ _ _ => (pv 2))) pa_nil)))), ?_⟩
    refine ⟨_, rfl, a, rfl, ⟨_, hx⟩, fun Dl hD => ?_⟩
    refine lc_list (K := K) (a := a) (xs := xs) (fun i H' => ∃ ys : List V, Has H H' [(Dl, .lst ys)] ∧ ys.length = ((ts.take i).filter (atB p)).length) ⟨[], Has.nil.new hD, rfl⟩ (fun i H' _ h => by
      obtain ⟨ys, S', _⟩ := h
      exact Evl.ex_l S'.ex hx) ?_ ?_
    · rintro i x H1 hi ⟨ys, S1, ly⟩
      obtain ⟨t, ht, ax⟩ := ats_get h3 hi
      obtain ⟨b, rfl, hb⟩ := (ax.ex S1.ex).arc
      refine ⟨rfl, _, rfl, _, rfl, 2, rfl, b, _, rfl, Evl.st_of hb, cut2w _ _ _, fun p1 np1 => ?_⟩
      rw [cut2]
      have S2 := S1.new (o := .tup [.int t.1, .int t.2.1]) np1
      generalize upd H1 p1 (.tup [.int t.1, .int t.2.1]) = H2 at S2
      refine ⟨p1, _, rfl, .inr (Evl.st_of (S2.get 0 rfl)), rfl, rfl, _, rfl, ?_⟩
      rw [if_neg (by decide), show inV (V.int (p : Int)) [V.int (t.1 : Int), V.int (t.2.1 : Int)] = decide ((p : Int) ∈ [(t.1 : Int), (t.2.1 : Int)]) from inV_int (p : Int) [(t.1 : Int), (t.2.1 : Int)], in2]
      have S3 := S2.tail
      have lj : ((ts.take i).filter (atB p)).length ≤ ts.length := Nat.le_trans (List.length_filter_le _ _) (List.length_take_le' _ _)
      show if atB p t = true then _ else _
      cases hc : atB p t with
      | true =>
        refine ⟨_, rfl, _, S3.get 0 rfl, szl (by omega), ys ++ [.ref b], S3.set 0 rfl, ?_⟩
        rw [filt_yes (f := atB p) ht hc, List.length_append, List.length_append, ly]
        rfl
      | false =>
        refine ⟨ys, S3, ?_⟩
        rw [filt_no (f := atB p) ht hc]
        exact ly
    · rintro H1 ⟨ys, S1, ly⟩
      have lx : xs.length = ts.length := by rw [h3.1, List.length_map]
      rw [lx, List.take_length, ← near_lenF] at ly
      refine ⟨Dl, ys, rfl, .inl (Evl.sq_of (S1.get 0 rfl)), ?_⟩
      rw [ly]
      exact q H1 S1.ex
/-! _law_taken -/
abbrev NTK : List Str := ["net", "spot_here", "out"]
theorem sc_law_taken : FnScope NTK ["net", "spot_here"] (defScope s__law_taken) := ⟨rfl, rfl, rfl, by decide +kernel, rfl, by decide +kernel, by decide +kernel⟩
def spTaken (C : Addr) : Sp := fun vs H Q E => ∃ (G : Hp) (l : List (Addr × HO)) (a : Addr) (p n : Nat) (ts : List Arc), vs = [.ref a, .int p] ∧ Has G H l ∧ WebAt C G a n ts ∧ Net n ts ∧ n ≤ 20 ∧ p < n ∧ 1 < n ∧
  (3 < (nearT ts p).length → ∀ H', Has G H' l → Q (.str wTM) H') ∧
  ((nearT ts p).length ≤ 3 → ∀ (G' H' : Hp) (t x : Addr), Ex G G' → Has G' H' l → G' t = some (.tup [.ref x, .int (facT (nearT ts p).length : Nat)]) → WebAt C G' x (n - 1) (sumA (n - 1) (outT ts p)) → Q (.ref t) H')
theorem ok_taken {ft : Addr} {ftd : FuncData} (D : Dfn K mg "_law_taken" s__law_taken ["net", "spot_here"]) (TE : TN K mg "TooManyTies" N) (R : FnOk P w K mg base (L2.CX P w) 6 ft ftd ["web", "place"] (spTakeOut C N)) (g : mg "take_out" = some (.ref ft)) (kp : PySem.W.keepIn K (.ref ft) = true) (bc : Binds K ftd ["web", "place"] []) : Ok P w K mg base 7 "_law_taken" ["net", "spot_here"] (spTaken C) := D.ok fun f fd F => by
  refine F.ok sc_law_taken (fun vs H Q E h => ?_) (fun cdv A outer s H vs Q E hr h => ?_)
  · obtain ⟨G, l, a, p, n, ts, rfl, _⟩ := h
    rfl
  · obtain ⟨G, l, a, p, n, ts, rfl, S, web, net, hn, hp, h1, qe, q⟩ := h
    refine ⟨_, (pss_cons (ps_set (i := 2) sc_law_taken.nd rfl (Or.inl rfl) pe_non)
      (pss_cons (ps_try_only (tb := fun W => tAsg (tCallS (spTakeOut C N) (WE W) (tCons (tVar 0) (tCons (tVar 1) tNil))) (gName 2)) (ts := fun _ _ _ => tAsg (tC (.str wTM)) (gName 2)) (Wout := fun _ _ _ _ => False) rfl rfl ⟨rfl, by decide, Or.inl TE.g⟩ takes0
          (fun W pn xe tk _ => pss_one (ps_set (i := 2) sc_law_taken.nd rfl (Or.inl rfl) (pe_callS R hr (by rfl) g kp bc (fun σ => passAt tk σ) (by exact (pa_cons (pv 0) (pa_cons (pv 1) pa_nil))))))
          (fun _ _ _ _ _ _ _ => pss_one (ps_set (i := 2) sc_law_taken.nd rfl (Or.inl rfl) pe_str)))
      (pss_one (ps_ret (pv 2))))), ?_⟩
    refine ⟨_, rfl, _, rfl, G, l, a, p, n, ts, rfl, S, web, net, hn, hp, h1, fun h0 H' S' => ?_, fun h0 G' H' t x e S' ht wx => ?_⟩
    · refine ⟨true, TE.e, fun _ b hb' => ?_, fun q => nomatch q⟩
      exact ⟨_, rfl, qe h0 H' S'⟩
    · exact ⟨_, rfl, q h0 G' H' t x e S' ht wx⟩
end
end TW
set_option Elab.async false
set_option linter.all false
set_option maxRecDepth 100000
set_option maxHeartbeats 1000000
namespace TW
open PySem PySem.Spec PyProof.Rows L2
theorem fac_int (d : Nat) : (1 : Int) + (if decide (V.int (d : Int) = V.int 3) = true then 1 else 0) = ((facT d : Nat) : Int) := by
  have e : decide (V.int (d : Int) = V.int 3) = decide (d = 3) := by
    rw [decide_eq_decide]
    exact ⟨fun h => by have := V.int.inj h; omega, fun h => by rw [h]; rfl⟩
  rw [e]
  unfold facT
  by_cases h : d = 3
  · rw [decide_eq_true h, if_pos rfl, if_pos h]
    rfl
  · rw [decide_eq_false h, if_neg (by decide), if_neg h]
    rfl
theorem nsV_get {L : List Nat} {i : Nat} {v : V} (h : (nsV L)[i]? = some v) : ∃ k, L[i]? = some k ∧ v = .int (k : Int) := by
  unfold nsV at h
  rw [List.getElem?_map] at h
  cases hk : L[i]? with
  | none => rw [hk] at h; cases h
  | some k =>
    rw [hk] at h
    exact ⟨k, rfl, (Option.some.inj h).symm⟩
/-- what the rows of the new web must cut -/
theorem rows_due {n p : Nat} {ts : List Arc} (net : Net n ts) (hp : p < n) (few : (nearT ts p).length ≤ 3) {m : Nat} (hm : m < 2 ^ (n - 1)) : cutA (sumA (n - 1) (outT ts p)) m.testBit = facT (nearT ts p).length * dueV ts n (leftP n p) m := by
  have oks : ∀ t ∈ ts, arcOk n t := fun t ht => by
    obtain ⟨h1, h2, _⟩ := net.ok t ht
    exact ⟨by omega, h2, by omega⟩
  rw [cut_sum (out_ok net hp), cut_out (fun t ht => (oks t ht).2.2) few, due_left oks hp hm]
section
variable {P : Program} {w : World} {K : PySem.W.Frag} {mg : Str → Option Value} {base : Heap} {C N : Addr}
/-! _law_fine_rest -/
abbrev NFR : List Str := ["arcs", "many", "spot_here", "told", "factor", "left", "due", "rows", "k", "mask"]
theorem sc_law_fine_rest : FnScope NFR ["arcs", "many", "spot_here", "told"] (defScope s__law_fine_rest) := ⟨rfl, rfl, rfl, by decide +kernel, rfl, by decide +kernel, by decide +kernel⟩
def spFineRest (C : Addr) : Sp := fun vs H Q _ => ∃ (G : Hp) (l : List (Addr × HO)) (a t x : Addr) (p n : Nat) (xs : List V) (ts : List Arc), vs = [.ref a, .int n, .int p, .ref t] ∧ Has G H l ∧ G a = some (.lst xs) ∧ Ats G xs (ts.map arcD) ∧ Net n ts ∧ n ≤ 10 ∧ p < n ∧ 1 < n ∧ (nearT ts p).length ≤ 3 ∧
  G t = some (.tup [.ref x, .int (facT (nearT ts p).length : Nat)]) ∧ WebAt C G x (n - 1) (sumA (n - 1) (outT ts p)) ∧ ∀ H', Has G H' l → Q (.bl true) H'
theorem ok_fine_rest {gp gg gq gl : Addr} {gpd gqd : FuncData} (D : Dfn K mg "_law_fine_rest" s__law_fine_rest ["arcs", "many", "spot_here", "told"]) (z : Z mg) (T : WC K mg C) (PT : TG P w K mg base C gp gg gpd "places" (spWPlaces C)) (PL : TG P w K mg base C gq gl gqd "ties" (spWTies C))
    (O_deg : Ok P w K mg base 1 "_law_degree" ["arcs", "spot_here"] (spDegree K)) (O_shadow : Ok P w K mg base 3 "_law_shadow" ["arcs", "many", "left"] spOutlineDue) (O_due : Ok P w K mg base 1 "_law_cut_due" ["arcs", "mask"] (spCutDue K))
    (O_same : ∀ n, Ok P w K mg base (n + 1) "_law_same" ["given", "due"] (spSame n)) : Ok P w K mg base 4 "_law_fine_rest" ["arcs", "many", "spot_here", "told"] (spFineRest C) := D.ok fun f fd F => by
  refine F.ok sc_law_fine_rest (fun vs H Q E h => ?_) (fun cdv A outer s H vs Q E hr h => ?_)
  · obtain ⟨G, l, a, t, x, p, n, xs, ts, rfl, _⟩ := h
    rfl
  · obtain ⟨G, l, a, t, x, p, n, xs, ts, rfl, S, ha, hx, net, hn, hp, h1, few, ht, web, q⟩ := h
    refine ⟨_, (pss_cons (ps_set (i := 4) sc_law_fine_rest.nd rfl (Or.inr rfl) (pe_op op_add pe_int (pe_callTy call_int1 (by rfl) z.int (by decide +kernel) (pa_cons (pe_cmpR op_eq (pe_o O_deg (hr.mono (by decide)) (pa_cons (pv 0) (pa_cons (pv 2) pa_nil))) pe_int (nomark _)) pa_nil))))
      (pss_cons (ps_if (PW.pt (pw_or (pt_not (pt_val (pe_callB call_isi (by rfl) z.isinstance (by decide +kernel) (pa_cons (pv 3) (pa_cons (pe_tyn (n := "tuple") (by rfl) z.tuple (by decide +kernel)) pa_nil))))) (pw_or (pt_cmpR op_ne (pe_callB call_len_seq (by rfl) z.len PySem.boot_len (pa_cons (pv 3) pa_nil)) pe_int (nomark _)) (pw_or1 (pt_not (pt_val (pe_o (O_same 0) (hr.mono (by decide)) (pa_cons (pe_ix (ix_any (K := K)) (pv 3) pe_int (fun _ _ => rfl)) (pa_cons (pv 4) pa_nil))))))))) (pss_one (ps_ret pe_bl)) pss_nil)
      (pss_cons (ps_if (PW.pt (pw_or (pt_not (pt_val (pe_callB (C8.call_isC T.ins) (by rfl) z.isinstance (by decide +kernel) (pa_cons (pe_ix (ix_any (K := K)) (pv 3) pe_int (fun _ _ => rfl)) (pa_cons (pe_glob (by rfl) T.mg (show RelV (.ref C) (.ref C) from rfl)) pa_nil))))) (pw_or1 (pt_not (pt_val (pe_o (O_same 0) (hr.mono (by decide)) (pa_cons (pe_prop (pe_ix (ix_any (K := K)) (pv 3) pe_int (fun _ _ => rfl)) T.cl PT.at_ PT.ok (hr.mono (by decide)) PT.b .nil pass0 rfl) (pa_cons (pe_op op_sub (pv 1) pe_int) pa_nil)))))))) (pss_one (ps_ret pe_bl)) pss_nil)
      (pss_cons (ps_setLc (i := 5) (own := [("k", 8)]) (g := gName 8) rfl sc_law_fine_rest.nd rfl rfl (sw_true rfl rfl rfl (by decide +kernel)) (pi_range1 (by rfl) z.range (pa_cons (pv 1) pa_nil)) (blkOk_by (N := NFR) (own := [("k", 8)]) (sc := defScope s__law_fine_rest) (by decide +kernel)) (fun _ _ _ _ _ => pg_name (i := 8) sc_law_fine_rest.nd rfl (Or.inl rfl)) (fun _ _ _ _ _ => pts_one (pt_cmpR op_ne (pv 8) (pv 2) (nomark _))) (fun _ _ _ _ _ => (pv 8)))
      (pss_cons (ps_set (i := 6) sc_law_fine_rest.nd rfl (Or.inl rfl) (pe_o O_shadow (hr.mono (by decide)) (pa_cons (pv 0) (pa_cons (pv 1) (pa_cons (pv 5) pa_nil)))))
      (pss_cons (ps_set (i := 7) sc_law_fine_rest.nd rfl (Or.inr rfl) (pe_prop (pe_ix (ix_any (K := K)) (pv 3) pe_int (fun _ _ => rfl)) T.cl PL.at_ PL.ok (hr.mono (by decide)) PL.b .nil pass0 rfl))
      (pss_one (ps_ret (pe_o (O_same 1) (hr.mono (by decide)) (pa_cons (pe_lc (own := [("mask", 9)]) (g := gName 9) rfl sc_law_fine_rest.nd (pi_range1 (by rfl) z.range (pa_cons (pe_callB call_len_seq (by rfl) z.len PySem.boot_len (pa_cons (pv 6) pa_nil)) pa_nil)) (blkOk_by (N := NFR) (own := [("mask", 9)]) (sc := defScope s__law_fine_rest) (by decide +kernel)) (fun _ _ _ _ _ => pg_name (i := 9) sc_law_fine_rest.nd rfl (Or.inl rfl)) (fun _ _ _ _ _ => pts_nil) (fun _ _ _ _ _ => (pe_o O_due (hr.mono (by decide)) (pa_cons (pv 7) (pa_cons (pv 9) pa_nil)))))
        (pa_cons (pe_lc (own := [("k", 8)]) (g := gName 8) rfl sc_law_fine_rest.nd (pi_list (pv 6)) (blkOk_by (N := NFR) (own := [("k", 8)]) (sc := defScope s__law_fine_rest) (by decide +kernel)) (fun _ _ _ _ _ => pg_name (i := 8) sc_law_fine_rest.nd rfl (Or.inl rfl)) (fun _ _ _ _ _ => pts_nil) (fun _ _ _ _ _ => (pe_op op_mul (pv 4) (pv 8)))) pa_nil))))))))))), ?_⟩
    have lts := net.len
    have fac2 : facT (nearT ts p).length ≤ 2 := by
      unfold facT
      split <;> omega
    have rows := fun m hm => rows_due net hp few (m := m) hm
    have lrow := sumA_len (n - 1) (outT ts p)
    have lr : (sumA (n - 1) (outT ts p)).length ≤ 10000 := by
      have : (n - 1) * (n - 1) ≤ 9 * 9 := Nat.mul_le_mul (by omega) (by omega)
      omega
    obtain ⟨dx, tl, zs, w1, w2, w3⟩ := id web
    refine ⟨_, rfl, _, rfl, a, p, xs, ts, rfl, Evl.sq_of (S.ex _ _ ha), hx.ex S.ex, lts, fun H1 e1 => ⟨rfl, .inr ⟨_, rfl, _, _, rfl, rfl, ?_⟩⟩⟩
    have S1 := S.go e1
    rw [show (fun i j : Int => V.int (i + j)) (1 : Int) (if decide (V.int ((nearT ts p).length : Int) = V.int 3) = true then 1 else 0) = V.int ((facT (nearT ts p).length : Nat) : Int) from congrArg V.int (fac_int _)]
    generalize facT (nearT ts p).length = c at fac2 rows ht
    have tH : ∀ {H' : Hp}, Has G H' l → SqT K H' t [.ref x, .int (c : Int)] := fun S' => Evl.st_of (S'.ex _ _ ht)
    refine ⟨_, rfl, _, _, _, _, true, rfl, .ty _, .base (.tup (S1.ex _ _ ht)), kit_tt, _, rfl, ?_⟩
    refine ⟨_, rfl, t, _, rfl, .inr (tH S1), rfl, _, rfl, ?_⟩
    refine ⟨_, rfl, .inr ⟨t, _, 1, _, rfl, rfl, tH S1, rfl, _, rfl, _, _, rfl, rep_flat rfl, fun H2 e2 => ⟨_, rfl, ?_⟩⟩⟩
    have S2 := S1.go e2
    refine ⟨_, rfl, .inr ⟨t, _, 0, _, rfl, rfl, tH S2, rfl, x, dx, _, rfl, S2.ex _ _ w1, _, rfl, ?_⟩⟩
    refine ⟨_, rfl, .inr ⟨t, _, 0, _, rfl, rfl, tH S2, rfl, x, dx, _, rfl, S2.ex _ _ w1, x, n - 1, _, rfl, web.ex S2.ex, _, rfl, _, _, rfl, rfl, ?_⟩⟩
    rw [show (fun i j : Int => V.int (i - j)) (n : Int) 1 = V.int ((n - 1 : Nat) : Int) from congrArg V.int (by omega)]
    refine ⟨_, _, rfl, rep_flat rfl, fun H3 e3 => ⟨_, rfl, ?_⟩⟩
    have S3 := S2.go e3
    -- left
    refine ⟨_, rfl, n, rfl, by omega, by omega, fun D1 hD1 => ?_⟩
    rw [Int.toNat_natCast]
    refine lc_range (lo := 0) (n := n) (fun i H' => Has G H' ((D1, .lst (nsV (leftP i p))) :: l)) (S3.new hD1) ?_ ?_
    · rintro i H4 hi S4
      rw [Int.zero_add]
      refine ⟨rfl, _, rfl, _, rfl, rfl, _, rfl, ?_⟩
      rw [decI]
      have ll : (leftP i p).length ≤ i := by
        have := List.length_filter_le (fun k => !decide (k = p)) (List.range i)
        rw [List.length_range] at this
        exact this
      have up : leftP (i + 1) p = leftP i p ++ [i].filter (fun k => !decide (k = p)) := by
        unfold leftP
        rw [List.range_succ, List.filter_append]
      cases hc : !decide (i = p) with
      | true =>
        refine ⟨_, rfl, _, S4.get 0 rfl, szl (by rw [nsV_len]; omega), ?_⟩
        rw [up, List.filter_cons_of_pos (by exact hc)]
        unfold nsV
        rw [List.map_append]
        exact S4.set 0 rfl
      | false =>
        show Has G H4 _
        rw [up, List.filter_cons_of_neg (by rw [hc]; decide), List.filter_nil, List.append_nil]
        exact S4
    rintro H4 S4'
    obtain ⟨G4, e4, hD1', S4⟩ := S4'.sinkV
    have ln := left_len hp
    -- due
    refine ⟨_, rfl, _, rfl, _, rfl, G4, l, a, D1, n, xs, ts, leftP n p, rfl, S4, e4 _ _ ha, hx.ex e4, lts, hD1', left_ok n p, hn, by omega, fun H5 u S5' => ?_⟩
    obtain ⟨G5, e5, hu, S5⟩ := S5'.sinkV
    have e45 := e4.trans e5
    have ld := dueL_len ts n (leftP n p)
    rw [ln] at ld
    have p9 : 2 ^ (n - 1) ≤ 1024 := pow_le10 (by omega)
    have dueAt : ∀ m, m < 2 ^ (n - 1) → (dueL ts n (leftP n p))[m]? = some (dueV ts n (leftP n p) m) := fun m hm => by
      unfold dueL
      rw [List.getElem?_map, List.getElem?_range (by rw [ln]; exact hm)]
      rfl
    generalize hL : dueL ts n (leftP n p) = L at hu ld dueAt
    generalize hN : 2 ^ (n - 1) = B at ld rows p9 dueAt
    -- rows
    have tH5 : SqT K H5 t [.ref x, .int (c : Int)] := Evl.st_of (S5.ex _ _ (e45 _ _ ht))
    refine ⟨_, rfl, .inr ⟨t, _, 0, _, rfl, rfl, tH5, rfl, x, dx, _, rfl, S5.ex _ _ (e45 _ _ w1), x, n - 1, _, rfl, (web.ex e45).ex S5.ex, fun ro H6 ys nro e6 hro hys => ?_⟩⟩
    have hu6 := e6 _ _ (S5.ex _ _ hu)
    have lL : L.length ≤ 10000 := by omega
    have snoc : ∀ {i k : Nat}, L[i]? = some k → nsV ((L.take (i + 1)).map (c * ·)) = nsV ((L.take i).map (c * ·)) ++ [V.int ((c * k : Nat) : Int)] := fun {i k} h => by
      rw [take_snoc h, List.map_append]
      unfold nsV
      rw [List.map_append]
      rfl
    have lk : ∀ i, (nsV ((L.take i).map (c * ·))).length ≤ 10000 := fun i => by
      rw [nsV_len, List.length_map, List.length_take]
      omega
    refine ⟨_, rfl, u, _, rfl, .inl (Evl.sq_of hu6), B, by rw [nsV_len, ld], (rg_nat (by omega)).1, (rg_nat (by omega)).2, fun D2 hD2 => ?_⟩
    rw [Int.toNat_natCast]
    refine lc_range (lo := 0) (n := B) (fun i H' => Has H6 H' [(D2, .lst (nsV ((L.take i).map (c * ·))))]) (Has.nil.new hD2) ?_ ?_
    · rintro i H7 hi S7
      rw [Int.zero_add]
      refine ⟨rfl, _, rfl, _, rfl, ro, i, ys, _, rfl, Evl.sq_of (S7.ex _ _ hro), hys.ex S7.ex, lr, fun H8 e8 => ?_⟩
      have S8 := S7.go e8
      rw [cutA_congr2 (g := i.testBit) (fun k => bitW i k), rows i hi]
      refine ⟨_, S8.get 0 rfl, by have : sizeLine = 16777216 := sizeLine_eq; have := lk i; omega, ?_⟩
      rw [snoc (dueAt i hi)]
      exact S8.set 0 rfl
    rintro H7 S7
    rw [List.take_of_length_le (by omega)] at S7
    refine ⟨_, rfl, u, rfl, ⟨_, Evl.sq_of (S7.ex _ _ hu6)⟩, fun D3 hD3 => ?_⟩
    refine lc_list (K := K) (a := u) (xs := nsV L) (fun i H' => Has H6 H' [(D3, .lst (nsV ((L.take i).map (c * ·)))), (D2, .lst (nsV (L.map (c * ·))))]) (S7.new hD3) (fun i H' _ S' => Evl.sq_of (S'.ex _ _ hu6)) ?_ ?_
    · rintro i v H8 hi S8
      obtain ⟨k, hk, rfl⟩ := nsV_get hi
      refine ⟨rfl, _, rfl, _, rfl, _, _, rfl, rfl, .inl ⟨by omega, by omega⟩, _, S8.get 0 rfl, by have : sizeLine = 16777216 := sizeLine_eq; have := lk i; omega, ?_⟩
      show Has H6 _ _
      rw [snoc hk, show ((c * k : Nat) : Int) = (c : Int) * (k : Int) from by push_cast; rfl]
      exact S8.set 0 rfl
    rintro H8 S8
    rw [nsV_len, List.take_length] at S8
    refine ⟨.ref D2, .ref D3, rfl, rep_nats (S8.get 1 rfl) (S8.get 0 rfl) (by rw [List.length_map]; exact lL), fun H9 e9 => ?_⟩
    exact q H9 ((S5.go ((e6.trans S8.ex).trans e9)).down e45)
end
end TW
set_option Elab.async false
set_option linter.all false
set_option maxRecDepth 100000
set_option maxHeartbeats 2000000
namespace TW
open PySem PySem.Spec PyProof.Rows L2
theorem cut_ints (xs : List Int) (lo hi : Option Int) : ∃ ms : List Int, cutV (xs.map V.int) lo hi = ms.map V.int ∧ ms.length ≤ xs.length := by
  have e : cutV (xs.map V.int) lo hi = ((xs.drop (HT.sIx (xs.map V.int).length 0 lo)).take (HT.sIx (xs.map V.int).length (xs.map V.int).length hi - HT.sIx (xs.map V.int).length 0 lo)).map V.int := by
    unfold cutV
    rw [List.map_take, List.map_drop]
  refine ⟨_, e, ?_⟩
  rw [List.length_take, List.length_drop]
  omega
theorem ats_takeT {α : Type} {H : Hp} {xs : List V} {l : List α} {f : α → PyData} (h : Ats H xs (l.map f)) (n : Nat) : Ats H (xs.take n) ((l.take n).map f) := ⟨by rw [List.length_take, List.length_map, List.length_take, h.1, List.length_map], fun i x d h1 h2 => by
  rw [List.getElem?_take] at h1
  rw [List.getElem?_map, List.getElem?_take] at h2
  split at h1
  · next c =>
    rw [if_pos c] at h2
    exact h.2 i x d h1 (by rw [List.getElem?_map]; exact h2)
  · cases h1⟩
theorem pairs45 {n : Nat} (h : n ≤ 10) : (pairsN n).length ≤ 45 := by
  by_cases h9 : n ≤ 9
  · exact Nat.le_trans (pairs36 h9) (by decide)
  · rw [show n = 10 by omega]
    decide +kernel
theorem sumA_45 {n : Nat} (h : n ≤ 10) (ts : List Arc) : (sumA n ts).length ≤ 45 := by
  unfold sumA
  rw [List.length_map]
  exact Nat.le_trans (List.length_filter_le _ _) (pairs45 h)
/-! some of the ties of a web -/
theorem wOf_nil {X : List Arc} {p : Nat × Nat} (h : ∀ t ∈ X, endsA t ≠ p) : wOf X p = 0 := by
  unfold wOf
  rw [List.filter_eq_nil_iff.mpr fun t ht => by rw [decide_eq_false (h t ht)]; decide]
  rfl
theorem wOf_ends : ∀ {X : List Arc}, (X.map endsA).Nodup → ∀ t ∈ X, wOf X (endsA t) = t.2.2
  | s :: X, nd, t, ht => by
    rw [wOf_cons]
    obtain ⟨h1, h2⟩ := List.nodup_cons.mp nd
    rcases List.mem_cons.mp ht with e | e
    · rw [e, if_pos rfl, wOf_nil fun u hu q => h1 (List.mem_map.mpr ⟨u, hu, q⟩)]
      omega
    · rw [if_neg (fun q => h1 (List.mem_map.mpr ⟨t, e, q.symm⟩)), wOf_ends h2 t e]
      omega
theorem net_endsN {n : Nat} {A : List Arc} (h : Net n A) : (A.map endsA).Nodup := by
  unfold List.Nodup
  rw [List.pairwise_map]
  have pw := sumA_pw n A
  rw [h.sum] at pw
  refine List.Pairwise.imp_of_mem (fun {s t} hs ht q e => ?_) pw
  rw [net_ends h hs, net_ends h ht, Prod.mk.injEq] at e
  omega
/-- what is some of a web's ties is the sum of itself -/
theorem some_mem {n : Nat} {A us : List Arc} (h : Net n A) (nd : (us.map endsA).Nodup) (sub : ∀ t ∈ us, t ∈ A) (t : Arc) : t ∈ us ↔ t ∈ sumA n us := by
  rw [mem_sumA]
  constructor
  · intro ht
    obtain ⟨h1, h2, h3⟩ := h.ok t (sub t ht)
    have w := wOf_ends nd t ht
    rw [net_ends h (sub t ht)] at w
    exact ⟨h1, h2, w.symm, h3⟩
  · rintro ⟨h1, h2, h3, h4⟩
    by_cases c : (t.1, t.2.1) ∈ us.map endsA
    · obtain ⟨s, hs, e⟩ := List.mem_map.mp c
      have w := wOf_ends nd s hs
      rw [e] at w
      rw [net_ends h (sub s hs), Prod.mk.injEq] at e
      have : s = t := Prod.ext e.1 (Prod.ext e.2 (by omega))
      rw [← this]
      exact hs
    · rw [wOf_nil fun u hu q => c (List.mem_map.mpr ⟨u, hu, q⟩)] at h3
      omega
theorem net_ne {n : Nat} {ts : List Arc} (h : Net n ts) : ∀ t ∈ ts, t.1 ≠ t.2.1 := fun t ht => by
  have := (h.ok t ht).1
  omega
theorem rgV_eqW (b : Nat) : rgV 0 (b : Int) = (rangeI b).map V.int := by
  unfold rgV rangeI
  rw [List.map_map, show ((b : Int) - 0).toNat = b by omega]
  exact List.map_congr_left fun k _ => congrArg V.int (Int.zero_add _)
section
variable {P : Program} {w : World} {K : PySem.W.Frag} {mg : Str → Option Value} {base : Heap} {C N : Addr}
theorem kb_to {f : Addr} {fd : FuncData} (F : Fun K "take_out" "take_out" s_take_out f fd) : KBinds K fd ["web", "place"] ["place", "web"] sw2 sw2 := by
  refine ⟨fun s us ws _ hl => ?_, sw2_rel⟩
  obtain ⟨oc, od, kV, doc, pm, an, cdv, ct, osl, rfl, lk, hcd⟩ := F.ex
  refine .of_eq ?_
  match us, ws, hl with
  | [], [a, b], _ => rfl
abbrev NL : List Str := ["script", "great", "cell", "well", "great_one", "many", "arcs", "net", "spot_here", "told", "again"]
theorem sc_law : FnScope NL ["script"] (defScope s_law) := ⟨rfl, rfl, rfl, by decide +kernel, rfl, by decide +kernel, by decide +kernel⟩
def spLaw (K : PySem.W.Frag) : Sp := fun vs H Q _ => ∃ (a : Addr) (ns : List Int), vs = [.ref a] ∧ SqL K H a (ns.map V.int) ∧ ns.length ≤ 63 ∧ ∀ H', Q (.bl true) H'
/-- the number of places, two or more -/
def tMany : TE := fun σ H Q => ∃ (G : Hp) (wp : Addr) (o : HO) (bo : Bool), σ[3]? = some (some (.ref wp)) ∧ σ[4]? = some (some (.bl bo)) ∧ Has G H [(wp, o)] ∧ WellO 1 o ∧ ∀ (H' : Hp) (o' : HO) (n : Nat), Has G H' [(wp, o')] → WellO 2 o' → 2 ≤ n → n ≤ 10 → Q (.int n) H'
/-- how many spots -/
def tSpots : TE := fun σ H Q => ∃ bo : Bool, σ[4]? = some (some (.bl bo)) ∧ ∀ c : Nat, Q (.int c) H
/-- fewer ties, now and then -/
def tFewer (k0 : Nat) : TS := fun D σ H => ∃ (v0 v1 v2 v7 v8 v9 v10 : Option V) (bo : Bool) (G : Hp) (wp ta : Addr) (o : HO) (n : Nat) (ys : List V) (A : List Arc), σ = [v0, v1, v2, some (.ref wp), some (.bl bo), some (.int n), some (.ref ta), v7, v8, v9, v10] ∧ Has G H [(wp, o)] ∧ WellO k0 o ∧ G ta = some (.lst ys) ∧ Ats G ys (A.map arcD) ∧ Net n A ∧ A.length ≤ 45 ∧ 2 ≤ n ∧ n ≤ 10 ∧ (∀ t ∈ A, t.2.2 ≤ 10 ^ 18) ∧
  ∀ (G' H' : Hp) (ta' : Addr) (o' : HO) (ys' : List V) (A' : List Arc), Ex G G' → Has G' H' [(wp, o')] → WellO 5000 o' → G' ta' = some (.lst ys') → Ats G' ys' (A'.map arcD) → Net n A' → A'.length ≤ 45 → (∀ t ∈ A', t.2.2 ≤ 10 ^ 18) →
    D.nx [v0, v1, v2, some (.ref wp), some (.bl bo), some (.int n), some (.ref ta'), v7, v8, v9, v10] H'
theorem ok_law {f ft fi fe : Addr} {fd ftd fid fed : FuncData} (F : Fun K "law" "law" s_law f fd) (z : Z mg) (zmax : mg "max" = none) (T : WC K mg C) (M : WM P w K mg base C fi fid) (TE : WEq P w K mg base C fe fed) (O_draws : Ok P w K mg base 1 "_law_draws_of" ["cell"] spDrawsW) (O_dip : Ok P w K mg base 1 "_law_dip" ["well", "upto"] spDipW) (O_mixed : Ok P w K mg base 2 "_law_mixed" ["well", "row"] (spMixed K))
    (O_places : Ok P w K mg base 2 "_law_places_drawn" ["well"] spPlacesDrawn) (O_ties : Ok P w K mg base 3 "_law_some_ties" ["well", "many"] spSomeTies10) (O_summed : Ok P w K mg base 1 "_law_summed" ["given"] spSummed) (O_retold : Ok P w K mg base 3 "_law_retold" ["well", "arcs"] spRetold)
    (O_deg : Ok P w K mg base 1 "_law_degree" ["arcs", "spot_here"] (spDegree K)) (O_taken : Ok P w K mg base 7 "_law_taken" ["net", "spot_here"] (spTaken C)) (O_fine : Ok P w K mg base 4 "_law_fine_rest" ["arcs", "many", "spot_here", "told"] (spFineRest C))
    (O_is : Ok P w K mg base 6 "_law_net_is" ["net", "many", "arcs"] (spNetIs K C)) (R : FnOk P w K mg base (L2.CX P w) 6 ft ftd ["web", "place"] (spTakeOut C N)) (gR : mg "take_out" = some (.ref ft)) (kR : PySem.W.keepIn K (.ref ft) = true) (bR : KBinds K ftd ["web", "place"] ["place", "web"] sw2 sw2)
    (O_same : ∀ n, Ok P w K mg base (n + 1) "_law_same" ["given", "due"] (spSame n)) : FnOk P w K mg base CX0 8 f fd ["script"] (spLaw K) := by
  refine F.ok sc_law (fun vs H Q E h => ?_) (fun cdv A outer s H vs Q E hr h => ?_)
  · obtain ⟨a, ns, rfl, _⟩ := h
    rfl
  · obtain ⟨a, ns, rfl, hS, hlen, q⟩ := h
    refine ⟨_, (pss_cons (ps_set (i := 1) sc_law.nd rfl (Or.inl rfl) pe_int)
      (pss_cons (ps_for PassesOwn.never rfl (pi_list (pe_op op_cat (pe_lst (pa_cons (pv 1) pa_nil)) (pe_slice sl_list (pv 0) po_none (po_some pe_int)))) (pg_name (i := 2) sc_law.nd rfl (Or.inl rfl))
      (pss_cons (ps_set (i := 3) sc_law.nd rfl (Or.inl rfl) (pe_o O_draws (hr.mono (by decide)) (pa_cons (pv 2) pa_nil)))
      (pss_cons (ps_set (i := 4) sc_law.nd rfl (Or.inl rfl) (pe_cmpR op_eq (pe_o O_dip (hr.mono (by decide)) (pa_cons (pv 3) (pa_cons pe_int pa_nil))) pe_int (nomark _)))
      (pss_cons (ps_set (i := 5) sc_law.nd rfl (Or.inl rfl) (PE.imp (t' := tMany) (pe_ifExp (pt_val (pv 4)) (pe_op op_add pe_int (pe_o O_dip (hr.mono (by decide)) (pa_cons (pv 3) (pa_cons pe_int pa_nil)))) (pe_callB (call_max2 rfl) (by rfl) zmax (by decide +kernel) (pa_cons pe_int (pa_cons (pe_o O_places (hr.mono (by decide)) (pa_cons (pv 3) pa_nil)) pa_nil)))) (fun σ H Q h => by
          obtain ⟨G, wp, o, bo, h3, h4, S, w0, q⟩ := h
          refine ⟨_, h4, _, rfl, ?_⟩
          refine ite2 (fun _ => ?_) (fun _ => ?_)
          · refine ⟨_, h3, wp, 2, o, 1, rfl, S.get 0 rfl, w0, by decide, by decide, by decide, fun r2 o2 hr2 w2 => ⟨_, _, rfl, rfl, ?_⟩⟩
            exact q _ o2 (9 + r2) (S.set 0 rfl) w2 (by omega) (by omega)
          · refine ⟨_, h3, G, [], wp, o, 1, rfl, S, w0, by decide, fun H' o' n S' w' hn hn7 => ?_⟩
            refine ⟨_, _, rfl, ?_⟩
            have e : (if (n : Int) > 2 then (n : Int) else 2) = ((max 2 n : Nat) : Int) := by
              split <;> omega
            rw [e]
            exact q H' o' (max 2 n) S' w' (by omega) (by omega))))
      (pss_cons (ps_set (i := 6) sc_law.nd rfl (Or.inl rfl) (pe_o O_summed (hr.mono (by decide)) (pa_cons (pe_o O_ties (hr.mono (by decide)) (pa_cons (pv 3) (pa_cons (pv 5) pa_nil))) pa_nil)))
      (pss_cons (PS.imp (t' := tFewer 3100) (ps_if (PW.pt (pw_or (pt_val (pv 4)) (pw_or1 (pt_cmpR op_eq (pe_o O_dip (hr.mono (by decide)) (pa_cons (pv 3) (pa_cons pe_int pa_nil))) pe_int (nomark _))))) (pss_one (PS.imp (t' := tFewer 3101) (ps_set (i := 6) sc_law.nd rfl (Or.inl rfl) (pe_callB (cr_sortE (K := K) hr.units) (by rfl) z.sorted (by decide +kernel) (pa_cons (pe_slice sl_list (pe_o O_mixed (hr.mono (by decide)) (pa_cons (pv 3) (pa_cons (pv 6) pa_nil))) po_none (po_some (pe_op op_add (pv 5) pe_int))) pa_nil))) (fun D σ H h => by
          obtain ⟨v0, v1, v2, v7, v8, v9, v10, bo, G, wp, ta, o, n, ys, A, rfl, S, w0, hta, ay, NA, lA, hn2, hn10, hle, q⟩ := h
          have ly : ys.length = A.length := by rw [ay.1, List.length_map]
          have newp : ta ≠ wp := fun e => by
            have := (S.own (wp, o) (by simp)).1
            rw [← e, hta] at this
            cases this
          refine ⟨_, rfl, _, rfl, G, [], wp, ta, o, _, ys, rfl, S, w0, by decide, Evl.sq_of (S.ex _ _ hta), newp, by omega, fun H1 o1 t zs S1 w1 pm => ?_⟩
          obtain ⟨us, pu, au⟩ := ats_permW pm ay
          have S2 := S1.sink
          have e2 := S1.exS
          refine ⟨_, rfl, _, _, rfl, rfl, _, rfl, t, zs, rfl, Evl.sq_of (S1.get 0 rfl), fun p1 np1 => ?_⟩
          rw [show (some ((n : Int) + 1) : Option Int) = some ((n + 1 : Nat) : Int) from by push_cast; rfl, cutV_to]
          have S3 := S2.new (o := .lst (zs.take (n + 1))) np1
          generalize upd H1 p1 (.lst (zs.take (n + 1))) = H2 at S3
          have au2 := ats_takeT (au.ex e2) (n + 1)
          have nd2 : ((us.take (n + 1)).map endsA).Nodup := ((pu.map endsA).nodup_iff.mpr (net_endsN NA)).sublist ((List.take_sublist _ _).map endsA)
          have sub2 : ∀ t ∈ us.take (n + 1), t ∈ A := fun t ht => pu.mem_iff.mp (List.mem_of_mem_take ht)
          generalize zs.take (n + 1) = ws at S3 au2
          generalize us.take (n + 1) = bs at au2 nd2 sub2
          have same := some_mem NA nd2 sub2
          have srt := sort_arcs (List.Pairwise.of_map endsA (fun a b h e => h (congrArg endsA e)) nd2) same
          obtain ⟨z1, z2, z3⟩ := ats_zip au2
          have memz : ∀ c ∈ ws.zip (bs.map arcD), ∃ l, c.2 = tupD l := fun c hc => by
            have : c.2 ∈ bs.map arcD := by
              rw [← z2]
              exact List.mem_map_of_mem hc
            obtain ⟨m, _, ec⟩ := List.mem_map.mp this
            exact ⟨arcL m, ec.symm⟩
          refine ⟨p1, _, rfl, by rw [z1]; exact Evl.sq_of (S3.get 0 rfl), fun c hc => ((z3 c hc).ex S3.ex).dp, .inr memz, fun c hc => ?_, fun p np => ?_⟩
          · obtain ⟨l, el⟩ := memz c hc
            rw [el]
            exact Nat.le_trans (depth_tupD _) (by decide)
          · have fin := ats_sort z3
            rw [z2, srt] at fin
            generalize hZ : ((ws.zip (bs.map arcD)).mergeSort (PySem.W.dataLe false (·.2))).map (·.1) = Zs at fin
            obtain ⟨G4, e4, hp, S4⟩ := (S3.new (o := .lst Zs) np).drop2.sinkV
            exact q G4 _ p o1 Zs (sumA n bs) (e2.trans e4) S4 (w1.up (by decide)) hp (fin.ex e4) (net_sum bs (by omega) (by omega)) (sumA_45 hn10 bs) (fun t ht => hle t (sub2 t ((same t).mpr ht)))))) pss_nil) (fun D σ H h => by
          obtain ⟨v0, v1, v2, v7, v8, v9, v10, bo, G, wp, ta, o, n, ys, A, rfl, S, w0, hta, ay, NA, lA, hn2, hn10, hle, q⟩ := h
          have ly : ys.length = A.length := by rw [ay.1, List.length_map]
          have stay : ∀ (H' : Hp) (o' : HO), Has G H' [(wp, o')] → WellO 5000 o' → D.nx [v0, v1, v2, some (.ref wp), some (.bl bo), some (.int n), some (.ref ta), v7, v8, v9, v10] H' := fun H' o' S' w' => q G H' ta o' ys A (Evl.Ex.refl _) S' w' hta ay NA lA hle
          refine ⟨_, rfl, bo, rfl, ?_⟩
          refine ite2 (fun _ => ?_) (fun _ => ?_)
          · exact ⟨_, _, _, _, _, _, _, bo, G, wp, ta, o, n, ys, A, rfl, S, w0.up (by decide), hta, ay, NA, lA, hn2, hn10, hle, q⟩
          · refine ⟨_, rfl, wp, 2, o, 3100, rfl, S.get 0 rfl, w0, by decide, by decide, by decide, fun r o1 hr1 w1 => ⟨rfl, _, rfl, ?_⟩⟩
            have S1 : Has G _ [(wp, o1)] := S.set 0 rfl
            generalize upd H wp o1 = H1 at S1
            refine ite2 (fun _ => ?_) (fun _ => stay _ o1 S1 (w1.up (by decide)))
            exact ⟨_, _, _, _, _, _, _, bo, G, wp, ta, o1, n, ys, A, rfl, S1, w1, hta, ay, NA, lA, hn2, hn10, hle, q⟩))
      (pss_cons (ps_set (i := 7) sc_law.nd rfl (Or.inl rfl) (pe_make M.make M.ok (hr.mono (by decide)) (by rfl) T.mg M.b .nil pass0 (pa_cons (pv 5) (pa_cons (pe_o O_retold (hr.mono (by decide)) (pa_cons (pv 3) (pa_cons (pv 6) pa_nil))) pa_nil))))
      (pss_cons (ps_for PassesOwn.never rfl (pi_list (pe_slice sl_list (pe_o O_mixed (hr.mono (by decide)) (pa_cons (pv 3) (pa_cons (pe_listRg rfl (by rfl) z.list (prg_1 (by rfl) z.range (pv 5))) pa_nil))) po_none (po_some (PE.imp (t' := tSpots) (pe_ifExp (pt_val (pv 4)) pe_int pe_int) (fun σ H Q h => by
          obtain ⟨bo, h4, q⟩ := h
          exact ⟨_, h4, _, rfl, ite2 (fun _ => q 2) (fun _ => q 7)⟩))))) (pg_name (i := 8) sc_law.nd rfl (Or.inl rfl))
        (pss_cons (ps_set (i := 9) sc_law.nd rfl (Or.inl rfl) (pe_o O_taken hr (pa_cons (pv 7) (pa_cons (pv 8) pa_nil))))
        (pss_cons (ps_if (PW.pt (pw_and (pt_cmpR op_gt (pe_o O_deg (hr.mono (by decide)) (pa_cons (pv 6) (pa_cons (pv 8) pa_nil))) pe_int (nomark _)) (pw_and1 (pt_not (pt_val (pe_o (O_same 0) (hr.mono (by decide)) (pa_cons (pv 9) (pa_cons pe_str pa_nil)))))))) (pss_one (ps_ret pe_bl)) pss_nil)
        (pss_one (ps_if (pt_cmpR op_lt (pe_o O_deg (hr.mono (by decide)) (pa_cons (pv 6) (pa_cons (pv 8) pa_nil))) pe_int (nomark _))
          (pss_cons (ps_if (pt_not (pt_val (pe_o O_fine (hr.mono (by decide)) (pa_cons (pv 6) (pa_cons (pv 5) (pa_cons (pv 8) (pa_cons (pv 9) pa_nil))))))) (pss_one (ps_ret pe_bl)) pss_nil)
          (pss_cons (ps_set (i := 10) sc_law.nd rfl (Or.inl rfl) (pe_kwC R gR kR bR passL (hr.mono (by decide)) (pk_cons (pv 8) (pk_cons (pv 7) pk_nil))))
          (pss_one (ps_if (PW.pt (pw_or (pt_cmpR op_notBl (pe_cmpR (op_eqOwn TE.at_ TE.fn TE.ok TE.b (hr.mono (by decide))) (pe_ix (ix_any (K := K)) (pv 10) pe_int (fun _ _ => rfl)) (pe_ix (ix_any (K := K)) (pv 9) pe_int (fun _ _ => rfl)) (nomark _)) pe_bl (nomark _)) (pw_or1 (pt_not (pt_val (pe_o (O_same 0) (hr.mono (by decide)) (pa_cons (pe_ix (ix_any (K := K)) (pv 10) pe_int (fun _ _ => rfl)) (pa_cons (pe_ix (ix_any (K := K)) (pv 9) pe_int (fun _ _ => rfl)) pa_nil)))))))) (pss_one (ps_ret pe_bl)) pss_nil)))) pss_nil)))))
      (pss_one (ps_if (pt_not (pt_val (pe_o O_is (hr.mono (by decide)) (pa_cons (pv 7) (pa_cons (pv 5) (pa_cons (pv 6) pa_nil)))))) (pss_one (ps_ret pe_bl)) pss_nil))))))))))
      (pss_one (ps_ret pe_bl)))), ?_⟩
    generalize (975269236421378415842288842672420178771192877434934772699915124617186622880359561166138203883349 : Int) = great
    refine ⟨_, rfl, sz (by show 1 ≤ 100000; decide), fun p1 np1 => ?_⟩
    obtain ⟨cs, hcs, lcs⟩ := cut_ints ns none (some 3)
    refine ⟨.ref a, rfl, 3, rfl, a, ns.map V.int, rfl, Evl.ex_l (Evl.Ex.new np1) hS, fun p2 np2 => ?_⟩
    rw [hcs]
    have n12 : p1 ≠ p2 := ne_of_none upd_same np2
    refine ⟨p1, p2, [.int great], cs.map V.int, rfl, rfl, by rw [upd_ne n12, upd_same], upd_same, sz (by rw [List.length_map]; show 1 + cs.length ≤ 100000; omega), fun p3 np3 => ?_⟩
    have h3 : (upd (upd (upd H p1 (.lst [.int great])) p2 (.lst (cs.map V.int))) p3 (.lst ([.int great] ++ cs.map V.int))) p3 = some (.lst ((great :: cs).map V.int)) := upd_same
    generalize hH1 : upd (upd (upd H p1 (.lst [.int great])) p2 (.lst (cs.map V.int))) p3 (.lst ([.int great] ++ cs.map V.int)) = H1 at h3
    refine ⟨p3, rfl, ⟨_, Evl.sq_of h3⟩, for_list (K := K) (a := p3) (xs := (great :: cs).map V.int) (fun i σ H' => Ex H1 H' ∧ ∃ v2 v3 v4 v5 v6 v7 v8 v9 v10 : Option V, σ = [some (.ref a), some (.int great), v2, v3, v4, v5, v6, v7, v8, v9, v10])
      ⟨Evl.Ex.refl H1, none, none, none, none, none, none, none, none, none, rfl⟩ (fun i σ H' _ p => Evl.ex_l p.1 (Evl.sq_of h3)) ?_ ?_⟩
    · rintro i x σ H2 hi ⟨e2, v2, v3, v4, v5, v6, v7, v8, v9, v10, rfl⟩
      obtain ⟨cell, _, rfl⟩ := map_get hi
      refine ⟨_, rfl, cell, rfl, fun wp o0 nwp w0 => ?_⟩
      have S1 : Has H2 (upd H2 wp o0) [(wp, o0)] := Has.nil.new nwp
      generalize upd H2 wp o0 = H3 at S1
      refine ⟨_, rfl, wp, 6, o0, 0, rfl, S1.get 0 rfl, w0, by decide, by decide, by decide, fun r o1 hr1 w1 => ⟨rfl, ?_⟩⟩
      have S2 : Has H2 _ [(wp, o1)] := S1.set 0 rfl
      generalize upd H3 wp o1 = H4 at S2
      generalize decide (V.int (r : Int) = V.int 0) = bo
      refine ⟨H2, wp, o1, bo, rfl, rfl, S2, w1, fun H5 o2 n S3 w2 hn2 hn10 => ?_⟩
      refine ⟨_, rfl, _, rfl, H2, [], wp, o2, 2, n, rfl, S3, w2, by decide, hn10, fun G3 H6 o3 tg xs ts e3 S4 w3 hx3 hok3 lts3 hb3 => ?_⟩
      refine ⟨G3, _, tg, xs, n, ts, rfl, S4, Stays.cell 0 rfl, hx3, hok3, by omega, by omega, fun G4 H7 ta ys e4 S5' ay' => ?_⟩
      obtain ⟨G5, e5, hta, S5⟩ := S5'.drop2.sinkV
      have ay := ay'.ex e5
      have NA := net_sum ts (show 0 < n by omega) (show n ≤ 100 by omega)
      have lA := sumA_45 hn10 ts
      have hle : ∀ t ∈ sumA n ts, t.2.2 ≤ 10 ^ 18 := fun t ht => by
        have h1 := sumA_le hb3 t ht
        have h2 : ts.length * 10 ^ 11 ≤ 45 * 10 ^ 11 := Nat.mul_le_mul_right _ lts3
        omega
      refine ⟨_, _, _, _, _, _, _, bo, G5, wp, ta, o3, n, ys, sumA n ts, rfl, S5, w3.up (by decide), hta, ay, NA, lA, hn2, hn10, hle, fun G6 H8 ta o4 ys A e6 S6 w4 hta ay NA lA hle => ?_⟩
      have okA : ∀ t ∈ A, arcOk n t := fun t ht => by
        have h := NA.ok t ht
        exact ⟨by omega, h.2.1, by omega⟩
      -- net
      refine ⟨_, rfl, _, rfl, _, rfl, G6, [], wp, ta, o4, _, n, ys, A, rfl, S6, w4, by decide, hta, ay, okA, hle, by omega, fun G7 H9 o5 t xs2 rs e7 S7 w5 ax rok lrs ew => ?_⟩
      have eA : sumA n rs = A := by
        rw [sumA_of (us := A) fun p _ _ => ew p]
        exact NA.sum
      intro x dx nx ndx hne
      refine webs_made M nx ndx (Ne.symm hne) S7 (Stays.cell 0 rfl) ax rok (by omega) (by omega) (by omega) (fun G8 H10 e8 S8' web => ?_)
      rw [eA] at web
      have S8 := S8'.tail
      have e68 := e7.trans e8
      -- the spots
      refine ⟨_, rfl, _, rfl, _, rfl, RgOk.of_le (by omega) (by omega) (by omega) (by omega), fun rg nrg => ?_⟩
      have S9 := (S8.new (o := .lst (rgV 0 (n : Int))) nrg)
      generalize upd H10 rg (.lst (rgV 0 (n : Int))) = H11 at S9
      have nrw : rg ≠ wp := fun e => by
        have := S9.nd
        rw [e] at this
        simp at this
      have lrg : (rgV 0 (n : Int)).length = n := by rw [rgV_eqW, List.length_map]; unfold rangeI; rw [List.length_map, List.length_range]
      refine ⟨G8, [(rg, .lst (rgV 0 (n : Int)))], wp, rg, o5, _, _, rfl, S9.swap, w5, by decide, Evl.sq_of (S9.get 0 rfl), nrw, by rw [lrg]; omega, fun H12 o6 mx zs S10 w6 pm => ?_⟩
      refine ⟨bo, rfl, fun c => ⟨_, rfl, mx, zs, rfl, Evl.sq_of (S10.get 0 rfl), fun sp nsp => ?_⟩⟩
      rw [cutV_to]
      have S11' := S10.new (o := .lst (zs.take c)) nsp
      generalize upd H12 sp (.lst (zs.take c)) = H13 at S11'
      obtain ⟨G9, e9, hsp, S11''⟩ := S11'.sinkV
      have S11 : Has G9 H13 [(wp, o6)] := S11''.tail.sub (by simp)
      have inz : ∀ (i : Nat) (v : V), (zs.take c)[i]? = some v → ∃ p : Nat, p < n ∧ v = V.int (p : Int) := fun i v hv => by
        have h1 := pm.mem_iff.mp (List.mem_of_mem_take (List.mem_of_getElem? hv))
        rw [rgV_eqW] at h1
        obtain ⟨k, hk, rfl⟩ := List.mem_map.mp h1
        obtain ⟨k1, k2⟩ := rangeI_mem.mp hk
        exact ⟨k.toNat, by omega, by rw [Int.toNat_of_nonneg k1]⟩
      generalize zs.take c = qs at hsp inz
      have web9 := web.ex e9
      have e69 := e68.trans e9
      have hta9 := e69 _ _ hta
      have ay9 := ay.ex e69
      have n20 : n ≤ 20 := by omega
      have lA4 : A.length ≤ 10000 := by omega
      refine ⟨sp, rfl, ⟨_, Evl.sq_of (S11.ex _ _ hsp)⟩, for_list (K := K) (a := sp) (xs := qs) (fun i σ H' => ∃ v8 v9 v10 : Option V, σ = [some (.ref a), some (.int great), some (.int cell), some (.ref wp), some (.bl bo), some (.int n), some (.ref ta), some (.ref x), v8, v9, v10] ∧ Has G9 H' [(wp, o6)])
        ⟨_, _, _, rfl, S11⟩ (fun i σ H' _ h => by
          obtain ⟨_, _, _, _, S'⟩ := h
          exact Evl.sq_of (S'.ex _ _ hsp)) ?_ ?_⟩
      · rintro j y σ H14 hj ⟨v8, v9, v10, rfl, S12⟩
        obtain ⟨p, hp, rfl⟩ := inz j y hj
        refine ⟨_, rfl, _, rfl, G9, _, x, p, n, A, rfl, S12, web9, NA, n20, hp, by omega, fun many H15 S13 => ?_, fun few G10 H15 td x2 e10 S13 htd web2 => ?_⟩
        · refine ⟨_, rfl, _, rfl, ta, p, ys, A, rfl, Evl.sq_of (S13.ex _ _ hta9), ay9.ex S13.ex, lA4, fun H16 e16 => ?_⟩
          have S14 := S13.go e16
          refine ⟨_, _, rfl, rfl, _, rfl, ?_⟩
          rw [decide_eq_true (show ((nearT A p).length : Int) > 3 by omega)]
          refine ⟨_, rfl, _, _, rfl, rep_flat rfl, fun H17 e17 => ⟨_, rfl, ?_⟩⟩
          have S15 := S14.go e17
          refine ⟨_, rfl, _, rfl, ta, p, ys, A, rfl, Evl.sq_of (S15.ex _ _ hta9), ay9.ex S15.ex, lA4, fun H18 e18 => ?_⟩
          have S16 := S15.go e18
          refine ⟨_, _, rfl, rfl, _, rfl, ?_⟩
          rw [decide_eq_false (show ¬ ((nearT A p).length : Int) < 4 by omega)]
          exact ⟨_, _, _, rfl, S16⟩
        · have e910 := e9.trans e10
          have hta10 := e10 _ _ hta9
          have ay10 := ay9.ex e10
          refine ⟨_, rfl, _, rfl, ta, p, ys, A, rfl, Evl.sq_of (S13.ex _ _ hta10), ay10.ex S13.ex, lA4, fun H16 e16 => ?_⟩
          have S14 := S13.go e16
          refine ⟨_, _, rfl, rfl, _, rfl, ?_⟩
          rw [decide_eq_false (show ¬ ((nearT A p).length : Int) > 3 by omega)]
          refine ⟨_, rfl, _, rfl, ta, p, ys, A, rfl, Evl.sq_of (S14.ex _ _ hta10), ay10.ex S14.ex, lA4, fun H18 e18 => ?_⟩
          have S16 := S14.go e18
          refine ⟨_, _, rfl, rfl, _, rfl, ?_⟩
          rw [decide_eq_true (show ((nearT A p).length : Int) < 4 by omega)]
          refine ⟨_, rfl, _, rfl, _, rfl, _, rfl, G10, _, ta, td, x2, p, n, ys, A, rfl, S16, hta10, ay10, NA, hn10, hp, by omega, few, htd, web2, fun H19 S17 => ⟨_, rfl, ?_⟩⟩
          -- again
          refine ⟨_, rfl, _, rfl, G10, _, x, p, n, A, rfl, S17, web9.ex e10, NA, n20, hp, by omega, fun many => absurd few (by omega), fun _ G11 H20 t3 x3 e11 S18 ht3 web3 => ?_⟩
          have web2' := web2.ex e11
          obtain ⟨dx2, tl2, xs2, w21, _⟩ := id web2'
          obtain ⟨dx3, tl3, xs3, w31, _⟩ := id web3
          have q3 : SqT K H20 t3 [.ref x3, .int (facT (nearT A p).length : Nat)] := Evl.st_of (S18.ex _ _ ht3)
          have q2 : SqT K H20 td [.ref x2, .int (facT (nearT A p).length : Nat)] := Evl.st_of (S18.ex _ _ (e11 _ _ htd))
          refine ⟨_, rfl, .inr ⟨t3, _, 0, _, rfl, rfl, q3, rfl, _, rfl, .inr ⟨td, _, 0, _, rfl, rfl, q2, rfl, x3, x2, dx3, dx2, _, _, rfl, rfl, S18.ex _ _ w31, S18.ex _ _ w21, x3, x2, n - 1, n - 1, _, _, rfl, web3.ex S18.ex, web2'.ex S18.ex, _, rfl, ?_⟩⟩⟩
          rw [decide_eq_true (rfl : n - 1 = n - 1), decide_eq_true (rfl : sumA (n - 1) (outT A p) = sumA (n - 1) (outT A p))]
          refine ⟨_, _, rfl, rfl, _, rfl, ?_⟩
          rw [show (!decide ((true && true) = true)) = false from rfl]
          refine ⟨_, rfl, .inr ⟨t3, _, 1, _, rfl, rfl, q3, rfl, _, rfl, .inr ⟨td, _, 1, _, rfl, rfl, q2, rfl, _, _, rfl, rep_flat rfl, fun H21 e21 => ⟨_, rfl, ?_⟩⟩⟩⟩
          exact ⟨_, _, _, rfl, ((S18.go e21).down e11).down e10⟩
      · rintro σ H14 ⟨v8, v9, v10, rfl, S12⟩
        refine ⟨_, rfl, _, rfl, _, rfl, x, ta, n, A, ys, rfl, web9.ex S12.ex, S12.ex _ _ hta9, ay9.ex S12.ex, lA4, fun H15 e15 => ⟨_, rfl, ?_⟩⟩
        exact ⟨e2.trans (((((e3.trans e4).trans e5).trans e6).trans e69).trans (S12.go e15).ex), _, _, _, _, _, _, _, _, _, rfl⟩
    · rintro σ H2 ⟨e2, v2, v3, v4, v5, v6, v7, v8, v9, v10, rfl⟩
      exact q H2
end
end TW
set_option Elab.async false
set_option linter.all false
set_option maxRecDepth 100000
namespace TW
open PySem PySem.Spec PyProof.Rows L2
/-! what the top has written -/
def MthD (K : PySem.W.Frag) (C : Addr) (nm qual : Str) (st : Stmt) (ps : List Str) : Prop := ∃ (f : Addr) (fd : FuncData), PySem.W.findIn K (.ref C) nm = some (some (.ref f)) ∧ PySem.W.isFn K (.ref f) = true ∧ Fun K nm qual st f fd ∧ Binds K fd ps []
def PrpD (K : PySem.W.Frag) (C : Addr) (nm qual : Str) (st : Stmt) : Prop := ∃ (p g : Addr) (fd : FuncData), PropOf K C nm p g ∧ Fun K nm qual st g fd ∧ Binds K fd ["self"] []
section
variable {K : PySem.W.Frag} {C f p g : Addr} {nm qual : Str} {st : Stmt} {ps : List Str} {oc kV doc pm cdv ct : Value} {od an : Option Addr} {osl : Array (Option Value)}
theorem mth_mk (hb : ∀ (kV doc pm : Value) (an : Option Addr) (cdv ct : Value) (us : List Value), us.length = ps.length → bindArgs (PySem.W.fnOf nm qual (defArgs st) (defBody st) (defScope st) .none kV doc pm an cdv ct) ⟨us, []⟩ = pure (ps.zip us))
    (a : PySem.W.findIn K (.ref C) nm = some (some (.ref f))) (i : PySem.W.isFn K (.ref f) = true) (l : K.lookup f = some ⟨oc, od, .func (PySem.W.fnOf nm qual (defArgs st) (defBody st) (defScope st) .none kV doc pm an cdv ct), osl⟩) (c : PySem.W.codeIn K cdv qual = true) (k : PySem.W.keepIn K (.ref f) = true) : MthD K C nm qual st ps := by
  have F := fun_mk (st := st) l c k
  exact ⟨f, _, a, i, F, F.binds hb⟩
theorem prp_mk {rest : List Value} (hb : ∀ (kV doc pm : Value) (an : Option Addr) (cdv ct : Value) (us : List Value), us.length = 1 → bindArgs (PySem.W.fnOf nm qual (defArgs st) (defBody st) (defScope st) .none kV doc pm an cdv ct) ⟨us, []⟩ = pure ((["self"] : List Str).zip us))
    (a : PySem.W.findIn K (.ref C) nm = some (some (.ref p))) (e : PySem.W.specialIn K (.ref p) "__get__" = some (some (.builtin "property.__get__"))) (t : PySem.W.takesIn K (.ref p) = some true) (r : PySem.W.recIn K p "property" = some (.ref g :: rest))
    (l : K.lookup g = some ⟨oc, od, .func (PySem.W.fnOf nm qual (defArgs st) (defBody st) (defScope st) .none kV doc pm an cdv ct), osl⟩) (c : PySem.W.codeIn K cdv qual = true) (k : PySem.W.keepIn K (.ref g) = true) : PrpD K C nm qual st := by
  have F := fun_mk (st := st) l c k
  exact ⟨p, g, _, ⟨a, e, t, rest, r⟩, F, F.binds hb⟩
theorem kit_me : PySem.W.kitOne K (.ref C) (.ref C) = some true := by
  unfold PySem.W.kitOne
  first
    | rw [if_pos (beq_self_eq_true (Value.ref C))]
    | simp
    | (rw [if_pos]; decide)
theorem tc_mk {mg : Str → Option Value} {h : Heap} (X : K.In h) (G : h.Ns mainGlobals mg) (aC : PySem.W.nsIn K mainGlobals "Table" = some (some (.ref C))) (pg : PySem.W.plainGet K C Str.empty = true) (hd : PySem.W.hasDictIn K C = true) (po : PySem.W.plainOver K C = true)
    (sa : PySem.W.findIn K (.ref C) "__setattr__" = some (some (.builtin "object.__setattr__"))) (ha : PySem.W.findIn K (.ref C) "__class__" = some (some (.builtin "object.__class__"))) (hn : PySem.W.specialIn K (.builtin "object.__class__") "__get__" = some (some (.builtin "getset_descriptor.__get__")))
    (ht : PySem.W.takesIn K (.builtin "object.__class__") = some true) (hm : PySem.W.mroIn K C (.type "object") = some true) (nT : PySem.W.findIn K (.ref C) "_things" = some none) (nL : PySem.W.findIn K (.ref C) "_lots" = some none) : TC K mg C :=
  ⟨⟨pg, hd, po, sa⟩, ⟨⟨pg, hd, po, sa⟩, ha, hn, ht, hm, kit_me⟩, nT, nL, PySem.W.mg_of X G aC⟩
theorem wc_mk {mg : Str → Option Value} {h : Heap} (X : K.In h) (G : h.Ns mainGlobals mg) (aC : PySem.W.nsIn K mainGlobals "Web" = some (some (.ref C))) (pg : PySem.W.plainGet K C Str.empty = true) (hd : PySem.W.hasDictIn K C = true) (po : PySem.W.plainOver K C = true)
    (sa : PySem.W.findIn K (.ref C) "__setattr__" = some (some (.builtin "object.__setattr__"))) (ha : PySem.W.findIn K (.ref C) "__class__" = some (some (.builtin "object.__class__"))) (hn : PySem.W.specialIn K (.builtin "object.__class__") "__get__" = some (some (.builtin "getset_descriptor.__get__")))
    (ht : PySem.W.takesIn K (.builtin "object.__class__") = some true) (hm : PySem.W.mroIn K C (.type "object") = some true) (nP : PySem.W.findIn K (.ref C) "_places" = some none) (nT : PySem.W.findIn K (.ref C) "_ties" = some none) : WC K mg C :=
  ⟨⟨pg, hd, po, sa⟩, ⟨⟨pg, hd, po, sa⟩, ha, hn, ht, hm, kit_me⟩, nP, nT, PySem.W.mg_of X G aC⟩
end
theorem z_mk {K : PySem.W.Frag} {mg : Str → Option Value} {h : Heap} (X : K.In h) (G : h.Ns mainGlobals mg)
    (h1 : PySem.W.nsIn K mainGlobals "len" = some none) (h2 : PySem.W.nsIn K mainGlobals "int" = some none) (h3 : PySem.W.nsIn K mainGlobals "all" = some none) (h4 : PySem.W.nsIn K mainGlobals "sorted" = some none) (h5 : PySem.W.nsIn K mainGlobals "tuple" = some none)
    (h6 : PySem.W.nsIn K mainGlobals "list" = some none) (h7 : PySem.W.nsIn K mainGlobals "set" = some none) (h8 : PySem.W.nsIn K mainGlobals "type" = some none) (h9 : PySem.W.nsIn K mainGlobals "isinstance" = some none) (h10 : PySem.W.nsIn K mainGlobals "zip" = some none)
    (h11 : PySem.W.nsIn K mainGlobals "range" = some none) (h12 : PySem.W.nsIn K mainGlobals "bool" = some none) (h13 : PySem.W.nsIn K mainGlobals "any" = some none) (h14 : PySem.W.nsIn K mainGlobals "iter" = some none) (h15 : PySem.W.nsIn K mainGlobals "property" = some none) : Z mg :=
  ⟨PySem.W.mg_none_of X G h1, PySem.W.mg_none_of X G h2, PySem.W.mg_none_of X G h3, PySem.W.mg_none_of X G h4, PySem.W.mg_none_of X G h5, PySem.W.mg_none_of X G h6, PySem.W.mg_none_of X G h7, PySem.W.mg_none_of X G h8, PySem.W.mg_none_of X G h9, PySem.W.mg_none_of X G h10, PySem.W.mg_none_of X G h11, PySem.W.mg_none_of X G h12, PySem.W.mg_none_of X G h13, PySem.W.mg_none_of X G h14, PySem.W.mg_none_of X G h15⟩
end TW
set_option Elab.async false
set_option linter.all false
set_option maxRecDepth 100000
namespace TW
open PySem PySem.Spec PyProof.Rows L2
theorem exm_me {K : PySem.W.Frag} {N : Addr} (h1 : PySem.W.subIn K (.ref N) (.type "BaseException") = some true) (h2 : PySem.W.isClsIn K N = true) (h3 : PySem.W.typeIn K (.ref N) = some (.type "type")) (h4 : PySem.W.subIn K (.ref N) (.ref N) = some true) : PySem.W.exmOne K (.ref N) (.ref N) = some true := by
  have h2' : (PySem.W.clsIn K N).isSome = true := h2
  have e1 : (PySem.W.subIn K (.ref N) (.type "BaseException") == some true) = true := by rw [h1]; rfl
  have e2 : ((PySem.W.clsIn K N).isSome && PySem.W.typeIn K (.ref N) == some (.type "type")) = true := by rw [h2', h3]; rfl
  change (if (PySem.W.subIn K (.ref N) (.type "BaseException") == some true) = true then (if ((PySem.W.clsIn K N).isSome && PySem.W.typeIn K (.ref N) == some (.type "type")) = true then PySem.W.subIn K (.ref N) (.ref N) else none) else none) = some true
  rw [if_pos e1, if_pos e2, h4]
theorem tn_mk {K : PySem.W.Frag} {mg : Str → Option Value} {h : Heap} {N : Addr} {x : Str} (X : K.In h) (G : h.Ns mainGlobals mg) (a : PySem.W.nsIn K mainGlobals x = some (some (.ref N))) (ex : PySem.W.excIn K N [.type "ValueError", .type "Exception", .type "BaseException", .type "object"] "ValueError.__new__" = true)
    (k : PySem.W.keepIn K (.ref N) = true) (b : PySem.W.subIn K (.ref N) (.type "BaseException") = some true) (t : PySem.W.typeIn K (.ref N) = some (.type "type")) (ic : PySem.W.isClsIn K N = true) (se : PySem.W.subIn K (.ref N) (.ref N) = some true) : TN K mg x N :=
  ⟨PySem.W.mg_of X G a, ex, k, b, t, exm_me b ic t se⟩
theorem all_law {l : PySem.W.OpenLaw} {w : World} {K : PySem.W.Frag} {mg : Str → Option Value} {fa C N : Addr} (hfa : mg "law" = some (.ref fa)) (z : Z mg) (zs : mg "str" = none) (z_min : mg "min" = none) (z_max : mg "max" = none) (z_sum : mg "sum" = none) (TEN : TN K mg "TooManyTies" N) (T : WC K mg C) (mk : PySem.W.makesIn K C = true) (kc : PySem.W.keepIn K (.ref C) = true)
    (m_i : MthD K C "__init__" "Web.__init__" s_Web_init ["self", "places", "ties"]) (m_t : MthD K C "__iter__" "Web.__iter__" s_Web_iter ["self"]) (m_l : MthD K C "__len__" "Web.__len__" s_Web_len ["self"]) (m_q : MthD K C "__eq__" "Web.__eq__" s_Web_eq ["self", "other"]) (p_places : PrpD K C "places" "Web.places" s_Web_places) (p_ties : PrpD K C "ties" "Web.ties" s_Web_ties)
    (d1 : Dfn K mg "is_integer" s_is_integer ["value", "least"])
    (d2 : Dfn K mg "is_place" s_is_place ["value", "places"])
    (d3 : Dfn K mg "is_told_tie" s_is_told_tie ["value", "places"])
    (d4 : Dfn K mg "check_places" s_check_places ["places"])
    (d5 : Dfn K mg "check_place" s_check_place ["place", "places"])
    (d6 : Dfn K mg "_joined_ties" s__joined_ties ["ties"])
    (d7 : Dfn K mg "check_web" s_check_web ["web"])
    (d8 : Dfn K mg "ends_of" s_ends_of ["place", "other_place"])
    (d9 : Dfn K mg "take_out" s_take_out ["web", "place"])
    (d10 : Dfn K mg "_ties_at" s__ties_at ["web", "place"])
    (d11 : Dfn K mg "_lowered" s__lowered ["old", "place"])
    (d12 : Dfn K mg "_ties_instead" s__ties_instead ["near"])
    (d13 : Dfn K mg "_triangle" s__triangle ["near"])
    (d14 : Dfn K mg "_law_draws_of" s__law_draws_of ["cell"])
    (d15 : Dfn K mg "_law_dip" s__law_dip ["well", "upto"])
    (d16 : Dfn K mg "_law_same" s__law_same ["given", "due"])
    (d17 : Dfn K mg "_law_mixed" s__law_mixed ["well", "row"])
    (d18 : Dfn K mg "_law_retold" s__law_retold ["well", "arcs"])
    (d19 : Dfn K mg "_law_summed" s__law_summed ["given"])
    (d20 : Dfn K mg "_law_places_drawn" s__law_places_drawn ["well"])
    (d21 : Dfn K mg "_law_some_ties" s__law_some_ties ["well", "many"])
    (d22 : Dfn K mg "_law_cut_due" s__law_cut_due ["arcs", "mask"])
    (d23 : Dfn K mg "_law_net_is" s__law_net_is ["net", "many", "arcs"])
    (d24 : Dfn K mg "_law_outline_due" s__law_outline_due ["arcs", "many", "outside"])
    (d25 : Dfn K mg "_law_shadow" s__law_shadow ["arcs", "many", "left"])
    (d26 : Dfn K mg "_law_degree" s__law_degree ["arcs", "spot_here"])
    (d27 : Dfn K mg "_law_taken" s__law_taken ["net", "spot_here"])
    (d28 : Dfn K mg "_law_fine_rest" s__law_fine_rest ["arcs", "many", "spot_here", "told"])
    (d29 : Dfn K mg "law" s_law ["script"]) :
    ∃ fd : FuncData, (∀ (s : Shared) (v : Value), BindsTo s fd ⟨[v], []⟩ [("script", v)]) ∧ ∀ base : Heap, K.In base → base.Ns mainGlobals mg → FnOk l.prog w K mg base CX0 8 fa fd ["script"] (spLaw K) := by
  obtain ⟨f, fd, F, g, b⟩ := d29
  have e := hfa.symm.trans g
  cases e
  obtain ⟨fi, fdi, ai, ii, Fi, bi⟩ := m_i
  obtain ⟨ft, fdt, at_, it, Ft, bt⟩ := m_t
  obtain ⟨fl, fdl, al, il, Fl, bl⟩ := m_l
  obtain ⟨pp, pg, pfd, Pp, PF, Pb⟩ := p_places
  obtain ⟨lp, lg, lfd, Lp, LF, Lb⟩ := p_ties
  refine ⟨fd, fun s v => ?_, fun base _ _ => ?_⟩
  · obtain ⟨oc, od, kV, doc, pm, an, cdv, ct, osl, rfl, lk, hcd⟩ := F.ex
    exact .of_eq rfl
  · have O1 := ok_is_integer (P := l.prog) (w := w) (base := base) d1 z
    have Oplace := ok_is_place d2 O1
    have Otold := ok_is_told_tie d3 z O1 Oplace
    have Oplaces := ok_check_places d4 O1
    have Oends := ok_ends_of (P := l.prog) (w := w) (base := base) d8 z_min z_max
    have Ojoin := ok_joined (K := K) d6 z Oends
    have M : WM l.prog w K mg base C fi fdi := ⟨⟨mk, ai, ii, kc⟩, ok_winit Fi z T Oplaces Otold Ojoin, bi⟩
    have It : WI l.prog w K mg base C ft fdt := ⟨at_, it, ok_witer Ft z T, bt⟩
    have LN : WLn l.prog w K mg base C fl fdl := ⟨al, il, ok_wlen Fl z T, bl⟩
    have PT : TG l.prog w K mg base C pp pg pfd "places" (spWPlaces C) := ⟨Pp, ok_wplaces PF T, Pb⟩
    have PL : TG l.prog w K mg base C lp lg lfd "ties" (spWTies C) := ⟨Lp, ok_wties LF z T, Lb⟩
    have Oweb := ok_check_web (P := l.prog) (w := w) (base := base) d7 z T
    have W1 := ok_drawsW (ok_draws (P := l.prog) (w := w) (base := base) d14 z)
    have W2 := ok_dipW (ok_dip (P := l.prog) (w := w) (base := base) d15 z)
    have V1 := ok_mixed (K := K) d17 z W2
    have V2 := ok_places_drawn d20 W2
    have V3 := ok_some_ties d21 z z_min W2 V1
    have V4 := ok_summed (K := K) (P := l.prog) (w := w) (base := base) d19 z z_min z_max z_sum
    have V5 := ok_net_is d23 z T PT PL It LN (ok_same (P := l.prog) (w := w) (base := base) d16 z)
    have V7 := ok_cut_due (K := K) (P := l.prog) (w := w) (base := base) d22 z_sum
    have Ochp := ok_check_place d5 Oplace
    have V8 := ok_retold d18 z W2 V1
    obtain ⟨qo, qod, aq, iq, Fq, bq⟩ := m_q
    have TE : WEq l.prog w K mg base C qo qod := ⟨aq, iq, ok_weq Fq z T, bq⟩
    have Onear := ok_ties_at d10 It
    have Olow := ok_lowered (P := l.prog) (w := w) (base := base) d11
    have Otri := ok_triangle (P := l.prog) (w := w) (base := base) d13 z z_min z_sum
    have Oinst := ok_instead d12 z z_min Otri
    obtain ⟨cf, cfd, CF, cg, cb⟩ := d9
    have RC := fn_take_out CF z T TEN It M PT Oweb Ochp Onear Olow Oinst
    have U1 := ok_some_ties10 d21 z z_min W2 V1
    have U2 := ok_outline_due (K := K) d24 z z_sum V7
    have U3 := ok_shadow d25 U2
    have U4 := ok_degree (K := K) (P := l.prog) (w := w) (base := base) d26 z
    have U5 := ok_taken d27 TEN RC cg CF.kp cb
    have U6 := ok_fine_rest d28 z T PT PL U4 U3 V7 (ok_same (P := l.prog) (w := w) (base := base) d16 z)
    exact ok_law F z z_max T M TE W1 W2 V1 V2 U1 V4 V8 U4 U5 U6 V5 RC cg CF.kp (kb_to CF) (ok_same (P := l.prog) (w := w) (base := base) d16 z)

end TW
open PySem PySem.W PyProof.Rows
set_option maxHeartbeats 0 in
theorem PySem.Challenge.cw_thingwise_k77_places_taken_out_holds : PySem.Challenge.rw_thingwise_k77_places_taken_out.Holds := by
  w_on; o_law; k_head; (case hw => w_witness2)
  k_fill
  refine L2.walk_ofB (l := PySem.Challenge.rw_thingwise_k77_places_taken_out) (n := 63) (k := 8) (x := "script") (CX := fun _ => L2.CX0) (sp := fun w => TW.spLaw _) rfl (by decide) rfl ⟨rfl, by decide, by decide⟩ (fun w h Y => PySem.W.kIn_of Y) ?F (fun _ _ a ns hl _ _ hS => ⟨a, ns, rfl, hS, hl, fun _ => rfl⟩) (fun _ _ _ _ _ h => h)
  case F =>
    intro w mg fa h KX G hmg
    have z : TW.Z mg := by
      refine' TW.z_mk KX G ?_ ?_ ?_ ?_ ?_ ?_ ?_ ?_ ?_ ?_ ?_ ?_ ?_ ?_ ?_
      all_goals k_is
    have zs : mg "str" = none := by
      refine' PySem.W.mg_none_of KX G ?_
      k_is
    have z_min : mg "min" = none := by
      refine' PySem.W.mg_none_of KX G ?_
      k_is
    have z_max : mg "max" = none := by
      refine' PySem.W.mg_none_of KX G ?_
      k_is
    have z_sum : mg "sum" = none := by
      refine' PySem.W.mg_none_of KX G ?_
      k_is
    refine' TW.all_law (C := ?C) (N := ?atN) hmg z zs z_min z_max z_sum ?TEN ?T ?mk ?kc ?m_i ?m_t ?m_l ?m_q ?p_places ?p_ties ?d1 ?d2 ?d3 ?d4 ?d5 ?d6 ?d7 ?d8 ?d9 ?d10 ?d11 ?d12 ?d13 ?d14 ?d15 ?d16 ?d17 ?d18 ?d19 ?d20 ?d21 ?d22 ?d23 ?d24 ?d25 ?d26 ?d27 ?d28 ?d29
    case TEN =>
      refine' TW.tn_mk KX G ?g ?ex ?kk ?b ?t ?ic ?se
      (case g => k_is); (case ex => k_exc); (case kk => k_is); (case b => k_is); (case t => k_is); (case ic => k_is); (case se => first | rfl | k_is)
    case T =>
      refine' TW.wc_mk KX G ?aC ?pg ?hd ?po ?sa ?ha ?hn ?ht ?hm ?nP ?nT
      (case aC => k_is); (case pg => k_is); (case hd => k_is); (case po => k_is); (case sa => k_is); (case ha => k_is); (case hn => k_is); (case ht => k_is); (case hm => k_is); (case nP => k_is); (case nT => k_is)
    case mk => k_is
    case kc => k_is
    case m_i => refine' TW.mth_mk (fun _ _ _ _ _ _ us hl => match us, hl with | [_, _, _], _ => rfl) ?a ?i ?l ?c ?k; (case a => k_is); (case i => k_is); (case l => k_is); (case c => k_is); (case k => k_is)
    case m_t => refine' TW.mth_mk (fun _ _ _ _ _ _ us hl => match us, hl with | [_], _ => rfl) ?a ?i ?l ?c ?k; (case a => k_is); (case i => k_is); (case l => k_is); (case c => k_is); (case k => k_is)
    case m_l => refine' TW.mth_mk (fun _ _ _ _ _ _ us hl => match us, hl with | [_], _ => rfl) ?a ?i ?l ?c ?k; (case a => k_is); (case i => k_is); (case l => k_is); (case c => k_is); (case k => k_is)
    case m_q => refine' TW.mth_mk (fun _ _ _ _ _ _ us hl => match us, hl with | [_, _], _ => rfl) ?a ?i ?l ?c ?k; (case a => k_is); (case i => k_is); (case l => k_is); (case c => k_is); (case k => k_is)
    case p_places => refine' TW.prp_mk (fun _ _ _ _ _ _ us hl => match us, hl with | [_], _ => rfl) ?a ?e ?t ?r ?l ?c ?k; (case a => k_is); (case e => k_is); (case t => k_is); (case r => k_is); (case l => k_is); (case c => k_is); (case k => k_is)
    case p_ties => refine' TW.prp_mk (fun _ _ _ _ _ _ us hl => match us, hl with | [_], _ => rfl) ?a ?e ?t ?r ?l ?c ?k; (case a => k_is); (case e => k_is); (case t => k_is); (case r => k_is); (case l => k_is); (case c => k_is); (case k => k_is)
    case d1 => refine' TW.dfn_mk KX G (fun _ _ _ _ _ _ _ us hl => match us, hl with | [_, _], _ => rfl) ?a ?l ?c ?k; (case a => k_is); (case l => k_is); (case c => k_is); (case k => k_is)
    case d2 => refine' TW.dfn_mk KX G (fun _ _ _ _ _ _ _ us hl => match us, hl with | [_, _], _ => rfl) ?a ?l ?c ?k; (case a => k_is); (case l => k_is); (case c => k_is); (case k => k_is)
    case d3 => refine' TW.dfn_mk KX G (fun _ _ _ _ _ _ _ us hl => match us, hl with | [_, _], _ => rfl) ?a ?l ?c ?k; (case a => k_is); (case l => k_is); (case c => k_is); (case k => k_is)
    case d4 => refine' TW.dfn_mk KX G (fun _ _ _ _ _ _ _ us hl => match us, hl with | [_], _ => rfl) ?a ?l ?c ?k; (case a => k_is); (case l => k_is); (case c => k_is); (case k => k_is)
    case d5 => refine' TW.dfn_mk KX G (fun _ _ _ _ _ _ _ us hl => match us, hl with | [_, _], _ => rfl) ?a ?l ?c ?k; (case a => k_is); (case l => k_is); (case c => k_is); (case k => k_is)
    case d6 => refine' TW.dfn_mk KX G (fun _ _ _ _ _ _ _ us hl => match us, hl with | [_], _ => rfl) ?a ?l ?c ?k; (case a => k_is); (case l => k_is); (case c => k_is); (case k => k_is)
    case d7 => refine' TW.dfn_mk KX G (fun _ _ _ _ _ _ _ us hl => match us, hl with | [_], _ => rfl) ?a ?l ?c ?k; (case a => k_is); (case l => k_is); (case c => k_is); (case k => k_is)
    case d8 => refine' TW.dfn_mk KX G (fun _ _ _ _ _ _ _ us hl => match us, hl with | [_, _], _ => rfl) ?a ?l ?c ?k; (case a => k_is); (case l => k_is); (case c => k_is); (case k => k_is)
    case d9 => refine' TW.dfn_mk KX G (fun _ _ _ _ _ _ _ us hl => match us, hl with | [_, _], _ => rfl) ?a ?l ?c ?k; (case a => k_is); (case l => k_is); (case c => k_is); (case k => k_is)
    case d10 => refine' TW.dfn_mk KX G (fun _ _ _ _ _ _ _ us hl => match us, hl with | [_, _], _ => rfl) ?a ?l ?c ?k; (case a => k_is); (case l => k_is); (case c => k_is); (case k => k_is)
    case d11 => refine' TW.dfn_mk KX G (fun _ _ _ _ _ _ _ us hl => match us, hl with | [_, _], _ => rfl) ?a ?l ?c ?k; (case a => k_is); (case l => k_is); (case c => k_is); (case k => k_is)
    case d12 => refine' TW.dfn_mk KX G (fun _ _ _ _ _ _ _ us hl => match us, hl with | [_], _ => rfl) ?a ?l ?c ?k; (case a => k_is); (case l => k_is); (case c => k_is); (case k => k_is)
    case d13 => refine' TW.dfn_mk KX G (fun _ _ _ _ _ _ _ us hl => match us, hl with | [_], _ => rfl) ?a ?l ?c ?k; (case a => k_is); (case l => k_is); (case c => k_is); (case k => k_is)
    case d14 => refine' TW.dfn_mk KX G (fun _ _ _ _ _ _ _ us hl => match us, hl with | [_], _ => rfl) ?a ?l ?c ?k; (case a => k_is); (case l => k_is); (case c => k_is); (case k => k_is)
    case d15 => refine' TW.dfn_mk KX G (fun _ _ _ _ _ _ _ us hl => match us, hl with | [_, _], _ => rfl) ?a ?l ?c ?k; (case a => k_is); (case l => k_is); (case c => k_is); (case k => k_is)
    case d16 => refine' TW.dfn_mk KX G (fun _ _ _ _ _ _ _ us hl => match us, hl with | [_, _], _ => rfl) ?a ?l ?c ?k; (case a => k_is); (case l => k_is); (case c => k_is); (case k => k_is)
    case d17 => refine' TW.dfn_mk KX G (fun _ _ _ _ _ _ _ us hl => match us, hl with | [_, _], _ => rfl) ?a ?l ?c ?k; (case a => k_is); (case l => k_is); (case c => k_is); (case k => k_is)
    case d18 => refine' TW.dfn_mk KX G (fun _ _ _ _ _ _ _ us hl => match us, hl with | [_, _], _ => rfl) ?a ?l ?c ?k; (case a => k_is); (case l => k_is); (case c => k_is); (case k => k_is)
    case d19 => refine' TW.dfn_mk KX G (fun _ _ _ _ _ _ _ us hl => match us, hl with | [_], _ => rfl) ?a ?l ?c ?k; (case a => k_is); (case l => k_is); (case c => k_is); (case k => k_is)
    case d20 => refine' TW.dfn_mk KX G (fun _ _ _ _ _ _ _ us hl => match us, hl with | [_], _ => rfl) ?a ?l ?c ?k; (case a => k_is); (case l => k_is); (case c => k_is); (case k => k_is)
    case d21 => refine' TW.dfn_mk KX G (fun _ _ _ _ _ _ _ us hl => match us, hl with | [_, _], _ => rfl) ?a ?l ?c ?k; (case a => k_is); (case l => k_is); (case c => k_is); (case k => k_is)
    case d22 => refine' TW.dfn_mk KX G (fun _ _ _ _ _ _ _ us hl => match us, hl with | [_, _], _ => rfl) ?a ?l ?c ?k; (case a => k_is); (case l => k_is); (case c => k_is); (case k => k_is)
    case d23 => refine' TW.dfn_mk KX G (fun _ _ _ _ _ _ _ us hl => match us, hl with | [_, _, _], _ => rfl) ?a ?l ?c ?k; (case a => k_is); (case l => k_is); (case c => k_is); (case k => k_is)
    case d24 => refine' TW.dfn_mk KX G (fun _ _ _ _ _ _ _ us hl => match us, hl with | [_, _, _], _ => rfl) ?a ?l ?c ?k; (case a => k_is); (case l => k_is); (case c => k_is); (case k => k_is)
    case d25 => refine' TW.dfn_mk KX G (fun _ _ _ _ _ _ _ us hl => match us, hl with | [_, _, _], _ => rfl) ?a ?l ?c ?k; (case a => k_is); (case l => k_is); (case c => k_is); (case k => k_is)
    case d26 => refine' TW.dfn_mk KX G (fun _ _ _ _ _ _ _ us hl => match us, hl with | [_, _], _ => rfl) ?a ?l ?c ?k; (case a => k_is); (case l => k_is); (case c => k_is); (case k => k_is)
    case d27 => refine' TW.dfn_mk KX G (fun _ _ _ _ _ _ _ us hl => match us, hl with | [_, _], _ => rfl) ?a ?l ?c ?k; (case a => k_is); (case l => k_is); (case c => k_is); (case k => k_is)
    case d28 => refine' TW.dfn_mk KX G (fun _ _ _ _ _ _ _ us hl => match us, hl with | [_, _, _, _], _ => rfl) ?a ?l ?c ?k; (case a => k_is); (case l => k_is); (case c => k_is); (case k => k_is)
    case d29 => refine' TW.dfn_mk KX G (fun _ _ _ _ _ _ _ us hl => match us, hl with | [_], _ => rfl) ?a ?l ?c ?k; (case a => k_is); (case l => k_is); (case c => k_is); (case k => k_is)
