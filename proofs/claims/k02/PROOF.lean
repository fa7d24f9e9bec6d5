import PyProof.Rows.All
import Wide.All
import OpenK.AllK
import Wide.FinOn
import HandS.ForMost
import HandS.EndBits
import HandS.Evl
import HandS.Wide
import HandS.IsInst
import HandS.TupAny
import HandS.Zip
import HandS.Walk
import HandS.More
import HandS.Strs
import HandS.SetFor
import HandS.SortInts
import HandS.ExcOwn
import PySem.Challenge.RW_thingwise_k02_middle
set_option Elab.async false
set_option linter.all false
set_option maxRecDepth 100000
set_option maxHeartbeats 2000000
namespace TW
open PySem PySem.Spec PyProof.Rows L2
abbrev Ex (H H' : Hp) : Prop := Evl.Ex H H'
theorem Ex.rfl' {H : Hp} : Ex H H := Evl.Ex.refl H
/-! what stands beside H0: the things of l, each apart from the others -/
structure Has (H0 H : Hp) (l : List (Addr × HO)) : Prop where
  ex : Ex H0 H
  own : ∀ q ∈ l, H0 q.1 = none ∧ H q.1 = some q.2
  nd : (l.map (·.1)).Nodup
/-- all but the thing at w stays -/
def But (w : Addr) (H H' : Hp) : Prop := ∀ a o, a ≠ w → H a = some o → H' a = some o
theorem But.ex {w : Addr} {H H' : Hp} (e : Ex H H') : But w H H' := fun a o _ h => e a o h
theorem But.upd {w : Addr} {H : Hp} {o : HO} : But w H (upd H w o) := fun a u n h => by rw [upd_ne n]; exact h
theorem But.trans {w : Addr} {H H1 H2 : Hp} (a : But w H H1) (b : But w H1 H2) : But w H H2 := fun c o n h => b c o n (a c o n h)
theorem But.refl {w : Addr} {H : Hp} : But w H H := fun _ _ _ h => h
theorem But.free {w : Addr} {H H' : Hp} {p : Addr} {o : HO} (b : But w H H') (h : H' p = none) (hw : H' w = some o) : H p = none := by
  cases e : H p with
  | none => rfl
  | some u =>
    have n : p ≠ w := fun z => by rw [z, hw] at h; cases h
    rw [b p u n e] at h
    cases h
section
variable {H0 H H' : Hp} {l : List (Addr × HO)} {p w : Addr} {o o' : HO}
theorem Has.nil : Has H H [] := ⟨Evl.Ex.refl H, fun q h => absurd h List.not_mem_nil, List.Pairwise.nil⟩
theorem Has.get (h : Has H0 H l) (i : Nat) (hi : l[i]? = some (p, o)) : H p = some o := (h.own _ (List.mem_of_getElem? hi)).2
theorem Has.fr (h : Has H0 H l) (i : Nat) (hi : l[i]? = some (p, o)) : H0 p = none := (h.own _ (List.mem_of_getElem? hi)).1
theorem Has.new (h : Has H0 H l) (hp : H p = none) : Has H0 (upd H p o) ((p, o) :: l) := by
  refine ⟨h.ex.trans (Evl.Ex.new hp), fun q hq => ?_, ?_⟩
  · rcases List.mem_cons.mp hq with e | e
    · subst e
      exact ⟨Evl.fresh_back h.ex hp, upd_same⟩
    · obtain ⟨a, b⟩ := h.own q e
      exact ⟨a, by rw [upd_ne (ne_of_none b hp)]; exact b⟩
  · rw [List.map_cons, List.nodup_cons]
    refine ⟨fun z => ?_, h.nd⟩
    obtain ⟨q, hq, e⟩ := List.mem_map.mp z
    have b := (h.own q hq).2
    rw [e, hp] at b
    cases b
theorem Has.go (h : Has H0 H l) (e : Ex H H') : Has H0 H' l := ⟨h.ex.trans e, fun q hq => ⟨(h.own q hq).1, e _ _ (h.own q hq).2⟩, h.nd⟩
/-- a new thing behind an extension -/
theorem Has.newE (h : Has H0 H l) (e : Ex H H') (hp : H p = none) (hv : H' p = some o) : Has H0 H' ((p, o) :: l) := by
  refine ⟨h.ex.trans e, fun q hq => ?_, ?_⟩
  · rcases List.mem_cons.mp hq with z | z
    · subst z
      exact ⟨Evl.fresh_back h.ex hp, hv⟩
    · exact ⟨(h.own q z).1, e _ _ (h.own q z).2⟩
  · rw [List.map_cons, List.nodup_cons]
    refine ⟨fun z => ?_, h.nd⟩
    obtain ⟨q, hq, z2⟩ := List.mem_map.mp z
    have b := (h.own q hq).2
    rw [z2, hp] at b
    cases b
theorem nodup_at {α : Type} : ∀ {l : List α} {i j : Nat} {x : α}, l.Nodup → l[i]? = some x → l[j]? = some x → i = j := by
  intro l i j x nd hi hj
  obtain ⟨hi1, hi2⟩ := List.getElem?_eq_some_iff.mp hi
  obtain ⟨hj1, hj2⟩ := List.getElem?_eq_some_iff.mp hj
  rcases Nat.lt_trichotomy i j with c | c | c
  · exact absurd (hi2.trans hj2.symm) (List.pairwise_iff_getElem.mp nd i j hi1 hj1 c)
  · exact c
  · exact absurd (hj2.trans hi2.symm) (List.pairwise_iff_getElem.mp nd j i hj1 hi1 c)
/-- the i-th thing changes, all else stays -/
theorem Has.setB (h : Has H0 H l) (i : Nat) (hi : l[i]? = some (w, o)) (b : But w H H') (hv : H' w = some o') : Has H0 H' (l.set i (w, o')) := by
  have em : (l.set i (w, o')).map (·.1) = l.map (·.1) := by
    rw [List.map_set]
    refine List.ext_getElem? fun j => ?_
    by_cases e : i = j
    · subst e
      obtain ⟨h1, h2⟩ := List.getElem?_eq_some_iff.mp hi
      rw [List.getElem?_set_self (by rw [List.length_map]; exact h1), List.getElem?_map, hi]
      rfl
    · rw [List.getElem?_set_ne e]
  have nw : H0 w = none := h.fr i hi
  refine ⟨fun a u e => b a u (ne_of_none e nw) (h.ex a u e), fun q hq => ?_, by rw [em]; exact h.nd⟩
  obtain ⟨j, hj⟩ := List.mem_iff_getElem?.mp hq
  by_cases e : i = j
  · subst e
    obtain ⟨h1, _⟩ := List.getElem?_eq_some_iff.mp hi
    rw [List.getElem?_set_self h1] at hj
    cases hj
    exact ⟨nw, hv⟩
  · rw [List.getElem?_set_ne e] at hj
    obtain ⟨a, c⟩ := h.own q (List.mem_of_getElem? hj)
    refine ⟨a, b _ _ (fun z => e ?_) c⟩
    refine nodup_at h.nd (x := w) ?_ ?_
    · rw [List.getElem?_map, hi]
      rfl
    · rw [List.getElem?_map, hj, ← z]
      rfl
theorem Has.set (h : Has H0 H l) (i : Nat) (hi : l[i]? = some (w, o)) : Has H0 (upd H w o') (l.set i (w, o')) := h.setB i hi But.upd upd_same
theorem Has.sub {l' : List (Addr × HO)} (h : Has H0 H l) (s : l'.Sublist l) : Has H0 H l' := ⟨h.ex, fun q hq => h.own q (s.subset hq), (s.map _).nodup h.nd⟩
theorem Has.tail {q : Addr × HO} (h : Has H0 H (q :: l)) : Has H0 H l := h.sub (List.sublist_cons_self _ _)
/-- a new thing behind a step that changes w -/
theorem Has.newB (h : Has H0 H l) (i : Nat) (hi : l[i]? = some (w, o)) (hp : H p = none) (hv : H' p = some o') : p ≠ w := fun z => by
  have a := h.get i hi
  rw [← z, hp] at a
  cases a
/-- adding a thing that H0 does not know and that stands apart -/
theorem Has.add (h : Has H0 H l) (hp : H0 p = none) (hv : H p = some o) (na : p ∉ l.map (·.1)) : Has H0 H ((p, o) :: l) := by
  refine ⟨h.ex, fun q hq => ?_, List.nodup_cons.mpr ⟨na, h.nd⟩⟩
  rcases List.mem_cons.mp hq with z | z
  · subst z
    exact ⟨hp, hv⟩
  · exact h.own q z
theorem Has.notin (h : Has H0 H l) (hp : H p = none) : p ∉ l.map (·.1) := fun z => by
  obtain ⟨q, hq, z2⟩ := List.mem_map.mp z
  have b := (h.own q hq).2
  rw [z2, hp] at b
  cases b
end
/-! defs by their names -/
def Dfn (K : PySem.W.Frag) (mg : Str → Option Value) (x : Str) (st : Stmt) (ps : List Str) : Prop := ∃ (f : Addr) (fd : FuncData), Fun K x x st f fd ∧ mg x = some (.ref f) ∧ Binds K fd ps []
def Ok (P : Program) (w : World) (K : PySem.W.Frag) (mg : Str → Option Value) (base : Heap) (k : Nat) (x : Str) (ps : List Str) (sp : Sp) : Prop :=
  ∃ (f : Addr) (fd : FuncData), FnOk P w K mg base CX0 k f fd ps sp ∧ mg x = some (.ref f) ∧ PySem.W.keepIn K (.ref f) = true ∧ Binds K fd ps []
theorem Dfn.ok {P : Program} {w : World} {K : PySem.W.Frag} {mg : Str → Option Value} {base : Heap} {k : Nat} {x : Str} {st : Stmt} {ps : List Str} {sp : Sp} (D : Dfn K mg x st ps)
    (h : ∀ f fd, Fun K x x st f fd → FnOk P w K mg base CX0 k f fd ps sp) : Ok P w K mg base k x ps sp := by
  obtain ⟨f, fd, F, g, b⟩ := D
  exact ⟨f, fd, h f fd F, g, F.kp, b⟩
theorem pe_o {X : Cx} {k : Nat} {x : Str} {ps : List Str} {sp : Sp} {e : Expr} {es : List Expr} {t : TA} {p pos : Pos} (O : Ok X.prog X.w X.K X.mg X.base k x ps sp) (hr : Room k X.A) (ha : PA X (e :: es) t) (hg : Gl X x := by rfl)
    (hdb : (x == ("__debug__" : Str)) = false := by decide) (he : starEach (e :: es) X.env = (false, eval e X.env) :: starEach es X.env := by rfl) (hpl : (backTo pos (starEach es X.env)).any (·.1) = false := by rfl) :
    PE X (.Call (.Name x p) (e :: es) [] pos) (tCall sp [] E0 t) := by
  obtain ⟨f, fd, F, g, kp, b⟩ := O
  exact pe_call F hr hg g kp b .nil pass0 ha hdb he hpl
theorem dfn_mk {K : PySem.W.Frag} {mg : Str → Option Value} {h : Heap} {x : Str} {st : Stmt} {ps : List Str} {f : Addr} {oc : Value} {od an : Option Addr} {osl : Array (Option Value)} {kV doc pm cdv ct : Value}
    (X : K.In h) (G : h.Ns mainGlobals mg) (hb : ∀ (kV doc pm : Value) (an : Option Addr) (f' cdv ct : Value) (us : List Value), us.length = ps.length → bindArgs (PySem.W.fnOf x x (defArgs st) (defBody st) (defScope st) .none kV doc pm an cdv ct) ⟨us, []⟩ = pure (ps.zip us))
    (a : PySem.W.nsIn K mainGlobals x = some (some (.ref f))) (l : K.lookup f = some ⟨oc, od, .func (PySem.W.fnOf x x (defArgs st) (defBody st) (defScope st) .none kV doc pm an cdv ct), osl⟩)
    (c : PySem.W.codeIn K cdv x = true) (k : PySem.W.keepIn K (.ref f) = true) : Dfn K mg x st ps := by
  have F := fun_mk (st := st) l c k
  exact ⟨f, _, F, PySem.W.mg_of X G a, F.binds fun kV doc pm an cdv ct us hl => hb kV doc pm an .none cdv ct us hl⟩

theorem walk_zipT {K : PySem.W.Frag} {a b : Addr} {xs ys : List V} {n : Nat} (hn : n = min xs.length ys.length) : Walk (RZ.ItzT K a b) n (fun H => SqT K H a xs ∧ SqT K H b ys)
    (fun i H v H' => ∃ T x y, v = .ref T ∧ H T = none ∧ H' = upd H T (.tup [x, y]) ∧ xs[i]? = some x ∧ ys[i]? = some y) := by
  subst hn
  refine ⟨fun i H hi q => ?_, fun H q => ⟨xs, ys, q.1, q.2, by omega⟩, fun i H v H' hi q y => ?_⟩
  · have h1 : i < xs.length := by omega
    have h2 : i < ys.length := by omega
    exact ⟨xs, ys, xs[i], ys[i], q.1, q.2, List.getElem?_eq_getElem h1, List.getElem?_eq_getElem h2⟩
  · obtain ⟨T, x, z, rfl, hT, rfl, f1, f2⟩ := y
    exact ⟨T, x, z, rfl, hT, rfl, f1 xs q.1, f2 ys q.2⟩
theorem take_snoc {α : Type} {l : List α} {i : Nat} {x : α} (h : l[i]? = some x) : l.take (i + 1) = l.take i ++ [x] := by
  rw [List.take_add_one, h]
  rfl
theorem sz {n : Nat} (h : n ≤ 100000) : n ≤ sizeLine := Evl.sz_of h
theorem szl {n : Nat} (h : n < 100000) : n < sizeLine := Evl.sz_lt h
end TW
set_option Elab.async false
set_option linter.all false
set_option maxRecDepth 100000
set_option maxHeartbeats 4000000
namespace TW
open PySem PySem.Spec PyProof.Rows L2
/-- an empty set as it is made -/
abbrev fresh0 (w : World) : Obj := { cls := .type "set", dict := none, data := .set #[] 0 (.fresh 0 0 (!w.params.followText "set-order")) }
section
variable {P : Program} {w : World} {A : Around} {E : Value → Shared → Prop} {s : Shared}
theorem set_of_ints {l : Addr} {its : Array Value} (ns : List Int) {Q : Value → Shared → Prop} (noh : A.handled = none) (il : s.heap.IsList l its) (ii : IntsAre its.toList ns) (few : ns.length + 1 < scanBound)
    (go : ∀ (g : Heap) (tk c : Nat), SetR w g s.heap.objs.size (fun j => decide (j ∈ ns)) c → c ≤ ns.length → (∀ b o, s.heap.get? b = some o → g.get? b = some o) → Q (.ref s.heap.objs.size) { s with heap := g, toks := tk }) :
    wpAny (model P w) A (call (.type "set") [.ref l]) Q E s := by
  have size_eq : its.size = ns.length := by simpa using ii.length
  have C := F.called_set
  obtain ⟨c, tl, mro⟩ := C.mro
  have made_ := C.made
  have sub_ := C.sub
  have nt := C.notType
  have cc := C.canCreate
  have tc1 := F.typeCall_set_1 (.ref l)
  refine wpAny_call (codeAny_of_tree ?_)
  change wpAny _ _ (callAny (Value.type "set") ⟨[.ref l], []⟩) _ _ _
  refine wpAny_pure ⟨Code.quiet_builtin _ (by decide +kernel), codeAny_builtin F.entry_type_call ?_⟩
  rw [Around.under_plain (weight_type_call_type "set" _ _) rfl]
  repeat (any_goals (first | assumption | wp_step))
  refine codeAny_mono (code_set_led1 (.ref l) (E := E) (Q₁ := fun ob t => ob = .ref s.heap.objs.size ∧ t = { s with heap := s.heap.push (fresh0 w) }) ⟨rfl, rfl⟩) fun r t hr => ?_
  match r, hr with
  | .error e, hr => exact hr
  | .ok (.ret ob), hr =>
    obtain ⟨rfl, rfl⟩ := hr
    have at0 : (s.heap.push (fresh0 w)).get? s.heap.objs.size = some (fresh0 w) := Heap.get?_push_size _ rfl
    have ty0 : Shared.TypeIs { s with heap := s.heap.push (fresh0 w) } (.ref s.heap.objs.size) "set" := ⟨_, at0, rfl⟩
    have look_ := C.init.lookup
    have bind_ := C.init.bind (.ref s.heap.objs.size)
    repeat (any_goals (first | assumption | wp_step))
    refine codeAny_mono (codeAny_call_builtin (R := wants (fun r t => r = .none ∧ ∃ g tk c, t = { s with heap := g, toks := tk } ∧ SetR w g s.heap.objs.size (fun j => decide (j ∈ ns)) c ∧ c ≤ ns.length ∧ (∀ b o, s.heap.get? b = some o → g.get? b = some o)) E) C.init.plain F.entry_set_init (check_set_init_1 ty0 ?_)) fun r2 t2 hr2 => ?_
    · obtain ⟨⟨lc, ld, ldat, lsl⟩, lat, e1, nl, e2⟩ := il
      simp only at e1 e2
      subst e1
      subst e2
      have lat1 : (s.heap.push (fresh0 w)).get? l = some { cls := .type "list", dict := ld, data := .seq its nl, slots := lsl } := Heap.get?_push_of_some _ lat
      have k1 := F.sub_list_set
      have k2 := F.sub_list_frozenset
      have k3 : (Value.type "list" == Value.type "dict") = false := by decide
      have il1 : (s.heap.push (fresh0 w)).IsList l its := ⟨_, lat1, rfl, nl, rfl⟩
      unfold Builtin.«set.__init__» noKeywords Builtin.Frozenset.updateFrom
      generalize ePI : pyIter = PI
      wp_walk
      subst ePI
      refine wpAny_pyIter_list il1 (wpAny_bind (wpAny_runValue ?_))
      have ll := Heap.lt_size lat
      have sz1 : (s.heap.push (fresh0 w)).objs.size = s.heap.objs.size + 1 := Heap.size_push ..
      have noh3 : A.in1.in1.in1.handled = none := by simp [noh]
      have nI : l ≠ (s.heap.push (fresh0 w)).objs.size := sz1 ▸ Nat.ne_of_lt (Nat.lt_succ_of_lt ll)
      have nS : s.heap.objs.size ∉ [(s.heap.push (fresh0 w)).objs.size, l] := by
        simp only [List.mem_cons, List.not_mem_nil, or_false, not_or]
        exact ⟨sz1 ▸ Nat.ne_of_lt (Nat.lt_succ_self _), Nat.ne_of_gt ll⟩
      have vals_ : ∀ (i : Nat) (v : Value), its[i]? = some v → ∃ k t, ns[i]? = some k ∧ v = .int k t := fun i v hv => by
        have hi : i < ns.length := size_eq ▸ (Array.getElem?_eq_some_iff.mp hv).1
        obtain ⟨t, e⟩ := PyProof.Rows.IntsAre.int_at ii i v (by simpa using hv)
        refine ⟨ns[i], t, List.getElem?_eq_getElem hi, ?_⟩
        rw [e]
        simp [List.getD_eq_getElem?_getD, hi]
      refine set_update_ints ((Walks.list noh3 _ l nI its).toS) s.heap.objs.size nS ns size_eq few vals_ (its.size - 0) 0 _ (by omega) (Nat.zero_le _) ⟨⟨_, Heap.get?_push_size _ rfl, rfl, rfl⟩, il1.push _⟩ ⟨0, Nat.le_refl 0, setR_new_at (Heap.get?_push_of_some _ at0)⟩ ?_
      rintro ⟨g, g2, d2, tk, os2⟩ c2 mv c2l R2
      have z1 : g2 = s.gens := mv.gens
      have z2 : d2 = s.drawn := mv.drawn
      have z3 : os2 = s.os := mv.os
      subst z1 z2 z3
      show wpAny _ _ _ _ _ _
      refine wpAny_pure ?_
      show wpAny _ _ (ret Value.none) _ _ _
      refine wpAny_pure ⟨rfl, g, tk, c2, rfl, R2, by omega, fun b o e => ?_⟩
      have bl := Heap.lt_size e
      refine mv.heap b o ?_ (Heap.get?_push_of_some _ (Heap.get?_push_of_some _ e))
      simp only [List.mem_cons, List.not_mem_nil, or_false, not_or]
      exact ⟨Nat.ne_of_lt bl, sz1 ▸ Nat.ne_of_lt (Nat.lt_succ_of_lt bl)⟩
    · match r2, hr2 with
      | .error e, hr2 => exact hr2
      | .ok (.ret r3), hr2 =>
        obtain ⟨rfl, g, tk, c2, rfl, R2, c2l, kp⟩ := hr2
        repeat (any_goals (first | assumption | wp_step))
        exact go _ _ _ R2 c2l kp
      | .ok .next, hr2 => exact hr2.elim
      | .ok .brk, hr2 => exact hr2.elim
      | .ok .cont, hr2 => exact hr2.elim
  | .ok .next, hr => exact hr.elim
  | .ok .brk, hr => exact hr.elim
  | .ok .cont, hr => exact hr.elim
end
section
variable {X : Cx}
/-- set(xs), xs a list of ints -/
def rSetI (K : PySem.W.Frag) (w : World) : List V → Hp → VK → Prop := fun xs H Q => ∃ (l : Addr) (ns : List Int), xs = [V.ref l] ∧ SqL K H l (ns.map V.int) ∧ ns.length ≤ 4000 ∧
  ∀ a c, H a = none → c ≤ ns.length → Q (.ref a) (upd H a (SetO w a (fun j => decide (j ∈ ns)) c))
theorem cr_setI (hc : X.calm = true) : CallR X (.type "set") (rSetI X.K X.w) := by
  intro pins s σ H xs us Q I r h
  obtain ⟨l, ns, rfl, hl, hf, q⟩ := h
  rw [Vals.ref1 r]
  obtain ⟨its, rv, pl, hz⟩ := I.list hl
  have hn : H s.heap.objs.size = none := I.hok.fresh (Nat.le_refl _)
  refine set_of_ints (P := X.prog) (w := X.w) ns (I.ok.hd hc) pl.isList (by simpa using RZ.intsAre_vals rv) (by unfold scanBound; omega) fun g tk c R hcl k => ?_
  exact ⟨.ref s.heap.objs.size, upd H s.heap.objs.size (SetO X.w s.heap.objs.size (fun j => decide (j ∈ ns)) c), I.laid (t' := tk) k (Nat.le_refl _) (setO_new R), rfl, q _ c hn hcl⟩
end
end TW
set_option Elab.async false
set_option linter.all false
set_option maxRecDepth 100000
namespace TW
open PySem PySem.Spec PyProof.Rows L2
section
variable {X : Cx} {K : PySem.W.Frag}
def rIxA (K : PySem.W.Frag) : R2 := fun x y H Q => rIxL K x y H Q ∨ rIxT K x y H Q
theorem ix_any (h : X.K = K := by rfl) : IxR X (rIxA K) := by
  subst h
  exact IxR.or ix_list ix_tup
theorem op_inK (h : X.K = K := by rfl) : OpR X (compareOp .In) (rIn K false) := by
  subst h
  exact op_in_seq
theorem op_notInK (h : X.K = K := by rfl) : OpR X (compareOp .NotIn) (rIn K true) := by
  subst h
  exact op_notIn_seq
def rTupOf (K : PySem.W.Frag) : List V → Hp → VK → Prop := fun xs H Q => ∃ p ys, xs = [.ref p] ∧ ((SqL K H p ys ∧ ∀ l, H l = none → Q (.ref l) (upd H l (.tup ys))) ∨ (SqT K H p ys ∧ Q (.ref p) H))
theorem call_tupleK (h : X.K = K := by rfl) : CallR X (.type "tuple") (rTupOf K) := by
  subst h
  exact call_tuple_of
def rLenOf (K : PySem.W.Frag) : List V → Hp → VK → Prop := fun xs H Q => ∃ p ys, xs = [.ref p] ∧ (SqL K H p ys ∨ SqT K H p ys) ∧ Q (.int ys.length) H
theorem call_lenK (h : X.K = K := by rfl) : CallR X (.builtin "len") (rLenOf K) := by
  subst h
  exact call_len_seq
def rListOf (K : PySem.W.Frag) : List V → Hp → VK → Prop := fun xs H Q => ∃ p ys, xs = [.ref p] ∧ (SqL K H p ys ∨ SqT K H p ys) ∧ ∀ l, H l = none → Q (.ref l) (upd H l (.lst ys))
theorem call_listK (h : X.K = K := by rfl) : CallR X (.type "list") (rListOf K) := by
  subst h
  exact call_list_of
theorem cr_allK (hc : X.calm = true) (h : X.K = K := by rfl) : CallR X (.builtin "all") (rAll K) := by
  subst h
  exact cr_all hc
theorem cr_setK {w : World} (hc : X.calm = true) (h : X.K = K := by rfl) (hw : X.w = w := by rfl) : CallR X (.type "set") (rSetI K w) := by
  subst h
  subst hw
  exact cr_setI hc
theorem cr_sortedSetK {w : World} (hc : X.calm = true) (hw : X.w = w := by rfl) : CallR X (.builtin "sorted") (rSortedSet w) := by
  subst hw
  exact cr_sortedSet hc
theorem cr_anyK (hc : X.calm = true) (h : X.K = K := by rfl) : CallR X (.builtin "any") (rAny K) := by
  subst h
  exact cr_any hc
end
end TW
set_option Elab.async false
set_option linter.all false
set_option maxRecDepth 100000
set_option maxHeartbeats 4000000
namespace TW
open PySem PySem.Spec PyProof.Rows L2
def topS (i : Nat) : Stmt := PySem.Challenge.pw_thingwise_k02_middle.main.body.getD i (.Pass ⟨0, 0, 0, 0⟩)
structure Z (mg : Str → Option Value) : Prop where
  len : mg "len" = none
  int : mg "int" = none
  all : mg "all" = none
  sorted : mg "sorted" = none
  tuple : mg "tuple" = none
  list : mg "list" = none
  set : mg "set" = none
  type : mg "type" = none
  isinstance : mg "isinstance" = none
  zip : mg "zip" = none
  range : mg "range" = none
  bool : mg "bool" = none
section
variable {P : Program} {w : World} {K : PySem.W.Frag} {mg : Str → Option Value} {base : Heap}
theorem pe_tyn {X : Cx} {n : String} {p : Pos} (hg : Gl X (Str.ofString n)) (hm : X.mg (Str.ofString n) = none) (hv : bootBuiltins (Str.ofString n) = some (.type n)) (hn : Str.ofString n ≠ "__name__" := by decide) (hd : (Str.ofString n == ("__debug__" : Str)) = false := by decide) : PE X (.Name (Str.ofString n) p) (tC (.ty n)) := pe_bltn hg hm hv rfl hn hd
/-! is_integer, of ints -/
abbrev s_is_integer : Stmt := topS 4
theorem sc_is_integer : FnScope ["value", "least"] ["value", "least"] (defScope s_is_integer) := ⟨rfl, rfl, rfl, by decide +kernel, rfl, by decide +kernel, by decide +kernel⟩
def spIsInt : Sp := fun vs H Q _ => ∃ i l : Int, vs = [.int i, .int l] ∧ Q (.bl (decide (l ≤ i))) H
theorem ok_is_integer (D : Dfn K mg "is_integer" s_is_integer ["value", "least"]) (z : Z mg) : Ok P w K mg base 1 "is_integer" ["value", "least"] spIsInt := D.ok fun f fd F => by
  refine F.ok sc_is_integer (fun vs H Q E h => ?_) (fun cdv A outer s H vs Q E hr h => ?_)
  · obtain ⟨i, l, rfl, _⟩ := h
    rfl
  · obtain ⟨i, l, rfl, q⟩ := h
    refine ⟨_, (pss_one (ps_ret (pe_and (pe_cmpR op_isTy (pe_callTy call_type1 (by rfl) z.type (by decide +kernel) (pa_cons (pv 0) pa_nil)) (pe_tyn (n := "int") (by rfl) z.int (by decide +kernel)) (nomark _)) (pe_one (pe_cmpR op_ge (pv 0) (pv 1) (nomark _)))))), ?_⟩
    exact ⟨_, rfl, _, _, rfl, .int i, _, _, rfl, rfl, _, rfl, _, rfl, _, rfl, _, _, rfl, rfl, q⟩

/-! is_thing -/
def thV : Option Int → V
  | none => .non
  | some n => .int n
def inThings (i : Int) : Option Int → Bool
  | none => true
  | some n => decide (i < n)
abbrev s_is_thing : Stmt := topS 5
theorem sc_is_thing : FnScope ["value", "things"] ["value", "things"] (defScope s_is_thing) := ⟨rfl, rfl, rfl, by decide +kernel, rfl, by decide +kernel, by decide +kernel⟩
def spIsThing : Sp := fun vs H Q _ => ∃ (i : Int) (t : Option Int), vs = [.int i, thV t] ∧ Q (.bl (decide (0 ≤ i) && inThings i t)) H
theorem ok_is_thing (D : Dfn K mg "is_thing" s_is_thing ["value", "things"]) (O_is_integer : Ok P w K mg base 1 "is_integer" ["value", "least"] spIsInt) : Ok P w K mg base 2 "is_thing" ["value", "things"] spIsThing := D.ok fun f fd F => by
  refine F.ok sc_is_thing (fun vs H Q E h => ?_) (fun cdv A outer s H vs Q E hr h => ?_)
  · obtain ⟨i, t, rfl, _⟩ := h
    rfl
  · obtain ⟨i, t, rfl, q⟩ := h
    refine ⟨_, (pss_one (ps_ret (pe_and (pe_o O_is_integer hr (pa_cons (pv 0) (pa_cons pe_int pa_nil))) (pe_one (pe_or (pe_cmpR op_isN (pv 1) pe_non (nomark _)) (pe_one (pe_cmpR op_lt (pv 0) (pv 1) (nomark _)))))))), ?_⟩
    refine ⟨_, rfl, _, _, rfl, _, rfl, ?_⟩
    cases h0 : decide (0 ≤ i) with
    | false =>
      rw [h0] at q
      exact q
    | true =>
      rw [h0] at q
      cases t with
      | none => exact ⟨_, rfl, rfl, _, rfl, q⟩
      | some n => exact ⟨_, rfl, rfl, _, rfl, _, rfl, _, rfl, _, _, rfl, rfl, q⟩
/-! is_ascending, of a tuple of ints -/
def adj (ns : List Int) : List Bool := List.zipWith (fun x y => decide (x < y)) ns (ns.drop 1)
theorem adj_len (ns : List Int) : (adj ns).length = min (ns.map V.int).length ((ns.drop 1).map V.int).length := by
  unfold adj
  rw [List.length_zipWith, List.length_map, List.length_map]
theorem adj_get {ns : List Int} {i : Nat} {x y : V} (h1 : (ns.map V.int)[i]? = some x) (h2 : ((ns.drop 1).map V.int)[i]? = some y) : ∃ p q, x = .int p ∧ y = .int q ∧ (adj ns)[i]? = some (decide (p < q)) := by
  rw [List.getElem?_map] at h1 h2
  cases e1 : ns[i]? with
  | none => rw [e1] at h1; cases h1
  | some p =>
    cases e2 : (ns.drop 1)[i]? with
    | none => rw [e2] at h2; cases h2
    | some q =>
      rw [e1] at h1
      rw [e2] at h2
      refine ⟨p, q, (Option.some.inj h1).symm, (Option.some.inj h2).symm, ?_⟩
      unfold adj
      rw [List.getElem?_zipWith, e1, e2]
def asc : List Int → Bool
  | x :: y :: r => decide (x < y) && asc (y :: r)
  | _ => true
theorem adj_asc : ∀ ns : List Int, (adj ns).all id = asc ns
  | [] => rfl
  | [_] => rfl
  | x :: y :: r => by
    have ih := adj_asc (y :: r)
    show (decide (x < y) && (adj (y :: r)).all id) = (decide (x < y) && asc (y :: r))
    rw [ih]
abbrev s_is_ascending : Stmt := topS 6
theorem sc_is_ascending : FnScope ["values", "low", "high"] ["values"] (defScope s_is_ascending) := ⟨rfl, rfl, rfl, by decide +kernel, rfl, by decide +kernel, by decide +kernel⟩
def spIsAsc (K : PySem.W.Frag) : Sp := fun vs H Q _ => ∃ (t : Addr) (ns : List Int), vs = [.ref t] ∧ SqT K H t (ns.map V.int) ∧ ns.length ≤ 1000 ∧ ∀ H', Ex H H' → Q (.bl (asc ns)) H'
theorem ok_is_ascending (D : Dfn K mg "is_ascending" s_is_ascending ["values"]) (z : Z mg) : Ok P w K mg base 1 "is_ascending" ["values"] (spIsAsc K) := D.ok fun f fd F => by
  refine F.ok sc_is_ascending (fun vs H Q E h => ?_) (fun cdv A outer s H vs Q E hr h => ?_)
  · obtain ⟨i, t, rfl, _⟩ := h
    rfl
  · obtain ⟨t, ns, rfl, hT, hl, q⟩ := h
    refine ⟨_, (pss_one (ps_ret (pe_callB (cr_all rfl) (by rfl) z.all (by decide +kernel) (pa_cons (pe_lc (own := [("low", 1), ("high", 2)]) (g := gTup K 2 (gCons (gName 1) (gCons (gName 2) gNil))) rfl sc_is_ascending.nd (RZ.pi_zipA (by rfl) z.zip (pa_cons (pv 0) (pa_cons (pe_slice sl_tupA (pv 0) (po_some pe_int) po_none) pa_nil))) (blkOk_by (N := ["values", "low", "high"]) (own := [("low", 1), ("high", 2)]) (sc := defScope s_is_ascending) (by decide +kernel)) (fun _ _ _ _ _ => pg_tup rfl (pgs_cons (pg_name (i := 1) sc_is_ascending.nd rfl (Or.inl rfl)) (pgs_cons (pg_name (i := 2) sc_is_ascending.nd rfl (Or.inl rfl)) (pgs_nil)))) (fun _ _ _ _ _ => pts_nil) (fun _ _ _ _ _ => (pe_cmpR op_lt (pv 1) (pv 2) (nomark _)))) pa_nil)))), ?_⟩
    refine ⟨_, rfl, _, rfl, _, rfl, t, ns.map V.int, rfl, hT, ?_⟩
    have key : ∀ (t' : Addr) (H1 : Hp), Ex H H1 → SqT K H1 t' ((ns.drop 1).map V.int) → ∀ (R : V → Hp → Prop), (∀ Dl H2, H1 Dl = none → Ex H1 H2 → H2 Dl = some (.lst ((adj ns).map V.bl)) → R (.ref Dl) H2) → ∀ Dl, H1 Dl = none → ∃ W : Nat → Nat → Hp → Prop, (∃ m, W 0 m (upd H1 Dl (.lst []))) ∧ ∀ i m H, W i m H →
      ((RZ.ItzT K t t').stop i H ∧ R (.ref Dl) H) ∨ ((RZ.ItzT K t t').go i H ∧ ∃ Nx : Hp → Prop, (∀ H', Nx H' → ∃ m', m' < m ∧ W (i + 1) m' H') ∧ ∀ x H', (RZ.ItzT K t t').yld i H x H' → gTup K 2 (gCons (gName 1) (gCons (gName 2) gNil)) x (wipe (L2.start ["values", "low", "high"] [V.ref t]) [1, 2]) H' fun σ2 H2 => wipe σ2 [1, 2] = wipe (L2.start ["values", "low", "high"] [V.ref t]) [1, 2] ∧ tYes σ2 H2 fun b H3 =>
        if b = true then tOp (rI0 fun i j => .bl (decide (i < j))) (tVar 1) (tVar 2) σ2 H3 fun y H4 => ∃ acc, H4 Dl = some (.lst acc) ∧ acc.length < sizeLine ∧ Nx (upd H4 Dl (.lst (acc ++ [y]))) else Nx H3) := by
      intro t' H1 e1 hT' R hR Dl hD
      refine lc_it (walk_zipT (adj_len ns)) (Qd := fun H => R (.ref Dl) H) (fun i H' => Ex H1 H' ∧ H' Dl = some (.lst (((adj ns).take i).map V.bl))) ⟨Evl.Ex.new hD, by rw [upd_same]; rfl⟩ (fun i H' _ p => ⟨Evl.ex_t (e1.trans p.1) hT, Evl.ex_t p.1 hT'⟩) ?_ (fun H' p => hR Dl H' hD p.1 (by have := p.2; rw [List.take_length] at this; exact this))
      rintro i x H2 H3 hi ⟨x2, hL⟩ ⟨T, u, v, rfl, nT, rfl, hu, hv⟩
      obtain ⟨p, q2, rfl, rfl, ha⟩ := adj_get hu hv
      refine ⟨T, _, rfl, Evl.st_of upd_same, rfl, _, _, rfl, _, _, rfl, rfl, rfl, ?_⟩
      refine ⟨_, rfl, _, rfl, _, _, rfl, rfl, _, Eq.trans (upd_ne (ne_of_none hL nT)) hL, szl ?_, ?_, ?_⟩
      · rw [List.length_map, List.length_take]
        have := adj_len ns
        rw [List.length_map] at this
        omega
      · exact Evl.Ex.mut (x2.trans (Evl.Ex.new nT)) hD
      · rw [upd_same, take_snoc ha, List.map_append]
        rfl
    have fin : ∀ Dl H2, Ex H H2 → H2 Dl = some (.lst ((adj ns).map V.bl)) → rAll K [.ref Dl] H2 Q := fun Dl H2 e2 h2 => ⟨Dl, adj ns, rfl, Evl.sq_of h2, by
      rw [adj_asc]
      exact q H2 e2⟩
    have i0 : HT.sIx (ns.map V.int).length 0 (some 1) = min 1 (ns.map V.int).length := HT.sIx_nat _ 0 1
    have e1 : cutV (ns.map V.int) (some 1) none = (ns.drop 1).map V.int := by
      unfold cutV
      rw [i0, HT.sIx_none, List.map_drop]
      cases ns with
      | nil => rfl
      | cons x r =>
        rw [show min 1 (List.map V.int (x :: r)).length = 1 by rw [List.map_cons, List.length_cons]; omega]
        rw [← List.length_drop, List.take_length]
    refine ⟨fun hw => ?_, fun hw p hp => ?_⟩
    · refine ⟨t, t, ns.map V.int, ns.map V.int, rfl, .inr ⟨hT, hT, key t H (Evl.Ex.refl H) ?_ (fun v H2 => rAll K [v] H2 Q) fun Dl H2 _ e2 h2 => fin Dl H2 e2 h2⟩⟩
      have n0 : ns = [] := by
        have hw1 := hw.1
        rw [i0, List.length_map] at hw1
        cases ns with
        | nil => rfl
        | cons x r =>
          rw [List.length_cons] at hw1
          omega
      rw [n0] at hT ⊢
      exact hT
    · have hp2 : (upd H p (.tup (cutV (ns.map V.int) (some 1) none))) p = some (.tup ((ns.drop 1).map V.int)) := by rw [upd_same, e1]
      exact ⟨t, p, ns.map V.int, (ns.drop 1).map V.int, rfl, .inr ⟨Evl.ex_t (Evl.Ex.new hp) hT, Evl.st_of hp2, key p _ (Evl.Ex.new hp) (Evl.st_of hp2) (fun v H2 => rAll K [v] H2 Q) fun Dl H2 _ e2 h2 => fin Dl H2 ((Evl.Ex.new hp).trans e2) h2⟩⟩
/-! is_lot, of a tuple of ints -/
def isLot (ns : List Int) (t : Option Int) : Bool := (ns.all fun n => decide (0 ≤ n) && inThings n t) && asc ns
abbrev s_is_lot : Stmt := topS 7
theorem sc_is_lot : FnScope ["value", "things", "thing"] ["value", "things"] (defScope s_is_lot) := ⟨rfl, rfl, rfl, by decide +kernel, rfl, by decide +kernel, by decide +kernel⟩
def spIsLot (K : PySem.W.Frag) : Sp := fun vs H Q _ => ∃ (a : Addr) (ns : List Int) (t : Option Int), vs = [.ref a, thV t] ∧ SqT K H a (ns.map V.int) ∧ ns.length ≤ 1000 ∧ ∀ H', Ex H H' → Q (.bl (isLot ns t)) H'
theorem ok_is_lot (D : Dfn K mg "is_lot" s_is_lot ["value", "things"]) (z : Z mg) (O_is_thing : Ok P w K mg base 2 "is_thing" ["value", "things"] spIsThing) (O_is_ascending : Ok P w K mg base 1 "is_ascending" ["values"] (spIsAsc K)) : Ok P w K mg base 3 "is_lot" ["value", "things"] (spIsLot K) := D.ok fun f fd F => by
  refine F.ok sc_is_lot (fun vs H Q E h => ?_) (fun cdv A outer s H vs Q E hr h => ?_)
  · obtain ⟨a, ns, t, rfl, _⟩ := h
    rfl
  · obtain ⟨a, ns, t, rfl, hT, hl, q⟩ := h
    refine ⟨_, (pss_cons (ps_if (pt_cmpR op_isNotTy (pe_callTy call_type1 (by rfl) z.type (by decide +kernel) (pa_cons (pv 0) pa_nil)) (pe_tyn (n := "tuple") (by rfl) z.tuple (by decide +kernel)) (nomark _)) (pss_one (ps_ret pe_bl)) pss_nil)
      (pss_one (ps_ret (pe_and (pe_callB (cr_all rfl) (by rfl) z.all (by decide +kernel) (pa_cons (pe_lc (own := [("thing", 2)]) (g := gName 2) rfl sc_is_lot.nd (pi_tup (pv 0)) (blkOk_by (N := ["value", "things", "thing"]) (own := [("thing", 2)]) (sc := defScope s_is_lot) (by decide +kernel)) (fun _ _ _ _ _ => pg_name (i := 2) sc_is_lot.nd rfl (Or.inl rfl)) (fun _ _ _ _ _ => pts_nil) (fun _ _ _ _ _ => (pe_o O_is_thing hr (pa_cons (pv 2) (pa_cons (pv 1) pa_nil))))) pa_nil)) (pe_one (pe_o O_is_ascending (hr.mono (by decide)) (pa_cons (pv 0) pa_nil))))))), ?_⟩
    refine ⟨_, rfl, _, _, rfl, .tup hT, _, _, rfl, rfl, _, rfl, ?_⟩
    refine ⟨_, rfl, a, rfl, ⟨_, hT⟩, fun Dl hD => ?_⟩
    refine lc_tup (K := K) (xs := ns.map V.int) (fun i H' => Ex H H' ∧ H' Dl = some (.lst (((ns.map fun n => decide (0 ≤ n) && inThings n t).take i).map V.bl))) ⟨Evl.Ex.new hD, by rw [upd_same]; rfl⟩ (fun i H' _ p => Evl.ex_t p.1 hT) ?_ ?_
    · rintro i x H1 hi ⟨e1, h1⟩
      obtain ⟨n, hn, rfl⟩ : ∃ n, ns[i]? = some n ∧ x = V.int n := by
        rw [List.getElem?_map] at hi
        cases e : ns[i]? with
        | none => rw [e] at hi; cases hi
        | some n => rw [e] at hi; exact ⟨n, rfl, (Option.some.inj hi).symm⟩
      refine ⟨rfl, ?_⟩
      refine ⟨_, rfl, _, rfl, n, t, rfl, _, h1, szl ?_, Evl.Ex.mut e1 hD, ?_⟩
      · rw [List.length_map, List.length_take, List.length_map]
        omega
      · rw [upd_same, take_snoc (x := decide (0 ≤ n) && inThings n t) (by rw [List.getElem?_map, hn]; rfl), List.map_append]
        rfl
    · rintro H1 ⟨e1, h1⟩
      have eL : (ns.map fun n => decide (0 ≤ n) && inThings n t).take (ns.map V.int).length = ns.map fun n => decide (0 ≤ n) && inThings n t := List.take_of_length_le (by simp)
      rw [eL] at h1
      refine ⟨Dl, _, rfl, Evl.sq_of h1, _, rfl, ?_⟩
      rw [List.all_map]
      have ea : (ns.all (id ∘ fun n => decide (0 ≤ n) && inThings n t)) = ns.all fun n => decide (0 ≤ n) && inThings n t := rfl
      rw [ea]
      cases hb : ns.all fun n => decide (0 ≤ n) && inThings n t with
      | false =>
        have ef : isLot ns t = false := by unfold isLot; rw [hb]; rfl
        rw [ef] at q
        exact q H1 e1
      | true =>
        have ef : isLot ns t = asc ns := by unfold isLot; rw [hb]; rfl
        rw [ef] at q
        exact ⟨_, rfl, a, ns, rfl, Evl.ex_t e1 hT, hl, fun H2 e2 => q H2 (e1.trans e2)⟩
/-! check_lot, where it is a lot -/
abbrev s_check_lot : Stmt := topS 8
theorem sc_check_lot : FnScope ["lot", "things"] ["lot", "things"] (defScope s_check_lot) := ⟨rfl, rfl, rfl, by decide +kernel, rfl, by decide +kernel, by decide +kernel⟩
def spCheckLot (K : PySem.W.Frag) : Sp := fun vs H Q _ => ∃ (a : Addr) (ns : List Int) (t : Option Int), vs = [.ref a, thV t] ∧ SqT K H a (ns.map V.int) ∧ ns.length ≤ 1000 ∧ isLot ns t = true ∧ ∀ H', Ex H H' → Q .non H'
theorem ok_check_lot (D : Dfn K mg "check_lot" s_check_lot ["lot", "things"]) (O_is_lot : Ok P w K mg base 3 "is_lot" ["value", "things"] (spIsLot K)) : Ok P w K mg base 4 "check_lot" ["lot", "things"] (spCheckLot K) := D.ok fun f fd F => by
  refine F.ok sc_check_lot (fun vs H Q E h => ?_) (fun cdv A outer s H vs Q E hr h => ?_)
  · obtain ⟨a, ns, t, rfl, _⟩ := h
    rfl
  · obtain ⟨a, ns, t, rfl, hT, hl, hb, q⟩ := h
    refine ⟨_, (pss_one (ps_if (pt_not (pt_val (pe_o O_is_lot hr (pa_cons (pv 0) (pa_cons (pv 1) pa_nil))))) (pss_one ps_never) pss_nil)), ?_⟩
    refine ⟨_, rfl, _, rfl, a, ns, t, rfl, hT, hl, fun H1 e1 => ?_⟩
    rw [hb]
    exact ⟨_, rfl, q H1 e1⟩
end
end TW
set_option Elab.async false
set_option linter.all false
set_option maxRecDepth 100000
set_option maxHeartbeats 4000000
namespace TW
open PySem PySem.Spec PyProof.Rows L2
section
variable {P : Program} {w : World} {K : PySem.W.Frag} {mg : Str → Option Value} {base : Heap}
/-! _law_draws_of -/
def wl (a b c : Int) : HO := .lst [.int a, .int b, .int c]
abbrev s_law_draws_of : Stmt := topS 12
theorem sc_law_draws_of : FnScope ["cell"] ["cell"] (defScope s_law_draws_of) := ⟨rfl, rfl, rfl, by decide +kernel, rfl, by decide +kernel, by decide +kernel⟩
def spDraws : Sp := fun vs H Q _ => ∃ c : Int, vs = [.int c] ∧ ∀ p, H p = none → ∀ a b : Int, 0 ≤ a → 0 ≤ b → b < 2 ^ 81 → Q (.ref p) (upd H p (wl a 0 b))
theorem ok_draws (D : Dfn K mg "_law_draws_of" s_law_draws_of ["cell"]) (z : Z mg) : Ok P w K mg base 1 "_law_draws_of" ["cell"] spDraws := D.ok fun f fd F => by
  refine F.ok sc_law_draws_of (fun vs H Q E h => ?_) (fun cdv A outer s H vs Q E hr h => ?_)
  · obtain ⟨c, rfl, _⟩ := h
    rfl
  · obtain ⟨c, rfl, q⟩ := h
    refine ⟨_, (pss_cons (ps_if (pt_cmpR op_ge (pv 0) (pe_op op_pow pe_int pe_int) (nomark _)) (pss_one (ps_ret (pe_lst (pa_cons (pe_op op_sub (pv 0) (pe_op op_pow pe_int pe_int)) (pa_cons pe_int (pa_cons (pe_op op_mod (pe_callTy call_int1 (by rfl) z.int (by decide +kernel) (pa_cons (pv 0) pa_nil)) pe_int) pa_nil)))))) pss_nil)
      (pss_one (ps_ret (pe_lst (pa_cons pe_int (pa_cons pe_int (pa_cons (pe_op op_mod (pe_callTy call_int1 (by rfl) z.int (by decide +kernel) (pa_cons (pv 0) pa_nil)) (pe_op op_add (pe_op op_pow pe_int pe_int) pe_int)) pa_nil))))))), ?_⟩
    have p18 : CPow 10 18 := ⟨by decide, by decide, by decide⟩
    have p24 : CPow 10 24 := ⟨by decide, by decide, by decide⟩
    refine ⟨_, rfl, _, _, rfl, rfl, p18, _, _, rfl, rfl, _, rfl, ?_⟩
    refine ite2 (fun hc => ?_) (fun hc => ?_)
    · have hc' : (10 : Int) ^ (18 : Int).toNat ≤ c := of_decide_eq_true hc
      refine ⟨_, rfl, _, _, rfl, rfl, p18, _, _, rfl, rfl, _, rfl, .inl ⟨_, rfl, _, _, rfl, rfl, (show (0 : Int) < 1000003 by decide), sz (by show 3 ≤ 100000; decide), fun p hp => ?_⟩⟩
      exact q p hp _ _ (by omega) (Int.emod_nonneg _ (by decide)) (Int.lt_trans (Int.emod_lt_of_pos _ (by decide)) (by decide))
    · refine ⟨_, rfl, .inl ⟨_, rfl, _, _, rfl, rfl, p24, _, _, rfl, rfl, _, _, rfl, rfl, (show (0 : Int) < 10 ^ Int.toNat 24 + 7 by decide), sz (by show 3 ≤ 100000; decide), fun p hp => ?_⟩⟩
      exact q p hp 0 _ (by decide) (Int.emod_nonneg _ (by decide)) (Int.lt_trans (Int.emod_lt_of_pos _ (by decide)) (by decide))
/-! _law_dip -/
abbrev s_law_dip : Stmt := topS 13
theorem sc_law_dip : FnScope ["well", "upto", "drawn", "count", "churn"] ["well", "upto"] (defScope s_law_dip) := ⟨rfl, rfl, rfl, by decide +kernel, rfl, by decide +kernel, by decide +kernel⟩
def spDip : Sp := fun vs H Q _ => ∃ (p : Addr) (n a b c : Int), vs = [.ref p, .int n] ∧ H p = some (wl a b c) ∧ 0 < n ∧ n < 2 ^ 200 ∧ 0 ≤ a ∧ 0 ≤ b ∧ b < 2 ^ 60 ∧ 0 ≤ c ∧ c < 2 ^ 81 ∧
  ∀ r a' b' : Int, 0 ≤ r → r < n → 0 ≤ a' → b ≤ b' → b' ≤ b + 1 → Q (.int r) (upd H p (wl a' b' c))
theorem nab {x : Int} {k : Nat} (h0 : 0 ≤ x) (h : x < 2 ^ k) : x.natAbs < 2 ^ k := by
  have e : ((2 ^ k : Nat) : Int) = (2 : Int) ^ k := by simp
  omega
theorem ok_dip (D : Dfn K mg "_law_dip" s_law_dip ["well", "upto"]) (z : Z mg) : Ok P w K mg base 1 "_law_dip" ["well", "upto"] spDip := D.ok fun f fd F => by
  refine F.ok sc_law_dip (fun vs H Q E h => ?_) (fun cdv A outer s H vs Q E hr h => ?_)
  · obtain ⟨p, n, a, b, c, rfl, _⟩ := h
    rfl
  · obtain ⟨p, n, a, b, c, rfl, hp, n0, n1, a0, b0, b1, c0, c1, q⟩ := h
    refine ⟨_, (pss_cons (ps_if (pt_cmpR op_gt (pe_ix ix_list (pv 0) pe_int (fun _ _ => rfl)) pe_int (nomark _)) (pss_cons (ps_set (i := 2) sc_law_dip.nd rfl (Or.inl rfl) (pe_op op_mod (pe_callTy call_int1 (by rfl) z.int (by decide +kernel) (pa_cons (pe_ix ix_list (pv 0) pe_int (fun _ _ => rfl)) pa_nil)) (pv 1)))
      (pss_cons (ps_asg (pe_op op_fdivW (pe_ix ix_list (pv 0) pe_int (fun _ _ => rfl)) (pv 1)) (pg_sub (pv 0) pe_int set_list))
      (pss_one (ps_ret (pv 2))))) pss_nil)
      (pss_cons (ps_asg (pe_op op_add (pe_ix ix_list (pv 0) pe_int (fun _ _ => rfl)) pe_int) (pg_sub (pv 0) pe_int set_list))
      (pss_cons (ps_set (i := 3) sc_law_dip.nd rfl (Or.inl rfl) (pe_ix ix_list (pv 0) pe_int (fun _ _ => rfl)))
      (pss_cons (ps_set (i := 4) sc_law_dip.nd rfl (Or.inl rfl) (pe_op op_add (pe_op op_mul (pe_op op_add (pe_ix ix_list (pv 0) pe_int (fun _ _ => rfl)) pe_int) (pe_op op_add pe_int (pe_op op_mul pe_int (pv 3)))) (pe_op op_mul (pe_op op_mul pe_int (pv 3)) (pv 3))))
      (pss_cons (ps_set (i := 4) sc_law_dip.nd rfl (Or.inl rfl) (pe_op op_mul (pe_op op_mod (pe_callTy call_int1 (by rfl) z.int (by decide +kernel) (pa_cons (pe_op op_mulW (pv 4) (pv 4)) pa_nil)) pe_int) pe_int))
      (pss_one (ps_ret (pe_op op_mod (pe_callTy call_int1 (by rfl) z.int (by decide +kernel) (pa_cons (pe_op op_fdiv (pe_op op_mod (pe_callTy call_int1 (by rfl) z.int (by decide +kernel) (pa_cons (pv 4) pa_nil)) pe_int) pe_int) pa_nil)) (pv 1))))))))), ?_⟩
    have n9 : CDivW a n := wide_div (b := 200) n0 (nab (Int.le_of_lt n0) n1) (by decide) (by decide)
    refine ⟨_, rfl, p, _, _, _, rfl, rfl, Evl.sq_of hp, rfl, _, _, rfl, rfl, _, rfl, ?_⟩
    refine ite2 (fun hc => ?_) (fun hc => ?_)
    · refine ⟨_, rfl, p, _, _, _, rfl, rfl, Evl.sq_of hp, rfl, .inl ⟨_, rfl, _, rfl, _, _, rfl, rfl, n0, ?_⟩⟩
      refine ⟨_, rfl, p, _, _, _, rfl, rfl, Evl.sq_of hp, rfl, _, rfl, _, _, rfl, rfl, n9, _, rfl, p, _, _, 0, rfl, rfl, hp, rfl, _, rfl, ?_⟩
      exact q _ _ b (Int.emod_nonneg _ (by omega)) (Int.emod_lt_of_pos _ n0) (Int.ediv_nonneg a0 (Int.le_of_lt n0)) (Int.le_refl _) (by omega)
    · refine ⟨_, rfl, p, _, _, _, rfl, rfl, Evl.sq_of hp, rfl, _, _, rfl, rfl, _, rfl, p, _, _, 1, rfl, rfl, hp, rfl, ?_⟩
      refine ⟨_, rfl, p, _, _, _, rfl, rfl, Evl.sq_of upd_same, rfl, ?_⟩
      refine ⟨_, rfl, p, _, _, _, rfl, rfl, Evl.sq_of upd_same, rfl, _, _, rfl, rfl, _, rfl, _, _, rfl, rfl, ?_⟩
      have m1 : CMul 2 (b + 1) := .inl ⟨by decide, by decide⟩
      have m2 : CMul (c + 1) (48611 + 2 * (b + 1)) := .inr ⟨by omega, by omega⟩
      have m3 : CMul 1299709 (b + 1) := .inl ⟨by decide, by decide⟩
      have m4 : CMul (1299709 * (b + 1)) (b + 1) := .inr ⟨by omega, by omega⟩
      have q1 : ((c + 1) * (48611 + 2 * (b + 1))).natAbs < 2 ^ (82 + 64) := wide_lt (nab (by omega) (by omega)) (nab (by omega) (by omega))
      have q2 : (1299709 * (b + 1) * (b + 1)).natAbs < 2 ^ (100 + 64) := wide_lt (nab (by omega) (by omega)) (nab (by omega) (by omega))
      have q3 : ((c + 1) * (48611 + 2 * (b + 1)) + 1299709 * (b + 1) * (b + 1)).natAbs < 2 ^ 200 := by
        have e1 : (2 : Nat) ^ (82 + 64) = 89202980794122492566142873090593446023921664 := by decide
        have e2 : (2 : Nat) ^ (100 + 64) = 23384026197294446691258957323460528314494920687616 := by decide
        have e3 : (2 : Nat) ^ 200 = 1606938044258990275541962092341162602522202993782792835301376 := by decide
        rw [e1] at q1
        rw [e2] at q2
        rw [e3]
        omega
      have m5 : CMulW ((c + 1) * (48611 + 2 * (b + 1)) + 1299709 * (b + 1) * (b + 1)) ((c + 1) * (48611 + 2 * (b + 1)) + 1299709 * (b + 1) * (b + 1)) := wide_mul q3 q3 (by decide) (by decide) (by decide)
      refine ⟨m1, _, _, rfl, rfl, _, _, rfl, rfl, m2, _, rfl, _, _, rfl, rfl, m3, _, rfl, _, _, rfl, rfl, m4, _, _, rfl, rfl, ?_⟩
      refine ⟨_, rfl, _, rfl, _, _, rfl, rfl, m5, .inl ⟨_, rfl, _, _, rfl, rfl, (show (0 : Int) < 2305843009213693951 by decide), _, _, rfl, rfl, .inr ⟨by decide, by decide⟩, ?_⟩⟩
      refine ⟨_, rfl, .inl ⟨_, rfl, _, _, rfl, rfl, (show (0 : Int) < 1000000000000000003 by decide), _, _, rfl, rfl, ⟨by decide, by decide⟩, .inl ⟨_, rfl, _, rfl, _, _, rfl, rfl, n0, ?_⟩⟩⟩

      exact q _ a (b + 1) (Int.emod_nonneg _ (by omega)) (Int.emod_lt_of_pos _ n0) a0 (by omega) (Int.le_refl _)
end
end TW
set_option Elab.async false
set_option linter.all false
set_option maxRecDepth 100000
set_option maxHeartbeats 4000000
namespace TW
open PySem PySem.Spec PyProof.Rows L2
section
variable {P : Program} {w : World} {K : PySem.W.Frag} {mg : Str → Option Value} {base : Heap}
/-! _law_same, of equal data -/
def isFlat : V → Bool
  | .non => true
  | .bl _ => true
  | .int _ => true
  | .str _ => true
  | _ => false
def Rep : Nat → Hp → V → V → Prop
  | 0, _, x, y => x = y ∧ isFlat x = true
  | n + 1, H, x, y => (x = y ∧ isFlat x = true) ∨ ∃ (a b : Addr) (xs ys : List V), x = .ref a ∧ y = .ref b ∧ ((H a = some (.lst xs) ∧ H b = some (.lst ys)) ∨ (H a = some (.tup xs) ∧ H b = some (.tup ys))) ∧
      xs.length = ys.length ∧ ys.length ≤ 10000 ∧ ∀ (i : Nat) x y, xs[i]? = some x → ys[i]? = some y → Rep n H x y
theorem Rep.mono : ∀ {n : Nat} {H H' : Hp} {x y : V}, Ex H H' → Rep n H x y → Rep n H' x y
  | 0, _, _, _, _, _, h => h
  | n + 1, H, H', x, y, e, h => by
    rcases h with h | ⟨a, b, xs, ys, h1, h2, h3, h4, h5, h6⟩
    · exact .inl h
    · refine .inr ⟨a, b, xs, ys, h1, h2, ?_, h4, h5, fun i x y hx hy => Rep.mono e (h6 i x y hx hy)⟩
      rcases h3 with ⟨p, q⟩ | ⟨p, q⟩
      · exact .inl ⟨e _ _ p, e _ _ q⟩
      · exact .inr ⟨e _ _ p, e _ _ q⟩
theorem Rep.flat {n : Nat} {H : Hp} {x : V} (h : isFlat x = true) : Rep n H x x := by
  cases n with
  | zero => exact ⟨rfl, h⟩
  | succ n => exact .inl ⟨rfl, h⟩
abbrev s_law_same : Stmt := topS 14
theorem sc_law_same : FnScope ["given", "due", "k"] ["given", "due"] (defScope s_law_same) := ⟨rfl, rfl, rfl, by decide +kernel, rfl, by decide +kernel, by decide +kernel⟩
def spSame (n : Nat) : Sp := fun vs H Q _ => ∃ x y : V, vs = [x, y] ∧ Rep n H x y ∧ ∀ H', Ex H H' → Q (.bl true) H'
theorem kit_ll : PySem.W.kitOne K (.type "list") (.type "list") = some true := kit_ty (by decide +kernel)
theorem kit_lt : PySem.W.kitOne K (.type "list") (.type "tuple") = some false := kit_ty (by decide +kernel)
theorem kit_tl : PySem.W.kitOne K (.type "tuple") (.type "list") = some false := kit_ty (by decide +kernel)
theorem kit_tt : PySem.W.kitOne K (.type "tuple") (.type "tuple") = some true := kit_ty (by decide +kernel)
theorem kit_any2 {a : String} {b1 b2 : Bool} (h1 : PySem.W.kitOne K (.type a) (.type "list") = some b1) (h2 : PySem.W.kitOne K (.type a) (.type "tuple") = some b2) : PySem.W.kitAny K (.type a) [.type "list", .type "tuple"] = some (b1 || b2) := by
  unfold PySem.W.kitAny
  rw [h1]
  cases b1 with
  | true => rfl
  | false =>
    unfold PySem.W.kitAny
    rw [h2]
    cases b2 <;> rfl
theorem ok_same_body {f : Addr} {fd : FuncData} (F : Fun K "_law_same" "_law_same" s_law_same f fd) (z : Z mg) (n : Nat) (O_law_same : Ok P w K mg base n "_law_same" ["given", "due"] (match n with | 0 => fun _ _ _ _ => False | m + 1 => spSame m)) : FnOk P w K mg base CX0 (n + 1) f fd ["given", "due"] (spSame n) := by
  refine F.ok sc_law_same (fun vs H Q E h => ?_) (fun cdv A outer s H vs Q E hr h => ?_)
  · obtain ⟨x, y, rfl, _⟩ := h
    rfl
  · obtain ⟨x, y, rfl, hR, q⟩ := h
    refine ⟨_, (pss_cons (ps_if (pt_val (pe_callB call_isiT (by rfl) z.isinstance (by decide +kernel) (pa_cons (pv 1) (pa_cons (pe_tup (pa_cons (pe_tyn (n := "list") (by rfl) z.list (by decide +kernel)) (pa_cons (pe_tyn (n := "tuple") (by rfl) z.tuple (by decide +kernel)) pa_nil))) pa_nil))))
      (pss_cons (ps_if (PW.pt (pw_or (pt_cmpR op_ne (pe_callB call_isi (by rfl) z.isinstance (by decide +kernel) (pa_cons (pv 0) (pa_cons (pe_tyn (n := "list") (by rfl) z.list (by decide +kernel)) pa_nil))) (pe_callB call_isi (by rfl) z.isinstance (by decide +kernel) (pa_cons (pv 1) (pa_cons (pe_tyn (n := "list") (by rfl) z.list (by decide +kernel)) pa_nil))) (nomark _))
          (pw_or1 (pt_cmpR op_ne (pe_callB call_isi (by rfl) z.isinstance (by decide +kernel) (pa_cons (pv 0) (pa_cons (pe_tyn (n := "tuple") (by rfl) z.tuple (by decide +kernel)) pa_nil))) (pe_callB call_isi (by rfl) z.isinstance (by decide +kernel) (pa_cons (pv 1) (pa_cons (pe_tyn (n := "tuple") (by rfl) z.tuple (by decide +kernel)) pa_nil))) (nomark _))))) (pss_one (ps_ret pe_bl)) pss_nil)
      (pss_cons (ps_if (pt_cmpR op_ne (pe_callB call_len_seq (by rfl) z.len PySem.boot_len (pa_cons (pv 0) pa_nil)) (pe_callB call_len_seq (by rfl) z.len PySem.boot_len (pa_cons (pv 1) pa_nil)) (nomark _)) (pss_one (ps_ret pe_bl)) pss_nil)
      (pss_one (ps_ret (pe_callB (cr_all rfl) (by rfl) z.all (by decide +kernel) (pa_cons (pe_lc (own := [("k", 2)]) (g := gName 2) rfl sc_law_same.nd (pi_range1 (by rfl) z.range (pa_cons (pe_callB call_len_seq (by rfl) z.len PySem.boot_len (pa_cons (pv 1) pa_nil)) pa_nil)) (blkOk_by (N := ["given", "due", "k"]) (own := [("k", 2)]) (sc := defScope s_law_same) (by decide +kernel)) (fun _ _ _ _ _ => pg_name (i := 2) sc_law_same.nd rfl (Or.inl rfl)) (fun _ _ _ _ _ => pts_nil) (fun _ _ _ _ _ => (pe_o O_law_same hr (pa_cons (pe_ix (ix_any (K := K)) (pv 0) (pv 2) (fun _ _ => rfl)) (pa_cons (pe_ix (ix_any (K := K)) (pv 1) (pv 2) (fun _ _ => rfl)) pa_nil))))) pa_nil)))))) pss_nil)
      (pss_cons (ps_if (PW.pt (pw_or (pt_val (pe_callB call_isiT (by rfl) z.isinstance (by decide +kernel) (pa_cons (pv 0) (pa_cons (pe_tup (pa_cons (pe_tyn (n := "list") (by rfl) z.list (by decide +kernel)) (pa_cons (pe_tyn (n := "tuple") (by rfl) z.tuple (by decide +kernel)) pa_nil))) pa_nil))))
          (pw_or1 (pt_cmpR op_ne (pe_callB call_isi (by rfl) z.isinstance (by decide +kernel) (pa_cons (pv 0) (pa_cons (pe_tyn (n := "bool") (by rfl) z.bool (by decide +kernel)) pa_nil))) (pe_callB call_isi (by rfl) z.isinstance (by decide +kernel) (pa_cons (pv 1) (pa_cons (pe_tyn (n := "bool") (by rfl) z.bool (by decide +kernel)) pa_nil))) (nomark _))))) (pss_one (ps_ret pe_bl)) pss_nil)
      (pss_cons (ps_if (pt_cmpR op_isN (pv 1) pe_non (nomark _)) (pss_one (ps_ret (pe_cmpR op_isN (pv 0) pe_non (nomark _)))) pss_nil)
      (pss_one (ps_ret (pe_cmpR op_eq (pv 0) (pv 1) (nomark _))))))), ?_⟩
    have hcase : (x = y ∧ isFlat x = true) ∨ ∃ m, n = m + 1 ∧ ∃ (a b : Addr) (xs ys : List V), x = .ref a ∧ y = .ref b ∧ ((H a = some (.lst xs) ∧ H b = some (.lst ys)) ∨ (H a = some (.tup xs) ∧ H b = some (.tup ys))) ∧
      xs.length = ys.length ∧ ys.length ≤ 10000 ∧ ∀ (i : Nat) x y, xs[i]? = some x → ys[i]? = some y → Rep m H x y := by
      cases n with
      | zero => exact .inl hR
      | succ m =>
        rcases hR with h | h
        · exact .inl h
        · exact .inr ⟨m, rfl, h⟩
    have s2 : [V.ty "list", V.ty "tuple"].length ≤ sizeLine := sz (by show 2 ≤ 100000; decide)
    have pr : Paired ClsV [V.ty "list", V.ty "tuple"] [.type "list", .type "tuple"] := .cons (.ty _) (.cons (.ty _) .nil)
    rcases hcase with ⟨rfl, hf⟩ | ⟨m, rfl, a, b, xs, ys, rfl, rfl, h3, h4, h5, h6⟩
    · obtain ⟨T, kb, ty, kl, kt, hb⟩ : ∃ T kb, (∀ H', TyX K H' x (.type T)) ∧ PySem.W.kitOne K (.type T) (.type "list") = some false ∧ PySem.W.kitOne K (.type T) (.type "tuple") = some false ∧ PySem.W.kitOne K (.type T) (.type "bool") = some kb := by
        cases x with
        | non => exact ⟨"NoneType", false, fun _ => .base .non, kit_ty (by decide +kernel), kit_ty (by decide +kernel), kit_ty (by decide +kernel)⟩
        | bl v => exact ⟨"bool", true, fun _ => .base (.bl v), kit_ty (by decide +kernel), kit_ty (by decide +kernel), kit_ty (by decide +kernel)⟩
        | int v => exact ⟨"int", false, fun _ => .base (.int v), kit_ty (by decide +kernel), kit_ty (by decide +kernel), kit_ty (by decide +kernel)⟩
        | str v => exact ⟨"str", false, fun _ => .base (.str v), kit_ty (by decide +kernel), kit_ty (by decide +kernel), kit_ty (by decide +kernel)⟩
        | byt v => exact absurd (show false = true from hf) Bool.false_ne_true
        | flt v => exact absurd (show false = true from hf) Bool.false_ne_true
        | ref v => exact absurd (show false = true from hf) Bool.false_ne_true
        | ty v => exact absurd (show false = true from hf) Bool.false_ne_true
      refine ⟨_, rfl, s2, fun tp htp => ⟨x, tp, _, _, _, false, rfl, upd_same, pr, ty _, kit_any2 kl kt, _, rfl, ?_⟩⟩
      refine ⟨_, rfl, s2, fun tp2 htp2 => ⟨x, tp2, _, _, _, false, rfl, upd_same, pr, ty _, kit_any2 kl kt, _, rfl, ?_⟩⟩
      have ex2 : Ex H (upd (upd H tp (.tup [V.ty "list", V.ty "tuple"])) tp2 (.tup [V.ty "list", V.ty "tuple"])) := (Evl.Ex.new htp).trans (Evl.Ex.new htp2)
      refine ⟨_, rfl, x, _, _, _, kb, rfl, .ty _, ty _, hb, _, rfl, x, _, _, _, kb, rfl, .ty _, ty _, hb, rfl, _, rfl, ?_⟩
      rw [decide_eq_true (rfl : V.bl kb = V.bl kb)]
      refine ⟨_, rfl, rfl, _, rfl, ?_⟩
      refine ite2 (fun hn => ?_) (fun hn => ?_)
      · refine ⟨_, rfl, rfl, ?_⟩
        rw [hn]
        exact q _ ex2
      · refine ⟨_, rfl, _, rfl, ?_, ?_⟩
        · cases x with
          | non => rfl
          | bl v => rfl
          | int v => rfl
          | str v => rfl
          | byt v => exact absurd (show false = true from hf) Bool.false_ne_true
          | flt v => exact absurd (show false = true from hf) Bool.false_ne_true
          | ref v => exact absurd (show false = true from hf) Bool.false_ne_true
          | ty v => exact absurd (show false = true from hf) Bool.false_ne_true
        · rw [decide_eq_true (rfl : x = x)]
          exact q _ ex2
    · obtain ⟨T, kb, tb, tya, tyb, kl, kt, hlen, hia, hib⟩ : ∃ T kb tb, (∀ H', Ex H H' → TyX K H' (.ref a) (.type T)) ∧ (∀ H', Ex H H' → TyX K H' (.ref b) (.type T)) ∧ PySem.W.kitOne K (.type T) (.type "list") = some kb ∧ PySem.W.kitOne K (.type T) (.type "tuple") = some tb ∧ (kb || tb) = true ∧
          (∀ H', Ex H H' → SqL K H' a xs ∨ SqT K H' a xs) ∧ (∀ H', Ex H H' → SqL K H' b ys ∨ SqT K H' b ys) := by
        rcases h3 with ⟨ha, hb⟩ | ⟨ha, hb⟩
        · exact ⟨"list", true, false, fun H' e => .base (.lst (e _ _ ha)), fun H' e => .base (.lst (e _ _ hb)), kit_ll, kit_lt, rfl, fun H' e => .inl (Evl.sq_of (e _ _ ha)), fun H' e => .inl (Evl.sq_of (e _ _ hb))⟩
        · exact ⟨"tuple", false, true, fun H' e => .base (.tup (e _ _ ha)), fun H' e => .base (.tup (e _ _ hb)), kit_tl, kit_tt, rfl, fun H' e => .inr (Evl.st_of (e _ _ ha)), fun H' e => .inr (Evl.st_of (e _ _ hb))⟩
      refine ⟨_, rfl, s2, fun tp htp => ⟨_, tp, _, _, _, _, rfl, upd_same, pr, tyb _ (Evl.Ex.new htp), kit_any2 kl kt, _, rfl, ?_⟩⟩
      rw [hlen]
      have e1 : Ex H (upd H tp (.tup [V.ty "list", V.ty "tuple"])) := Evl.Ex.new htp
      refine ⟨_, rfl, _, _, _, _, kb, rfl, .ty _, tya _ e1, kl, _, rfl, _, _, _, _, kb, rfl, .ty _, tyb _ e1, kl, rfl, _, rfl, ?_⟩
      rw [decide_eq_true (rfl : V.bl kb = V.bl kb)]
      refine ⟨_, rfl, _, _, _, _, tb, rfl, .ty _, tya _ e1, kt, _, rfl, _, _, _, _, tb, rfl, .ty _, tyb _ e1, kt, rfl, _, rfl, ?_⟩
      rw [decide_eq_true (rfl : V.bl tb = V.bl tb)]
      refine ⟨_, rfl, a, xs, rfl, hia _ e1, _, rfl, b, ys, rfl, hib _ e1, rfl, _, rfl, ?_⟩
      rw [h4, decide_eq_true (rfl : V.int ((ys.length : Nat) : Int) = V.int ((ys.length : Nat) : Int))]
      refine ⟨_, rfl, b, ys, rfl, hib _ e1, ((ys.length : Nat) : Int), rfl, by omega, by omega, fun Dl hD => ?_⟩
      have en : ((ys.length : Nat) : Int).toNat = ys.length := by omega
      rw [en]
      refine lc_range (lo := 0) (n := ys.length) (fun i H' => Ex H H' ∧ H' Dl = some (.lst ((List.replicate i true).map V.bl))) ⟨e1.trans (Evl.Ex.new hD), by rw [upd_same]; rfl⟩ ?_ ?_
      · rintro i H2 hi ⟨e2, hL⟩
        have nD : H Dl = none := Evl.fresh_back e1 hD
        have i1 : i < xs.length := by omega
        have gx : xs[i]? = some xs[i] := List.getElem?_eq_getElem i1
        have gy : ys[i]? = some ys[i] := List.getElem?_eq_getElem hi
        have ez : (0 : Int) + (i : Int) = (i : Int) := Int.zero_add _
        rw [ez]
        have tail : ∀ H3, Ex H2 H3 → ∃ acc, H3 Dl = some (.lst acc) ∧ acc.length < sizeLine ∧ (Ex H (upd H3 Dl (.lst (acc ++ [V.bl true]))) ∧ (upd H3 Dl (.lst (acc ++ [V.bl true]))) Dl = some (.lst ((List.replicate (i + 1) true).map V.bl))) := fun H3 e3 => by
          refine ⟨_, e3 _ _ hL, szl ?_, Evl.Ex.mut (e2.trans e3) nD, ?_⟩
          · rw [List.length_map, List.length_replicate]
            omega
          · rw [upd_same, List.replicate_succ', List.map_append]
            rfl
        refine ⟨rfl, _, rfl, _, rfl, ?_⟩
        have step2 : ∀ x', x' = xs[i] → ∀ y', y' = ys[i] → spSame m [x', y'] H2 (fun y H4 => ∃ acc, H4 Dl = some (.lst acc) ∧ acc.length < sizeLine ∧ (Ex H (upd H4 Dl (.lst (acc ++ [y]))) ∧ (upd H4 Dl (.lst (acc ++ [y]))) Dl = some (.lst ((List.replicate (i + 1) true).map V.bl)))) E0 := fun x' ex y' ey =>
          ⟨x', y', rfl, Rep.mono e2 (ex ▸ ey ▸ h6 i _ _ gx gy), fun H3 e3 => tail H3 e3⟩
        have ixy : ∀ (R : V → Hp → Prop), R ys[i] H2 → rIxA K (.ref b) (.int (i : Int)) H2 R := fun R hR2 => by
          rcases hib H2 e2 with hb | hb
          · exact .inl ⟨b, ys, _, _, rfl, rfl, hb, atI_nat gy, hR2⟩
          · exact .inr ⟨b, ys, _, _, rfl, rfl, hb, atI_nat gy, hR2⟩
        have ixx : ∀ (R : V → Hp → Prop), R xs[i] H2 → rIxA K (.ref a) (.int (i : Int)) H2 R := fun R hR2 => by
          rcases hia H2 e2 with hb | hb
          · exact .inl ⟨a, xs, _, _, rfl, rfl, hb, atI_nat gx, hR2⟩
          · exact .inr ⟨a, xs, _, _, rfl, rfl, hb, atI_nat gx, hR2⟩
        refine ixx _ ?_
        refine ⟨_, rfl, _, rfl, ?_⟩
        refine ixy _ ?_
        exact step2 _ rfl _ rfl
      · rintro H2 ⟨e2, hL⟩
        refine ⟨Dl, _, rfl, Evl.sq_of hL, ?_⟩
        have ea : (List.replicate ys.length true).all id = true := by simp
        rw [ea]
        exact q H2 e2
theorem FnOk.never {CX : CXT} {f : Addr} {fd : FuncData} {ps : List Str} : FnOk P w K mg base CX 0 f fd ps (fun _ _ _ _ => False) := ⟨fun _ _ _ _ h => h.elim, fun _ _ _ _ _ _ _ _ _ _ _ _ _ h => h.elim⟩
theorem ok_same (D : Dfn K mg "_law_same" s_law_same ["given", "due"]) (z : Z mg) : ∀ n, Ok P w K mg base (n + 1) "_law_same" ["given", "due"] (spSame n) := by
  obtain ⟨f, fd, F, g, b⟩ := D
  have body := fun n h => ok_same_body (P := P) (w := w) (base := base) F z n ⟨f, fd, h, g, F.kp, b⟩
  have all : ∀ n, FnOk P w K mg base CX0 (n + 1) f fd ["given", "due"] (spSame n) := by
    intro n
    induction n with
    | zero => exact body 0 FnOk.never
    | succ m ih => exact body (m + 1) ih
  exact fun n => ⟨f, fd, all n, g, F.kp, b⟩
end
end TW
set_option Elab.async false
set_option linter.all false
set_option maxRecDepth 100000
set_option maxHeartbeats 4000000
namespace TW
open PySem PySem.Spec PyProof.Rows L2
/-! ascending lists -/
def Up (ns : List Int) : Prop := ns.Pairwise (· < ·)
theorem asc_up : ∀ {ns : List Int}, asc ns = true → Up ns
  | [], _ => List.Pairwise.nil
  | [x], _ => List.pairwise_singleton _ _
  | x :: y :: r, h => by
    have h' : (decide (x < y) && asc (y :: r)) = true := h
    rw [Bool.and_eq_true] at h'
    have ih := asc_up h'.2
    have hxy : x < y := of_decide_eq_true h'.1
    refine List.pairwise_cons.mpr ⟨fun z hz => ?_, ih⟩
    rcases List.mem_cons.mp hz with e | e
    · omega
    · have := (List.pairwise_cons.mp ih).1 z e
      omega
theorem up_asc : ∀ {ns : List Int}, Up ns → asc ns = true
  | [], _ => rfl
  | [x], _ => rfl
  | x :: y :: r, h => by
    obtain ⟨h1, h2⟩ := List.pairwise_cons.mp h
    show (decide (x < y) && asc (y :: r)) = true
    rw [up_asc h2, decide_eq_true (h1 y List.mem_cons_self)]
    rfl
theorem up_nodup {ns : List Int} (h : Up ns) : ns.Nodup := h.imp fun {a b} (c : a < b) => by
  intro e
  omega
theorem up_ext : ∀ {xs ys : List Int}, Up xs → Up ys → (∀ z, z ∈ xs ↔ z ∈ ys) → xs = ys
  | [], [], _, _, _ => rfl
  | [], y :: r, _, _, h => absurd ((h y).mpr List.mem_cons_self) List.not_mem_nil
  | x :: r, [], _, _, h => absurd ((h x).mp List.mem_cons_self) List.not_mem_nil
  | x :: r, y :: s, hx, hy, h => by
    obtain ⟨a1, a2⟩ := List.pairwise_cons.mp hx
    obtain ⟨b1, b2⟩ := List.pairwise_cons.mp hy
    have e : x = y := by
      rcases List.mem_cons.mp ((h x).mp List.mem_cons_self) with q | q
      · exact q
      · rcases List.mem_cons.mp ((h y).mpr List.mem_cons_self) with p | p
        · exact p.symm
        · have c1 := a1 y p
          have c2 := b1 x q
          omega
    subst e
    rw [up_ext a2 b2 fun z => ⟨fun hz => ?_, fun hz => ?_⟩]
    · rcases List.mem_cons.mp ((h z).mp (List.mem_cons_of_mem _ hz)) with q | q
      · have := a1 z hz
        omega
      · exact q
    · rcases List.mem_cons.mp ((h z).mpr (List.mem_cons_of_mem _ hz)) with q | q
      · have := b1 z hz
        omega
      · exact q
theorem up_of_le {ns : List Int} (h : ns.Pairwise (· ≤ ·)) (d : ns.Nodup) : Up ns := by
  refine List.Pairwise.imp₂ (fun a b (x : a ≤ b) (y : a ≠ b) => ?_) h d
  show a < b
  omega
def lotOk (ns : List Int) : Prop := Up ns ∧ (∀ z ∈ ns, 0 ≤ z) ∧ ns.length ≤ 1000
theorem isLot_of {ns : List Int} (h : lotOk ns) : isLot ns none = true := by
  unfold isLot
  rw [up_asc h.1, Bool.and_true, List.all_eq_true]
  intro z hz
  rw [decide_eq_true (h.2.1 z hz)]
  rfl
theorem inV_int (x : Int) (ns : List Int) : inV (.int x) (ns.map V.int) = decide (x ∈ ns) := by
  unfold inV
  rw [List.any_map]
  rw [Bool.eq_iff_iff, List.any_eq_true, decide_eq_true_eq]
  constructor
  · rintro ⟨y, hy, e⟩
    have e' : (y == x) = true := e
    rw [← eq_of_beq e']
    exact hy
  · intro h
    exact ⟨x, h, (show (x == x) = true from beq_self_eq_true x)⟩
theorem flat_ints (ns : List Int) : (ns.map V.int).all flatV = true := by
  rw [List.all_map]
  exact List.all_eq_true.mpr fun _ _ => rfl
theorem map_get {ns : List Int} {i : Nat} {x : V} (hi : (ns.map V.int)[i]? = some x) : ∃ n, ns[i]? = some n ∧ x = V.int n := by
  rw [List.getElem?_map] at hi
  cases e : ns[i]? with
  | none => rw [e] at hi; cases hi
  | some n => rw [e] at hi; exact ⟨n, rfl, (Option.some.inj hi).symm⟩
/-- the things that two of three lots have -/
def IsMid (a b c m : List Int) : Prop := Up m ∧ ∀ x, x ∈ m ↔ (x ∈ a ∧ (x ∈ b ∨ x ∈ c)) ∨ (x ∈ b ∧ x ∈ c)
theorem mid_of {a b c r : List Int} (ua : Up a) (ub : Up b) (hp : r.Perm (a.filter (fun x => decide (x ∈ b) || decide (x ∈ c)) ++ b.filter (fun x => decide (x ∈ c) && !decide (x ∈ a)))) (hs : r.Pairwise (· ≤ ·)) : IsMid a b c r := by
  have nd : (a.filter (fun x => decide (x ∈ b) || decide (x ∈ c)) ++ b.filter (fun x => decide (x ∈ c) && !decide (x ∈ a))).Nodup := by
    refine List.nodup_append.mpr ⟨(up_nodup ua).filter _, (up_nodup ub).filter _, fun x hx y hy e => ?_⟩
    subst e
    have h1 := (List.mem_filter.mp hx).1
    have h2 := (List.mem_filter.mp hy).2
    rw [Bool.and_eq_true] at h2
    rw [decide_eq_true h1] at h2
    exact absurd h2.2 (by decide)
  refine ⟨up_of_le hs (hp.nodup_iff.mpr nd), fun x => ?_⟩
  rw [hp.mem_iff, List.mem_append, List.mem_filter, List.mem_filter, Bool.or_eq_true, Bool.and_eq_true]
  simp only [decide_eq_true_eq, Bool.not_eq_true', decide_eq_false_iff_not]
  by_cases x ∈ a <;> by_cases x ∈ b <;> by_cases x ∈ c <;> simp_all
theorem filt_yes {α : Type} {f : α → Bool} {l : List α} {i : Nat} {n : α} (hn : l[i]? = some n) (hf : f n = true) : (l.take (i + 1)).filter f = (l.take i).filter f ++ [n] := by
  rw [take_snoc hn, List.filter_append, List.filter_cons, if_pos hf]
  rfl
theorem filt_no {α : Type} {f : α → Bool} {l : List α} {i : Nat} {n : α} (hn : l[i]? = some n) (hf : f n = false) : (l.take (i + 1)).filter f = (l.take i).filter f := by
  rw [take_snoc hn, List.filter_append, List.filter_cons, if_neg (by rw [hf]; decide)]
  exact List.append_nil _
theorem filt_len {α : Type} (f : α → Bool) (l : List α) (i : Nat) : ((l.take i).filter f).length ≤ l.length :=
  Nat.le_trans (List.length_filter_le _ _) (by rw [List.length_take]; omega)
section
variable {P : Program} {w : World} {K : PySem.W.Frag} {mg : Str → Option Value} {base : Heap}
abbrev s_middle : Stmt := topS 10
theorem sc_middle : FnScope ["lot", "other_lot", "third_lot", "with_first", "without_first", "thing"] ["lot", "other_lot", "third_lot"] (defScope s_middle) := ⟨rfl, rfl, rfl, by decide +kernel, rfl, by decide +kernel, by decide +kernel⟩
def spMiddle (K : PySem.W.Frag) : Sp := fun vs H Q _ => ∃ (a b c : Addr) (xs ys zs : List Int), vs = [.ref a, .ref b, .ref c] ∧ SqT K H a (xs.map V.int) ∧ SqT K H b (ys.map V.int) ∧ SqT K H c (zs.map V.int) ∧ lotOk xs ∧ lotOk ys ∧ lotOk zs ∧
  ∀ (p : Addr) (H' : Hp) (m : List Int), H p = none → Ex H H' → H' p = some (.tup (m.map V.int)) → IsMid xs ys zs m → Q (.ref p) H'
theorem fn_middle {f : Addr} {fd : FuncData} (F : Fun K "middle" "middle" s_middle f fd) (z : Z mg) (O_check_lot : Ok P w K mg base 4 "check_lot" ["lot", "things"] (spCheckLot K)) : FnOk P w K mg base CX0 5 f fd ["lot", "other_lot", "third_lot"] (spMiddle K) := by
  refine F.ok sc_middle (fun vs H Q E h => ?_) (fun cdv A outer s H vs Q E hr h => ?_)
  · obtain ⟨a, b, c, xs, ys, zs, rfl, _⟩ := h
    rfl
  · obtain ⟨a, b, c, xs, ys, zs, rfl, hx, hy, hz, lx, ly, lz, q⟩ := h
    refine ⟨_, (pss_cons (ps_expr (pe_o O_check_lot hr (pa_cons (pv 0) (pa_cons pe_non pa_nil))))
      (pss_cons (ps_expr (pe_o O_check_lot hr (pa_cons (pv 1) (pa_cons pe_non pa_nil))))
      (pss_cons (ps_expr (pe_o O_check_lot hr (pa_cons (pv 2) (pa_cons pe_non pa_nil))))
      (pss_cons (ps_setLc (i := 3) (own := [("thing", 5)]) (g := gName 5) rfl sc_middle.nd rfl rfl (sw_true rfl rfl rfl (by decide +kernel)) (pi_tup (pv 0)) (blkOk_by (N := ["lot", "other_lot", "third_lot", "with_first", "without_first", "thing"]) (own := [("thing", 5)]) (sc := defScope s_middle) (by decide +kernel)) (fun _ _ _ _ _ => pg_name (i := 5) sc_middle.nd rfl (Or.inl rfl)) (fun _ _ _ _ _ => pts_one (PW.pt (pw_or (pt_cmpR (op_inK (K := K)) (pv 5) (pv 1) (by rfl)) (pw_or1 (pt_cmpR (op_inK (K := K)) (pv 5) (pv 2) (by rfl)))))) (fun _ _ _ _ _ => (pv 5)))
      (pss_cons (ps_setLc (i := 4) (own := [("thing", 5)]) (g := gName 5) rfl sc_middle.nd rfl rfl (sw_true rfl rfl rfl (by decide +kernel)) (pi_tup (pv 1)) (blkOk_by (N := ["lot", "other_lot", "third_lot", "with_first", "without_first", "thing"]) (own := [("thing", 5)]) (sc := defScope s_middle) (by decide +kernel)) (fun _ _ _ _ _ => pg_name (i := 5) sc_middle.nd rfl (Or.inl rfl)) (fun _ _ _ _ _ => pts_one (PW.pt (pw_and (pt_cmpR (op_inK (K := K)) (pv 5) (pv 2) (by rfl)) (pw_and1 (pt_cmpR (op_notInK (K := K)) (pv 5) (pv 0) (by rfl)))))) (fun _ _ _ _ _ => (pv 5)))
      (pss_one (ps_ret (pe_callTy call_tuple_of (by rfl) z.tuple (by decide +kernel) (pa_cons (pe_callB cr_sortedI (by rfl) z.sorted (by decide +kernel) (pa_cons (pe_op op_cat (pv 3) (pv 4)) pa_nil)) pa_nil))))))))), ?_⟩
    refine ⟨_, rfl, a, xs, none, rfl, hx, lx.2.2, isLot_of lx, fun H1 e1 => ?_⟩
    refine ⟨_, rfl, b, ys, none, rfl, Evl.ex_t e1 hy, ly.2.2, isLot_of ly, fun H2 e2 => ?_⟩
    have e12 := e1.trans e2
    refine ⟨_, rfl, c, zs, none, rfl, Evl.ex_t e12 hz, lz.2.2, isLot_of lz, fun H3 e3 => ?_⟩
    have e13 := e12.trans e3
    refine ⟨_, rfl, a, rfl, ⟨_, Evl.ex_t e13 hx⟩, fun D1 nD1 => ?_⟩
    refine lc_tup (K := K) (xs := xs.map V.int) (fun i H' => Ex H3 H' ∧ H' D1 = some (.lst (((xs.take i).filter (fun x => decide (x ∈ ys) || decide (x ∈ zs))).map V.int))) ⟨Evl.Ex.new nD1, by rw [upd_same]; rfl⟩ (fun i H' _ p => Evl.ex_t (e13.trans p.1) hx) ?_ ?_
    · rintro i x H4 hi ⟨e4, h4⟩
      obtain ⟨n, hn, rfl⟩ := map_get hi
      refine ⟨rfl, ?_⟩
      refine ⟨_, rfl, _, rfl, b, ys.map V.int, rfl, .inr (Evl.ex_t (e13.trans e4) hy), rfl, flat_ints _, _, rfl, ?_⟩
      rw [inV_int]
      have yes : (decide (n ∈ ys) || decide (n ∈ zs)) = true → ∀ H5, Ex H4 H5 → ∃ acc, H5 D1 = some (.lst acc) ∧ acc.length < sizeLine ∧ (Ex H3 (upd H5 D1 (.lst (acc ++ [.int n]))) ∧ (upd H5 D1 (.lst (acc ++ [.int n]))) D1 = some (.lst (((xs.take (i + 1)).filter (fun x => decide (x ∈ ys) || decide (x ∈ zs))).map V.int))) := fun hf H5 e5 => by
        refine ⟨_, e5 _ _ h4, szl ?_, Evl.Ex.mut (e4.trans e5) nD1, ?_⟩
        · have := filt_len (fun x => decide (x ∈ ys) || decide (x ∈ zs)) xs i
          have := lx.2.2
          rw [List.length_map]
          omega
        · rw [upd_same, filt_yes (f := fun x => decide (x ∈ ys) || decide (x ∈ zs)) hn hf, List.map_append]
          rfl
      cases hb : decide (n ∈ ys) with
      | true => exact ⟨_, rfl, yes (by rw [hb]; rfl) H4 (Evl.Ex.refl H4)⟩
      | false =>
        refine ⟨_, rfl, _, rfl, c, zs.map V.int, rfl, .inr (Evl.ex_t (e13.trans e4) hz), rfl, flat_ints _, _, rfl, ?_⟩
        rw [inV_int]
        cases hc : decide (n ∈ zs) with
        | true => exact ⟨_, rfl, yes (by rw [hb, hc]; rfl) H4 (Evl.Ex.refl H4)⟩
        | false => exact ⟨e4, by rw [filt_no (f := fun x => decide (x ∈ ys) || decide (x ∈ zs)) hn (by rw [hb, hc]; rfl)]; exact h4⟩
    · rintro H4 ⟨e4, h4⟩
      rw [List.length_map, List.take_length] at h4
      have e14 := e13.trans e4
      refine ⟨_, rfl, b, rfl, ⟨_, Evl.ex_t e14 hy⟩, fun D2 nD2 => ?_⟩
      have n12 : D1 ≠ D2 := ne_of_none h4 nD2
      refine lc_tup (K := K) (xs := ys.map V.int) (fun i H' => Ex H4 H' ∧ H' D2 = some (.lst (((ys.take i).filter (fun x => decide (x ∈ zs) && !decide (x ∈ xs))).map V.int))) ⟨Evl.Ex.new nD2, by rw [upd_same]; rfl⟩ (fun i H' _ p => Evl.ex_t (e14.trans p.1) hy) ?_ ?_
      · rintro i x H5 hi ⟨e5, h5⟩
        obtain ⟨n, hn, rfl⟩ := map_get hi
        refine ⟨rfl, ?_⟩
        refine ⟨_, rfl, _, rfl, c, zs.map V.int, rfl, .inr (Evl.ex_t (e14.trans e5) hz), rfl, flat_ints _, _, rfl, ?_⟩
        rw [inV_int]
        have no : (decide (n ∈ zs) && !decide (n ∈ xs)) = false → ∀ H6, Ex H5 H6 → (Ex H4 H6 ∧ H6 D2 = some (.lst (((ys.take (i + 1)).filter (fun x => decide (x ∈ zs) && !decide (x ∈ xs))).map V.int))) := fun hf H6 e6 =>
          ⟨e5.trans e6, by rw [filt_no (f := fun x => decide (x ∈ zs) && !decide (x ∈ xs)) hn hf]; exact e6 _ _ h5⟩
        cases hc : decide (n ∈ zs) with
        | false => exact no (by rw [hc]; rfl) H5 (Evl.Ex.refl H5)
        | true =>
          refine ⟨_, rfl, _, rfl, a, xs.map V.int, rfl, .inr (Evl.ex_t (e14.trans e5) hx), rfl, flat_ints _, _, rfl, ?_⟩
          rw [inV_int]
          cases ha : decide (n ∈ xs) with
          | true => exact no (by rw [hc, ha]; rfl) H5 (Evl.Ex.refl H5)
          | false =>
            refine ⟨_, rfl, _, h5, szl ?_, Evl.Ex.mut e5 nD2, ?_⟩
            · have := filt_len (fun x => decide (x ∈ zs) && !decide (x ∈ xs)) ys i
              have := ly.2.2
              rw [List.length_map]
              omega
            · rw [upd_same, filt_yes (f := fun x => decide (x ∈ zs) && !decide (x ∈ xs)) hn (by rw [hc, ha]; rfl), List.map_append]
              rfl
      · rintro H5 ⟨e5, h5⟩
        rw [List.length_map, List.take_length] at h5
        have f1 := List.length_filter_le (fun x => decide (x ∈ ys) || decide (x ∈ zs)) xs
        have f2 := List.length_filter_le (fun x => decide (x ∈ zs) && !decide (x ∈ xs)) ys
        have l1 := lx.2.2
        have l2 := ly.2.2
        refine ⟨_, rfl, _, rfl, D1, D2, _, _, rfl, rfl, e5 _ _ h4, h5, sz (by rw [List.length_map, List.length_map]; omega), fun p np => ?_⟩
        rw [← List.map_append]
        refine ⟨p, _, rfl, Evl.sq_of upd_same, fun r p2 hp hs np2 => ?_⟩
        refine ⟨p2, _, rfl, .inl ⟨Evl.sq_of upd_same, fun p3 np3 => ?_⟩⟩
        exact q p3 _ r (Evl.fresh_back (((e14.trans e5).trans (Evl.Ex.new np)).trans (Evl.Ex.new np2)) np3) ((((e14.trans e5).trans (Evl.Ex.new np)).trans (Evl.Ex.new np2)).trans (Evl.Ex.new np3)) upd_same (mid_of lx.1 ly.1 hp hs)
theorem ok_middle (D : Dfn K mg "middle" s_middle ["lot", "other_lot", "third_lot"]) (z : Z mg) (O_check_lot : Ok P w K mg base 4 "check_lot" ["lot", "things"] (spCheckLot K)) : Ok P w K mg base 5 "middle" ["lot", "other_lot", "third_lot"] (spMiddle K) := D.ok fun f fd F => fn_middle F z O_check_lot
end
end TW
set_option Elab.async false
set_option linter.all false
set_option maxRecDepth 100000
set_option maxHeartbeats 4000000
namespace TW
open PySem PySem.Spec PyProof.Rows L2
/-! calls by keywords alone -/
def OkKw (P : Program) (w : World) (K : PySem.W.Frag) (mg : Str → Option Value) (base : Heap) (k : Nat) (x : Str) (ps ks : List Str) (g : List Value → List Value → List Value) (gV : List V → List V → List V) (sp : Sp) : Prop :=
  ∃ (f : Addr) (fd : FuncData), FnOk P w K mg base CX0 k f fd ps sp ∧ mg x = some (.ref f) ∧ PySem.W.keepIn K (.ref f) = true ∧ KBinds K fd ps ks g gV
def tKw (sp : Sp) (gV : List V → List V → List V) (tk : TA) : TE := fun σ H Q => tk σ H fun zs H2 => sp (gV [] zs) H2 Q E0
theorem pe_kw0 {X : Cx} {k : Nat} {x : Str} {ps ks : List Str} {g : List Value → List Value → List Value} {gV : List V → List V → List V} {sp : Sp} {kws : List Keyword} {tk : TA} {p pos : Pos} (O : OkKw X.prog X.w X.K X.mg X.base k x ps ks g gV sp) (hr : Room k X.A) (hkw : PK X kws tk) (hg : Gl X x := by rfl)
    (hall : (backToKw pos (keywordEach kws X.env)).all (·.1.isSome) = true := by rfl) (hks : (backToKw pos (keywordEach kws X.env)).filterMap (·.1) = ks := by rfl) (hdb : (x == ("__debug__" : Str)) = false := by decide)
    (hpl : ((backTo pos (starEach [] X.env)).any (·.1) || (backToKw pos (keywordEach kws X.env)).any (·.1.isNone)) = false := by rfl) : PE X (.Call (.Name x p) [] kws pos) (tKw sp gV tk) := by
  obtain ⟨f, fd, F, gm, kp, b⟩ := O
  refine ⟨fun pins s σ H Q I h => wpAny_Call_Name_kw (ld_glob I hg gm ?_ hdb)⟩
  refine PySem.W.callWith_KW0 (h₀ := X.base) I.ok.mod.kin kp hall (thn (hkw.run pos pins s σ H _ I h) fun ws s2 h2 => ?_) hpl
  obtain ⟨zs, H2, I2, rz, q2⟩ := h2
  refine ⟨I2.kIn, ?_⟩
  rw [hks]
  exact run_fnk (us := []) (vs := []) F hr b pass0 I2 .nil rz q2
/-- third, first, second -/
def g3 {α : Type} : List α → List α → List α
  | [], [t, l, o] => [l, o, t]
  | _, _ => []
theorem g3_rel {vs : List V} {us : List Value} {zs : List V} {ws : List Value} (h1 : Vals vs us) (h2 : Vals zs ws) : Vals (g3 vs zs) (g3 us ws) := by
  cases h1 with
  | cons a b =>
    exact .nil
  | nil =>
    cases h2 with
    | nil => exact .nil
    | cons a b =>
      cases b with
      | nil => exact .nil
      | cons c d =>
        cases d with
        | nil => exact .nil
        | cons e f =>
          cases f with
          | nil => exact .cons c (.cons e (.cons a .nil))
          | cons g h => exact .nil
section
variable {P : Program} {w : World} {K : PySem.W.Frag} {mg : Str → Option Value} {base : Heap}
theorem kw_middle (D : Dfn K mg "middle" s_middle ["lot", "other_lot", "third_lot"]) (O : ∀ f fd, Fun K "middle" "middle" s_middle f fd → FnOk P w K mg base CX0 5 f fd ["lot", "other_lot", "third_lot"] (spMiddle K)) : OkKw P w K mg base 5 "middle" ["lot", "other_lot", "third_lot"] ["third_lot", "lot", "other_lot"] g3 g3 (spMiddle K) := by
  obtain ⟨f, fd, F, g, b⟩ := D
  refine ⟨f, fd, O f fd F, g, F.kp, ⟨fun s us ws _ hl => ?_, g3_rel⟩⟩
  obtain ⟨oc, od, kV, doc, pm, an, cdv, ct, osl, rfl, lk, hcd⟩ := F.ex
  refine .of_eq ?_
  match us, ws, hl with
  | [], [t, l, o], _ => rfl
end
theorem set_same {α : Type} {l : List α} {j : Nat} {x : α} (h : l[j]? = some x) : l.set j x = l := by
  refine List.ext_getElem? fun i => ?_
  by_cases e : j = i
  · subst e
    rw [List.getElem?_set_self (List.getElem?_eq_some_iff.mp h).1, h]
  · rw [List.getElem?_set_ne e]
/-- if m: xs.append(k), both ways at once -/
theorem if_app {K : PySem.W.Frag} {D : Ends} {σ : L2.St} {H0 H : Hp} {l : List (Addr × HO)} {j sl sk : Nat} {o : Addr} {L : List Int} {k : Int} (m : Bool) (hs : σ[sl]? = some (some (.ref o))) (hk : σ[sk]? = some (some (.int k))) (T : Has H0 H l) (hj : l[j]? = some (o, .lst (L.map V.int)))
    (hz : L.length < 100000) (go : ∀ H', Has H0 H' (l.set j (o, .lst ((if m = true then L ++ [k] else L).map V.int))) → D.nx σ H') : if m = true then tDrop (tBM K "list" rAppend (tVar sl) (tCons (tVar sk) tNil)) D σ H else tNext D σ H := by
  cases m with
  | true =>
    refine ⟨_, hs, .inl ⟨rfl, _, Evl.sq_of (T.get j hj)⟩, _, hk, o, _, _, rfl, rfl, T.get j hj, szl (by rw [List.length_map]; exact hz), ?_⟩
    refine go _ ?_
    rw [if_pos rfl, List.map_append]
    exact T.set j hj
  | false =>
    refine go H ?_
    rw [if_neg (by decide), set_same hj]
    exact T
theorem rep_tup {n : Nat} {H : Hp} {t u : Addr} {m : List Int} (h : H t = some (.tup (m.map V.int))) (h' : H u = some (.tup (m.map V.int))) (hl : m.length ≤ 10000) : Rep (n + 1) H (.ref t) (.ref u) := by
  refine .inr ⟨t, u, _, _, rfl, rfl, .inr ⟨h, h'⟩, rfl, by rw [List.length_map]; exact hl, fun i x y hx hy => ?_⟩
  obtain ⟨v, hv, rfl⟩ := map_get hx
  rw [hx] at hy
  obtain rfl := Option.some.inj hy
  exact Rep.flat rfl
theorem mid_same {a b c m r : List Int} (h : IsMid a b c m) (ur : Up r) (e : ∀ v, v ∈ r ↔ (v ∈ a ∧ (v ∈ b ∨ v ∈ c)) ∨ (v ∈ b ∧ v ∈ c)) : m = r := up_ext h.1 ur fun v => (h.2 v).trans (e v).symm
/-! the drawn lots -/
inductive Split : List Int → List Int → List Int → List Int → List Int → Prop
  | nil : Split [] [] [] [] []
  | snoc {pre a b c d : List Int} (k : Int) (m1 m2 m3 : Bool) (h : Split pre a b c d) : Split (pre ++ [k]) (if m1 then a ++ [k] else a) (if m2 then b ++ [k] else b) (if m3 then c ++ [k] else c) (if (m1 && (m2 || m3)) || (m2 && m3) then d ++ [k] else d)
theorem Split.subs {pre a b c d : List Int} (h : Split pre a b c d) : a.Sublist pre ∧ b.Sublist pre ∧ c.Sublist pre ∧ d.Sublist pre := by
  induction h with
  | nil => exact ⟨.slnil, .slnil, .slnil, .slnil⟩
  | @snoc pre a b c d k m1 m2 m3 _ ih =>
    have one : ∀ {x : List Int} (m : Bool), x.Sublist pre → (if m = true then x ++ [k] else x).Sublist (pre ++ [k]) := fun {x} m hs => by
      cases m with
      | true => exact List.Sublist.append hs (List.Sublist.refl _)
      | false => exact hs.trans (List.sublist_append_left _ _)
    exact ⟨one m1 ih.1, one m2 ih.2.1, one m3 ih.2.2.1, one _ ih.2.2.2⟩
theorem mem_ifsnoc {x k : Int} {l : List Int} {m : Bool} : x ∈ (if m = true then l ++ [k] else l) ↔ x ∈ l ∨ (m = true ∧ x = k) := by
  cases m with
  | true => simp
  | false => simp
theorem Split.mid {pre a b c d : List Int} (h : Split pre a b c d) (u : pre.Nodup) : ∀ x, x ∈ d ↔ (x ∈ a ∧ (x ∈ b ∨ x ∈ c)) ∨ (x ∈ b ∧ x ∈ c) := by
  induction h with
  | nil => intro x; simp
  | @snoc pre a b c d k m1 m2 m3 hs ih =>
    have nk : k ∉ pre := fun z => by
      have := (List.nodup_append.mp u).2.2 k z k (List.mem_singleton.mpr rfl)
      exact this rfl
    have un : pre.Nodup := (List.nodup_append.mp u).1
    obtain ⟨s1, s2, s3, s4⟩ := hs.subs
    intro x
    rw [mem_ifsnoc, mem_ifsnoc, mem_ifsnoc, mem_ifsnoc, ih un x]
    by_cases e : x = k
    · subst e
      have na : x ∉ a := fun z => nk (s1.subset z)
      have nb : x ∉ b := fun z => nk (s2.subset z)
      have nc : x ∉ c := fun z => nk (s3.subset z)
      cases m1 <;> cases m2 <;> cases m3 <;> simp [na, nb, nc]
    · simp [e]
theorem up_sub {xs ys : List Int} (s : xs.Sublist ys) (u : Up ys) : Up xs := List.Pairwise.sublist s u
theorem mid_comm {a b c m : List Int} (h : IsMid a b c m) {m' : List Int} {x y z : List Int} (h' : IsMid x y z m') (e : ∀ v, ((v ∈ a ∧ (v ∈ b ∨ v ∈ c)) ∨ (v ∈ b ∧ v ∈ c)) ↔ ((v ∈ x ∧ (v ∈ y ∨ v ∈ z)) ∨ (v ∈ y ∧ v ∈ z))) : m = m' :=
  up_ext h.1 h'.1 fun v => (h.2 v).trans ((e v).trans (h'.2 v).symm)
theorem bits8 {r : Int} (h0 : 0 ≤ r) (h8 : r < 8) : inV (.int r) [.int 3, .int 5, .int 6, .int 7] = ((decide (V.int (Builtin.bitAnd r 1) = V.int 1) && (decide (V.int (Builtin.bitAnd r 2) = V.int 2) || decide (V.int (Builtin.bitAnd r 4) = V.int 4))) || (decide (V.int (Builtin.bitAnd r 2) = V.int 2) && decide (V.int (Builtin.bitAnd r 4) = V.int 4))) := by
  have : r = 0 ∨ r = 1 ∨ r = 2 ∨ r = 3 ∨ r = 4 ∨ r = 5 ∨ r = 6 ∨ r = 7 := by omega
  rcases this with rfl | rfl | rfl | rfl | rfl | rfl | rfl | rfl <;> decide +kernel
end TW
set_option Elab.async false
set_option linter.all false
set_option maxRecDepth 100000
set_option maxHeartbeats 4000000
namespace TW
open PySem PySem.Spec PyProof.Rows L2
section
variable {P : Program} {w : World} {K : PySem.W.Frag} {mg : Str → Option Value} {base : Heap}
abbrev s_law : Stmt := topS 15
theorem sc_law : FnScope ["script", "great", "cell", "well", "pool", "k", "ones", "twos", "threes", "due", "mask", "a", "b", "c", "answers"] ["script"] (defScope s_law) := ⟨rfl, rfl, rfl, by decide +kernel, rfl, by decide +kernel, by decide +kernel⟩

theorem cut_ints (xs : List Int) (lo hi : Option Int) : ∃ ms : List Int, cutV (xs.map V.int) lo hi = ms.map V.int ∧ ms.length ≤ xs.length := by
  have e : cutV (xs.map V.int) lo hi = ((xs.drop (HT.sIx (xs.map V.int).length 0 lo)).take (HT.sIx (xs.map V.int).length (xs.map V.int).length hi - HT.sIx (xs.map V.int).length 0 lo)).map V.int := by
    unfold cutV
    rw [List.map_take, List.map_drop]
  refine ⟨_, e, ?_⟩
  rw [List.length_take, List.length_drop]
  omega
def spLaw (K : PySem.W.Frag) : Sp := fun vs H Q _ => ∃ (a : Addr) (ns : List Int), vs = [.ref a] ∧ SqL K H a (ns.map V.int) ∧ ns.length ≤ 63 ∧ ∀ H', Q (.bl true) H'
theorem ok_law {f : Addr} {fd : FuncData} (F : Fun K "law" "law" s_law f fd) (z : Z mg) (O_draws : Ok P w K mg base 1 "_law_draws_of" ["cell"] spDraws) (O_dip : Ok P w K mg base 1 "_law_dip" ["well", "upto"] spDip)
    (O_middle : Ok P w K mg base 5 "middle" ["lot", "other_lot", "third_lot"] (spMiddle K)) (KW_middle : OkKw P w K mg base 5 "middle" ["lot", "other_lot", "third_lot"] ["third_lot", "lot", "other_lot"] g3 g3 (spMiddle K))
    (O_same : ∀ n, Ok P w K mg base (n + 1) "_law_same" ["given", "due"] (spSame n)) : FnOk P w K mg base CX0 10 f fd ["script"] (spLaw K) := by
  refine F.ok sc_law (fun vs H Q E h => ?_) (fun cdv A outer s H vs Q E hr h => ?_)
  · obtain ⟨a, ns, rfl, _⟩ := h
    rfl
  · obtain ⟨a, ns, rfl, hS, hlen, q⟩ := h
    refine ⟨_, (pss_cons (ps_set (i := 1) sc_law.nd rfl (Or.inl rfl) pe_int)
      (pss_cons (ps_for PassesOwn.never rfl (pi_list (pe_op op_cat (pe_lst (pa_cons (pv 1) pa_nil)) (pe_slice sl_list (pv 0) po_none (po_some pe_int)))) (pg_name (i := 2) sc_law.nd rfl (Or.inl rfl))
      (pss_cons (ps_set (i := 3) sc_law.nd rfl (Or.inl rfl) (pe_o O_draws (hr.mono (by decide)) (pa_cons (pv 2) pa_nil)))
      (pss_cons (ps_setLc (i := 4) (own := [("k", 5)]) (g := gName 5) rfl sc_law.nd rfl rfl (sw_true rfl rfl rfl (by decide +kernel)) (pi_range1 (by rfl) z.range (pa_cons (pe_o O_dip (hr.mono (by decide)) (pa_cons (pv 3) (pa_cons pe_int pa_nil))) pa_nil)) (blkOk_by (N := ["script", "great", "cell", "well", "pool", "k", "ones", "twos", "threes", "due", "mask", "a", "b", "c", "answers"]) (own := [("k", 5)]) (sc := defScope s_law) (by decide +kernel)) (fun _ _ _ _ _ => pg_name (i := 5) sc_law.nd rfl (Or.inl rfl)) (fun _ _ _ _ _ => pts_nil) (fun _ _ _ _ _ => (pv 5)))
      (pss_cons (ps_for PassesOwn.never rfl (pi_range1 (by rfl) z.range (pa_cons (pe_o O_dip (hr.mono (by decide)) (pa_cons (pv 3) (pa_cons pe_int pa_nil))) pa_nil)) (pg_name (i := 5) sc_law.nd rfl (Or.inl rfl))
      (pss_one (ps_expr (pe_bm PySem.F.plainAttrs_list PySem.F.slot_list_append PySem.F.type_list_append mt_append (pv 4) (pa_cons (pe_o O_dip (hr.mono (by decide)) (pa_cons (pv 3) (pa_cons (pe_ix ix_list (pe_lst (pa_cons pe_int (pa_cons pe_int (pa_cons (pe_op op_pow pe_int pe_int) (pa_cons (pe_op op_pow pe_int pe_int) (pa_cons (pe_op op_pow pe_int pe_int) pa_nil)))))) (pe_o O_dip (hr.mono (by decide)) (pa_cons (pv 3) (pa_cons pe_int pa_nil))) (fun _ _ => rfl)) pa_nil))) pa_nil)))))
      (pss_cons (ps_set (i := 4) sc_law.nd rfl (Or.inl rfl) (pe_callB (cr_sortedSetK (w := w) rfl) (by rfl) z.sorted (by decide +kernel) (pa_cons (pe_callTy (cr_setK (K := K) (w := w) rfl) (by rfl) z.set (by decide +kernel) (pa_cons (pv 4) pa_nil)) pa_nil)))
      (pss_cons (ps_set (i := 6) sc_law.nd rfl (Or.inl rfl) (pe_lst pa_nil))
      (pss_cons (ps_set (i := 7) sc_law.nd rfl (Or.inl rfl) (pe_lst pa_nil))
      (pss_cons (ps_set (i := 8) sc_law.nd rfl (Or.inl rfl) (pe_lst pa_nil))
      (pss_cons (ps_set (i := 9) sc_law.nd rfl (Or.inr rfl) (pe_lst pa_nil))
      (pss_cons (ps_for PassesOwn.never rfl (pi_list (pv 4)) (pg_name (i := 5) sc_law.nd rfl (Or.inl rfl))
      (pss_cons (ps_set (i := 10) sc_law.nd rfl (Or.inl rfl) (pe_o O_dip (hr.mono (by decide)) (pa_cons (pv 3) (pa_cons pe_int pa_nil))))
      (pss_cons (ps_if (pt_cmpR op_eq (pe_op op_and (pv 10) pe_int) pe_int (nomark _)) (pss_one (ps_expr (pe_bm PySem.F.plainAttrs_list PySem.F.slot_list_append PySem.F.type_list_append mt_append (pv 6) (pa_cons (pv 5) pa_nil)))) pss_nil)
      (pss_cons (ps_if (pt_cmpR op_eq (pe_op op_and (pv 10) pe_int) pe_int (nomark _)) (pss_one (ps_expr (pe_bm PySem.F.plainAttrs_list PySem.F.slot_list_append PySem.F.type_list_append mt_append (pv 7) (pa_cons (pv 5) pa_nil)))) pss_nil)
      (pss_cons (ps_if (pt_cmpR op_eq (pe_op op_and (pv 10) pe_int) pe_int (nomark _)) (pss_one (ps_expr (pe_bm PySem.F.plainAttrs_list PySem.F.slot_list_append PySem.F.type_list_append mt_append (pv 8) (pa_cons (pv 5) pa_nil)))) pss_nil)
      (pss_one (ps_if (pt_cmpR op_in_seq (pv 10) (pe_lst (pa_cons pe_int (pa_cons pe_int (pa_cons pe_int (pa_cons pe_int pa_nil))))) (by rfl)) (pss_one (ps_expr (pe_bm PySem.F.plainAttrs_list PySem.F.slot_list_append PySem.F.type_list_append mt_append (pv 9) (pa_cons (pv 5) pa_nil)))) pss_nil)))))))
      (pss_cons (ps_set (i := 11) sc_law.nd rfl (Or.inl rfl) (pe_callTy (call_tupleK (K := K)) (by rfl) z.tuple (by decide +kernel) (pa_cons (pv 6) pa_nil)))
      (pss_cons (ps_set (i := 12) sc_law.nd rfl (Or.inl rfl) (pe_callTy (call_tupleK (K := K)) (by rfl) z.tuple (by decide +kernel) (pa_cons (pv 7) pa_nil)))
      (pss_cons (ps_set (i := 13) sc_law.nd rfl (Or.inl rfl) (pe_callTy (call_tupleK (K := K)) (by rfl) z.tuple (by decide +kernel) (pa_cons (pv 8) pa_nil)))
      (pss_cons (ps_set (i := 14) sc_law.nd rfl (Or.inl rfl) (pe_lst (pa_cons (pe_o O_middle (hr.mono (by decide)) (pa_cons (pv 11) (pa_cons (pv 12) (pa_cons (pv 13) pa_nil)))) (pa_cons (pe_o O_middle (hr.mono (by decide)) (pa_cons (pv 13) (pa_cons (pv 11) (pa_cons (pv 12) pa_nil)))) (pa_cons (pe_o O_middle (hr.mono (by decide)) (pa_cons (pv 12) (pa_cons (pv 13) (pa_cons (pv 11) pa_nil)))) (pa_cons (pe_o O_middle (hr.mono (by decide)) (pa_cons (pv 12) (pa_cons (pv 11) (pa_cons (pv 13) pa_nil)))) (pa_cons (pe_o O_middle (hr.mono (by decide)) (pa_cons (pv 11) (pa_cons (pv 13) (pa_cons (pv 12) pa_nil)))) pa_nil)))))))
      (pss_cons (ps_expr (pe_bm PySem.F.plainAttrs_list PySem.F.slot_list_append PySem.F.type_list_append mt_append (pv 14) (pa_cons (pe_kw0 KW_middle (hr.mono (by decide)) (pk_cons (pv 11) (pk_cons (pv 13) (pk_cons (pv 12) pk_nil)))) pa_nil)))
      (pss_cons (ps_if (pt_not (pt_val (pe_o (O_same 2) (hr.mono (by decide)) (pa_cons (pv 14) (pa_cons (pe_lc (own := [("k", 5)]) (g := gName 5) rfl sc_law.nd (pi_range1 (by rfl) z.range (pa_cons pe_int pa_nil)) (blkOk_by (N := ["script", "great", "cell", "well", "pool", "k", "ones", "twos", "threes", "due", "mask", "a", "b", "c", "answers"]) (own := [("k", 5)]) (sc := defScope s_law) (by decide +kernel)) (fun _ _ _ _ _ => pg_name (i := 5) sc_law.nd rfl (Or.inl rfl)) (fun _ _ _ _ _ => pts_nil) (fun _ _ _ _ _ => (pe_callTy (call_tupleK (K := K)) (by rfl) z.tuple (by decide +kernel) (pa_cons (pv 9) pa_nil)))) pa_nil))))) (pss_one (ps_ret pe_bl)) pss_nil)
      (pss_one (ps_if (pt_not (pt_val (pe_o (O_same 2) (hr.mono (by decide)) (pa_cons (pe_lst (pa_cons (pe_o O_middle (hr.mono (by decide)) (pa_cons (pv 11) (pa_cons (pv 11) (pa_cons (pv 13) pa_nil)))) (pa_cons (pe_o O_middle (hr.mono (by decide)) (pa_cons (pv 12) (pa_cons (pv 13) (pa_cons (pv 12) pa_nil)))) (pa_cons (pe_o O_middle (hr.mono (by decide)) (pa_cons (pv 11) (pa_cons (pv 13) (pa_cons (pv 13) pa_nil)))) pa_nil)))) (pa_cons (pe_lst (pa_cons (pv 11) (pa_cons (pv 12) (pa_cons (pv 13) pa_nil)))) pa_nil))))) (pss_one (ps_ret pe_bl)) pss_nil))))))))))))))))))
      (pss_one (ps_ret pe_bl)))), ?_⟩
    generalize (532987656908178785100024952297691013459910497302476614039835399064559454294728582084585767307402 : Int) = great
    have s0 : Ex H H := Evl.Ex.refl H
    refine ⟨_, rfl, sz (by show 1 ≤ 100000; decide), fun p1 np1 => ?_⟩
    obtain ⟨ms, hms, lms⟩ := cut_ints ns none (some 20)
    refine ⟨.ref a, rfl, 20, rfl, a, ns.map V.int, rfl, Evl.ex_l (Evl.Ex.new np1) hS, fun p2 np2 => ?_⟩
    rw [hms]
    have n12 : p1 ≠ p2 := ne_of_none upd_same np2
    refine ⟨p1, p2, [.int great], ms.map V.int, rfl, rfl, by rw [upd_ne n12, upd_same], upd_same, sz (by rw [List.length_map]; show 1 + ms.length ≤ 100000; omega), fun p3 np3 => ?_⟩
    have ex0 : Ex H (upd (upd (upd H p1 (.lst [.int great])) p2 (.lst (ms.map V.int))) p3 (.lst ([.int great] ++ ms.map V.int))) := ((Evl.Ex.new np1).trans (Evl.Ex.new np2)).trans (Evl.Ex.new np3)
    generalize hH1 : upd (upd (upd H p1 (.lst [.int great])) p2 (.lst (ms.map V.int))) p3 (.lst ([.int great] ++ ms.map V.int)) = H1 at ex0
    have h3 : H1 p3 = some (.lst ((great :: ms).map V.int)) := by
      rw [← hH1, upd_same]
      rfl
    refine ⟨p3, rfl, ⟨_, Evl.sq_of h3⟩, for_list (K := K) (a := p3) (xs := (great :: ms).map V.int) (fun i σ H' => Ex H1 H' ∧ ∃ v2 v3 v4 v5 v6 v7 v8 v9 v10 v11 v12 v13 v14 : Option V, σ = [some (.ref a), some (.int great), v2, v3, v4, v5, v6, v7, v8, v9, v10, v11, v12, v13, v14])
      ⟨Evl.Ex.refl H1, none, none, none, none, none, none, none, none, none, none, none, none, none, rfl⟩ (fun i σ H' _ p => Evl.ex_l p.1 (Evl.sq_of h3)) ?_ ?_⟩
    · rintro i x σ H2 hi ⟨e2, v2, v3, v4, v5, v6, v7, v8, v9, v10, v11, v12, v13, v14, rfl⟩
      obtain ⟨cell, _, rfl⟩ := map_get hi
      -- well = _law_draws_of(cell)
      refine ⟨_, rfl, cell, rfl, fun wp nwp a0 c0 ha0 hc0 hc1 => ?_⟩
      have S1 : Has H2 (upd H2 wp (wl a0 0 c0)) [(wp, wl a0 0 c0)] := Has.nil.new nwp
      generalize upd H2 wp (wl a0 0 c0) = H3 at S1
      -- pool = [k for k in range(_law_dip(well, 4))]
      refine ⟨_, rfl, wp, 4, a0, 0, c0, rfl, S1.get 0 rfl, by decide, by decide, ha0, by decide, by decide, hc0, hc1, fun r a1 b1 hr0 hr4 ha1 hb1 hb1' => ?_⟩
      have S2 : Has H2 _ [(wp, wl a1 b1 c0)] := S1.set 0 rfl
      generalize upd H3 wp (wl a1 b1 c0) = H4 at S2
      refine ⟨r, rfl, by omega, by omega, fun pp npp => ?_⟩
      refine lc_range (lo := 0) (n := r.toNat) (fun i H' => ∃ ks : List Int, Has H2 H' [(pp, .lst (ks.map V.int)), (wp, wl a1 b1 c0)] ∧ ks.length = i ∧ ∀ z ∈ ks, 0 ≤ z) ⟨[], S2.new npp, rfl, fun z hz => absurd hz List.not_mem_nil⟩ ?_ ?_
      · rintro i H5 hi5 ⟨ks, S3, lk, pk⟩
        refine ⟨rfl, _, rfl, _, S3.get 0 rfl, szl (by rw [List.length_map]; omega), ks ++ [0 + (i : Int)], ?_, by rw [List.length_append, List.length_singleton, lk], fun z hz => ?_⟩
        · have := S3.set (o' := .lst (ks.map V.int ++ [V.int (0 + (i : Int))])) 0 rfl
          rw [List.map_append]
          exact this
        · rcases List.mem_append.mp hz with h | h
          · exact pk z h
          · rw [List.mem_singleton.mp h]
            omega
      · rintro H5 ⟨ks, S3, lk, pk⟩
        -- for k in range(_law_dip(well, 7)): pool.append(..)
        refine ⟨_, rfl, wp, 7, a1, b1, c0, rfl, S3.get 1 rfl, by decide, by decide, ha1, hb1, by omega, hc0, hc1, fun r2 a2 b2 hr20 hr27 ha2 hb2 hb2' => ?_⟩
        have S4 : Has H2 _ [(pp, .lst (ks.map V.int)), (wp, wl a2 b2 c0)] := S3.set 1 rfl
        generalize upd H5 wp (wl a2 b2 c0) = H6 at S4
        refine ⟨r2, rfl, by omega, by omega, ?_⟩
        refine for_range (lo := 0) (n := r2.toNat) (fun i σ H' => ∃ (v5 : Option V) (ks : List Int) (a' b' : Int), σ = [some (.ref a), some (.int great), some (.int cell), some (.ref wp), some (.ref pp), v5, v6, v7, v8, v9, v10, v11, v12, v13, v14] ∧
          Has H2 H' [(pp, .lst (ks.map V.int)), (wp, wl a' b' c0)] ∧ ks.length ≤ 4 + i ∧ (∀ z ∈ ks, 0 ≤ z) ∧ 0 ≤ a' ∧ 0 ≤ b' ∧ b' ≤ 2 + 2 * (i : Int)) ⟨v5, ks, a2, b2, rfl, S4, by omega, pk, ha2, by omega, by omega⟩ ?_ ?_
        · rintro i σ H7 hi7 ⟨v5', ks', a3, b3, rfl, S5, lk', pk', ha3, hb3, hb3'⟩
          refine ⟨_, rfl, .inl ⟨rfl, _, Evl.sq_of (S5.get 0 rfl)⟩, ?_⟩
          -- the table of sizes, a dip for its place
          have p5 : CPow 10 5 := ⟨by decide, by decide, by decide⟩
          have p12 : CPow 10 12 := ⟨by decide, by decide, by decide⟩
          have p40 : CPow 10 40 := ⟨by decide, by decide, by decide⟩
          refine ⟨_, rfl, _, _, rfl, rfl, p5, _, _, rfl, rfl, p12, _, _, rfl, rfl, p40, sz (by show 5 ≤ 100000; decide), fun tp ntp => ?_⟩
          have S6 := S5.new (o := .lst [.int 10, .int 100, .int (10 ^ Int.toNat 5), .int (10 ^ Int.toNat 12), .int (10 ^ Int.toNat 40)]) ntp
          generalize upd H7 tp (.lst [.int 10, .int 100, .int (10 ^ Int.toNat 5), .int (10 ^ Int.toNat 12), .int (10 ^ Int.toNat 40)]) = H8 at S6
          refine ⟨_, rfl, wp, 5, a3, b3, c0, rfl, S6.get 2 rfl, by decide, by decide, ha3, hb3, by omega, hc0, hc1, fun r3 a4 b4 hr30 hr35 ha4 hb4 hb4' => ?_⟩
          have S7 : Has H2 _ [(tp, _), (pp, .lst (ks'.map V.int)), (wp, wl a4 b4 c0)] := S6.set 2 rfl
          generalize upd H8 wp (wl a4 b4 c0) = H9 at S7
          obtain ⟨up, hup, up0, up1⟩ : ∃ up : Int, atI [V.int 10, V.int 100, V.int (10 ^ Int.toNat 5), V.int (10 ^ Int.toNat 12), V.int (10 ^ Int.toNat 40)] r3 = some (.int up) ∧ 0 < up ∧ up < 2 ^ 200 := by
            have : r3 = 0 ∨ r3 = 1 ∨ r3 = 2 ∨ r3 = 3 ∨ r3 = 4 := by omega
            rcases this with rfl | rfl | rfl | rfl | rfl
            · exact ⟨_, rfl, by decide, by decide⟩
            · exact ⟨_, rfl, by decide, by decide⟩
            · exact ⟨_, rfl, by decide, by decide⟩
            · exact ⟨_, rfl, by decide, by decide⟩
            · exact ⟨_, rfl, by decide, by decide⟩
          refine ⟨tp, _, r3, .int up, rfl, rfl, Evl.sq_of (S7.get 0 rfl), hup, ?_⟩
          refine ⟨wp, up, a4, b4, c0, rfl, S7.get 2 rfl, up0, up1, ha4, by omega, by omega, hc0, hc1, fun r4 a5 b5 hr40 hr41 ha5 hb5 hb5' => ?_⟩
          have S8 : Has H2 _ [(tp, _), (pp, .lst (ks'.map V.int)), (wp, wl a5 b5 c0)] := S7.set 2 rfl
          generalize upd H9 wp (wl a5 b5 c0) = H10 at S8
          refine ⟨pp, _, .int r4, rfl, rfl, S8.get 1 rfl, szl (by rw [List.length_map]; omega), ?_⟩
          have S9 : Has H2 _ [(pp, .lst (ks'.map V.int ++ [V.int r4])), (wp, wl a5 b5 c0)] := (S8.set 1 rfl).tail
          refine ⟨_, ks' ++ [r4], a5, b5, rfl, ?_, by rw [List.length_append, List.length_singleton]; omega, fun z hz => ?_, ha5, by omega, by omega⟩
          · rw [List.map_append]
            exact S9
          · rcases List.mem_append.mp hz with h | h
            · exact pk' z h
            · rw [List.mem_singleton.mp h]
              exact hr40
        · rintro σ H7 ⟨v5', ks', a3, b3, rfl, S5, lk', pk', ha3, hb3, hb3'⟩
          -- pool = sorted(set(pool))
          refine ⟨_, rfl, pp, ks', rfl, Evl.sq_of (S5.get 0 rfl), by omega, fun sp c nsp hcl => ?_⟩
          have S6 := S5.new (o := SetO w sp (fun j => decide (j ∈ ks')) c) nsp
          refine ⟨sp, _, c, rfl, upd_same, by omega, fun pool pq hup hmem hpl npq => ?_⟩
          have S7 := S6.new (o := .lst (pool.map V.int)) npq
          generalize upd (upd H7 sp (SetO w sp (fun j => decide (j ∈ ks')) c)) pq (.lst (pool.map V.int)) = H8 at S7
          have pos : ∀ z ∈ pool, 0 ≤ z := fun z hz => pk' z (of_decide_eq_true ((hmem z).mp hz))
          have bz : b3 ≤ 100 := by omega
          have S8 : Has H2 H8 [(pq, .lst (pool.map V.int)), (wp, wl a3 b3 c0)] := S7.sub (.cons₂ _ (.cons _ (.cons _ (.cons₂ _ .slnil))))
          -- ones = [] twos = [] threes = [] due = []
          refine ⟨Nat.zero_le _, fun o1 no1 => ?_⟩
          have T1 := S8.new (o := .lst []) no1
          generalize upd H8 o1 (.lst []) = G1 at T1
          refine ⟨Nat.zero_le _, fun o2 no2 => ?_⟩
          have T2 := T1.new (o := .lst []) no2
          generalize upd G1 o2 (.lst []) = G2 at T2
          refine ⟨Nat.zero_le _, fun o3 no3 => ?_⟩
          have T3 := T2.new (o := .lst []) no3
          generalize upd G2 o3 (.lst []) = G3 at T3
          refine ⟨Nat.zero_le _, fun o4 no4 => ?_⟩
          have T4 := T3.new (o := .lst []) no4
          generalize upd G3 o4 (.lst []) = G4 at T4
          have pl64 : pool.length ≤ 100 := by omega
          -- for k in pool
          refine ⟨_, rfl, pq, rfl, ⟨_, Evl.sq_of (T4.get 4 rfl)⟩, for_list (K := K) (a := pq) (xs := pool.map V.int) (fun i σ H' => ∃ (v5 v10 : Option V) (A B C D : List Int) (a' b' : Int), σ = [some (.ref a), some (.int great), some (.int cell), some (.ref wp), some (.ref pq), v5, some (.ref o1), some (.ref o2), some (.ref o3), some (.ref o4), v10, v11, v12, v13, v14] ∧
            Has H2 H' [(o4, .lst (D.map V.int)), (o3, .lst (C.map V.int)), (o2, .lst (B.map V.int)), (o1, .lst (A.map V.int)), (pq, .lst (pool.map V.int)), (wp, wl a' b' c0)] ∧ Split (pool.take i) A B C D ∧ 0 ≤ a' ∧ 0 ≤ b' ∧ b' ≤ 200 + (i : Int)) ⟨v5', v10, [], [], [], [], a3, b3, rfl, T4, .nil, ha3, by omega, by omega⟩ (fun i σ H' _ p => ?_) ?_ ?_⟩
          · obtain ⟨_, _, A, B, C, D, a', b', _, T, _⟩ := p
            exact Evl.sq_of (T.get 4 rfl)
          · rintro i x σ H' hi ⟨v5'', v10', A, B, C, D, a4, b4, rfl, T5, hsp, ha4, hb4, hb4'⟩
            obtain ⟨k, hk, rfl⟩ := map_get hi
            have ik : i < pool.length := (List.getElem?_eq_some_iff.mp hk).1
            -- mask = _law_dip(well, 8)
            refine ⟨_, rfl, wp, 8, a4, b4, c0, rfl, T5.get 5 rfl, by decide, by decide, ha4, hb4, by omega, hc0, hc1, fun m a5 b5 hm0 hm8 ha5 hb5 hb5' => ?_⟩
            have T6 : Has H2 _ [(o4, .lst (D.map V.int)), (o3, .lst (C.map V.int)), (o2, .lst (B.map V.int)), (o1, .lst (A.map V.int)), (pq, .lst (pool.map V.int)), (wp, wl a5 b5 c0)] := T5.set 5 rfl
            generalize upd H' wp (wl a5 b5 c0) = H9 at T6
            obtain ⟨sA, sB, sC, sD⟩ := hsp.subs
            have lp : (pool.take i).length ≤ 100 := by rw [List.length_take]; omega
            have lA := sA.length_le
            have lB := sB.length_le
            have lC := sC.length_le
            have lD := sD.length_le
            generalize hb1e : decide (V.int (Builtin.bitAnd m 1) = V.int 1) = m1
            generalize hb2e : decide (V.int (Builtin.bitAnd m 2) = V.int 2) = m2
            generalize hb3e : decide (V.int (Builtin.bitAnd m 4) = V.int 4) = m3
            have step := Split.snoc k m1 m2 m3 hsp
            rw [← take_snoc hk] at step
            refine ⟨_, rfl, _, _, rfl, rfl, rfl, _, rfl, ?_⟩
            rw [hb1e]
            refine if_app m1 rfl rfl T6 (j := 3) rfl (by omega) fun J1 U1 => ?_
            refine ⟨_, rfl, _, _, rfl, rfl, rfl, _, rfl, ?_⟩
            rw [hb2e]
            refine if_app m2 rfl rfl U1 (j := 2) rfl (by omega) fun J2 U2 => ?_
            refine ⟨_, rfl, _, _, rfl, rfl, rfl, _, rfl, ?_⟩
            rw [hb3e]
            refine if_app m3 rfl rfl U2 (j := 1) rfl (by omega) fun J3 U3 => ?_
            refine ⟨_, rfl, sz (by show 4 ≤ 100000; decide), fun q4 nq4 => ⟨q4, _, rfl, .inl (Evl.sq_of upd_same), rfl, rfl, _, rfl, ?_⟩⟩
            have U4 := U3.new (o := .lst [.int 3, .int 5, .int 6, .int 7]) nq4
            generalize upd J3 q4 (.lst [.int 3, .int 5, .int 6, .int 7]) = J4 at U4
            change (if inV (V.int m) [.int 3, .int 5, .int 6, .int 7] = true then _ else _)
            rw [bits8 hm0 hm8, hb1e, hb2e, hb3e]
            refine if_app _ rfl rfl U4.tail (j := 0) rfl (by omega) fun J5 U5 => ?_
            exact ⟨_, _, _, _, _, _, a5, b5, rfl, U5, step, ha5, by omega, by omega⟩
          · rintro σ H' ⟨v5'', v10', A, B, C, D, a4, b4, rfl, T5, hsp, ha4, hb4, hb4'⟩
            rw [List.length_map, List.take_length] at hsp
            obtain ⟨sA, sB, sC, sD⟩ := hsp.subs
            have okl : ∀ {L : List Int}, L.Sublist pool → lotOk L := fun {L} sl => ⟨up_sub sl hup, fun z hz => pos z (sl.subset hz), by have := sl.length_le; omega⟩
            have lA := okl sA
            have lB := okl sB
            have lC := okl sC
            have mD : IsMid A B C D := ⟨(okl sD).1, hsp.mid (up_nodup hup)⟩
            -- a, b, c
            refine ⟨_, rfl, o1, _, rfl, .inl ⟨Evl.sq_of (T5.get 3 rfl), fun ta nta => ?_⟩⟩
            have X1 := T5.new (o := .tup (A.map V.int)) nta
            generalize upd H' ta (.tup (A.map V.int)) = M1 at X1
            refine ⟨_, rfl, o2, _, rfl, .inl ⟨Evl.sq_of (X1.get 3 rfl), fun tb ntb => ?_⟩⟩
            have X2 := X1.new (o := .tup (B.map V.int)) ntb
            generalize upd M1 tb (.tup (B.map V.int)) = M2 at X2
            refine ⟨_, rfl, o3, _, rfl, .inl ⟨Evl.sq_of (X2.get 3 rfl), fun tc ntc => ?_⟩⟩
            have X3 := X2.new (o := .tup (C.map V.int)) ntc
            generalize upd M2 tc (.tup (C.map V.int)) = M3 at X3
            -- answers
            refine ⟨_, rfl, _, rfl, _, rfl, ta, tb, tc, A, B, C, rfl, Evl.st_of (X3.get 2 rfl), Evl.st_of (X3.get 1 rfl), Evl.st_of (X3.get 0 rfl), lA, lB, lC, fun q1 N1 m1 nq1 eq1 hq1 im1 => ?_⟩
            obtain rfl : m1 = D := mid_comm im1 mD fun v => by by_cases v ∈ A <;> by_cases v ∈ B <;> by_cases v ∈ C <;> simp_all
            have Y1 := X3.newE eq1 nq1 hq1
            refine ⟨_, rfl, _, rfl, _, rfl, tc, ta, tb, C, A, B, rfl, Evl.st_of (Y1.get 1 rfl), Evl.st_of (Y1.get 3 rfl), Evl.st_of (Y1.get 2 rfl), lC, lA, lB, fun q2 N2 m2 nq2 eq2 hq2 im2 => ?_⟩
            obtain rfl : m2 = m1 := mid_comm im2 mD fun v => by by_cases v ∈ A <;> by_cases v ∈ B <;> by_cases v ∈ C <;> simp_all
            have Y2 := Y1.newE eq2 nq2 hq2
            refine ⟨_, rfl, _, rfl, _, rfl, tb, tc, ta, B, C, A, rfl, Evl.st_of (Y2.get 3 rfl), Evl.st_of (Y2.get 2 rfl), Evl.st_of (Y2.get 4 rfl), lB, lC, lA, fun q3 N3 m3 nq3 eq3 hq3 im3 => ?_⟩
            obtain rfl : m3 = m2 := mid_comm im3 mD fun v => by by_cases v ∈ A <;> by_cases v ∈ B <;> by_cases v ∈ C <;> simp_all
            have Y3 := Y2.newE eq3 nq3 hq3
            refine ⟨_, rfl, _, rfl, _, rfl, tb, ta, tc, B, A, C, rfl, Evl.st_of (Y3.get 4 rfl), Evl.st_of (Y3.get 5 rfl), Evl.st_of (Y3.get 3 rfl), lB, lA, lC, fun q4 N4 m4 nq4 eq4 hq4 im4 => ?_⟩
            obtain rfl : m4 = m3 := mid_comm im4 mD fun v => by by_cases v ∈ A <;> by_cases v ∈ B <;> by_cases v ∈ C <;> simp_all
            have Y4 := Y3.newE eq4 nq4 hq4
            refine ⟨_, rfl, _, rfl, _, rfl, ta, tc, tb, A, C, B, rfl, Evl.st_of (Y4.get 6 rfl), Evl.st_of (Y4.get 4 rfl), Evl.st_of (Y4.get 5 rfl), lA, lC, lB, fun q5 N5 m5 nq5 eq5 hq5 im5 => ?_⟩
            obtain rfl : m5 = m4 := mid_comm im5 mD fun v => by by_cases v ∈ A <;> by_cases v ∈ B <;> by_cases v ∈ C <;> simp_all
            have Y5 := Y4.newE eq5 nq5 hq5
            refine ⟨sz (by show 5 ≤ 100000; decide), fun an nan => ?_⟩
            have Y6 := Y5.new (o := .lst [.ref q1, .ref q2, .ref q3, .ref q4, .ref q5]) nan
            generalize upd N5 an (.lst [.ref q1, .ref q2, .ref q3, .ref q4, .ref q5]) = N6 at Y6
            -- answers.append(middle(third_lot=a, lot=c, other_lot=b))
            refine ⟨_, rfl, .inl ⟨rfl, _, Evl.sq_of (Y6.get 0 rfl)⟩, _, rfl, _, rfl, _, rfl, tc, tb, ta, C, B, A, rfl, Evl.st_of (Y6.get 6 rfl), Evl.st_of (Y6.get 7 rfl), Evl.st_of (Y6.get 8 rfl), lC, lB, lA, fun q6 N7 m6 nq6 eq6 hq6 im6 => ?_⟩
            obtain rfl : m6 = m5 := mid_comm im6 mD fun v => by by_cases v ∈ A <;> by_cases v ∈ B <;> by_cases v ∈ C <;> simp_all
            have Y7 := Y6.newE eq6 nq6 hq6
            refine ⟨an, _, .ref q6, rfl, rfl, Y7.get 1 rfl, szl (by show 5 < 100000; decide), ?_⟩
            have Y8 := Y7.set (o' := .lst ([.ref q1, .ref q2, .ref q3, .ref q4, .ref q5] ++ [.ref q6])) 1 rfl
            generalize upd N7 an (.lst ([.ref q1, .ref q2, .ref q3, .ref q4, .ref q5] ++ [.ref q6])) = N8 at Y8
            -- the due ones
            refine ⟨_, rfl, 6, rfl, by decide, by decide, fun dl ndl => ?_⟩
            have lD : m6.length ≤ 1000 := (okl sD).2.2
            refine lc_range (lo := 0) (n := 6) (fun i H'' => Ex N8 H'' ∧ ∃ ts : List Addr, H'' dl = some (.lst (ts.map V.ref)) ∧ ts.length = i ∧ ∀ t ∈ ts, H'' t = some (.tup (m6.map V.int))) ⟨Evl.Ex.new ndl, [], upd_same, rfl, fun t ht => absurd ht List.not_mem_nil⟩ ?_ ?_
            · rintro j L1 hj ⟨eL, ts, hdl, lts, hts⟩
              refine ⟨rfl, _, rfl, o4, _, rfl, .inl ⟨Evl.sq_of (eL _ _ (Y8.get 10 rfl)), fun t nt => ?_⟩⟩
              have nd : dl ≠ t := ne_of_none hdl nt
              refine ⟨_, Eq.trans (upd_ne nd) hdl, szl (by rw [List.length_map]; omega), Evl.Ex.mut (eL.trans (Evl.Ex.new nt)) ndl, ts ++ [t], ?_, by rw [List.length_append, List.length_singleton, lts], fun u hu => ?_⟩
              · rw [upd_same, List.map_append]
                rfl
              · rcases List.mem_append.mp hu with h | h
                · have hn : u ≠ dl := fun z => by
                    have a1 := hts u h
                    rw [z, hdl] at a1
                    cases a1
                  rw [upd_ne hn, upd_ne (ne_of_none (hts u h) nt)]
                  exact hts u h
                · have hn : t ≠ dl := nd.symm
                  rw [List.mem_singleton.mp h, upd_ne hn, upd_same]
            · rintro L1 ⟨eL, ts, hdl, lts, hts⟩
              have Z1 := Y8.go eL
              refine ⟨_, _, rfl, .inr ⟨an, dl, _, _, rfl, rfl, .inl ⟨Z1.get 1 rfl, hdl⟩, by rw [List.length_map, lts]; rfl, by rw [List.length_map]; omega, fun j x y hx hy => ?_⟩, fun L2 e2' => ?_⟩
              · obtain ⟨u, rfl, hu⟩ : ∃ u, y = .ref u ∧ L1 u = some (.tup (m6.map V.int)) := by
                  rw [List.getElem?_map] at hy
                  cases e : ts[j]? with
                  | none => rw [e] at hy; cases hy
                  | some u => rw [e] at hy; exact ⟨u, (Option.some.inj hy).symm, hts u (List.mem_of_getElem? e)⟩
                have gq : ∀ x ∈ ([.ref q1, .ref q2, .ref q3, .ref q4, .ref q5] ++ [.ref q6] : List V), ∃ u, x = .ref u ∧ L1 u = some (.tup (m6.map V.int)) := fun x hx => by
                  simp only [List.mem_append, List.mem_cons, List.not_mem_nil, or_false] at hx
                  rcases hx with (rfl | rfl | rfl | rfl | rfl) | rfl
                  · exact ⟨_, rfl, Z1.get 6 rfl⟩
                  · exact ⟨_, rfl, Z1.get 5 rfl⟩
                  · exact ⟨_, rfl, Z1.get 4 rfl⟩
                  · exact ⟨_, rfl, Z1.get 3 rfl⟩
                  · exact ⟨_, rfl, Z1.get 2 rfl⟩
                  · exact ⟨_, rfl, Z1.get 0 rfl⟩
                obtain ⟨t, rfl, ht⟩ := gq x (List.mem_of_getElem? hx)
                exact rep_tup ht hu (by omega)
              · refine ⟨_, rfl, ?_⟩
                have Z2 := Z1.go e2'
                refine ⟨_, rfl, _, rfl, _, rfl, ta, ta, tc, A, A, C, rfl, Evl.st_of (Z2.get 9 rfl), Evl.st_of (Z2.get 9 rfl), Evl.st_of (Z2.get 7 rfl), lA, lA, lC, fun r1 R1 k1 nr1 er1 hr1 ik1 => ?_⟩
                obtain rfl : k1 = A := mid_same ik1 lA.1 fun v => by by_cases v ∈ A <;> by_cases v ∈ C <;> simp_all
                have W1 := Z2.newE er1 nr1 hr1
                refine ⟨_, rfl, _, rfl, _, rfl, tb, tc, tb, B, C, B, rfl, Evl.st_of (W1.get 9 rfl), Evl.st_of (W1.get 8 rfl), Evl.st_of (W1.get 9 rfl), lB, lC, lB, fun r2' R2 k2 nr2 er2 hr2 ik2 => ?_⟩
                obtain rfl : k2 = B := mid_same ik2 lB.1 fun v => by by_cases v ∈ B <;> by_cases v ∈ C <;> simp_all
                have W2 := W1.newE er2 nr2 hr2
                refine ⟨_, rfl, _, rfl, _, rfl, ta, tc, tc, k1, C, C, rfl, Evl.st_of (W2.get 11 rfl), Evl.st_of (W2.get 9 rfl), Evl.st_of (W2.get 9 rfl), lA, lC, lC, fun r3' R3 k3 nr3 er3 hr3 ik3 => ?_⟩
                obtain rfl : k3 = C := mid_same ik3 lC.1 fun v => by by_cases v ∈ k1 <;> by_cases v ∈ C <;> simp_all
                have W3 := W2.newE er3 nr3 hr3
                refine ⟨sz (by show 3 ≤ 100000; decide), fun g1 ng1 => ?_⟩
                have W4 := W3.new (o := .lst [.ref r1, .ref r2', .ref r3']) ng1
                generalize upd R3 g1 (.lst [.ref r1, .ref r2', .ref r3']) = R4 at W4
                refine ⟨_, rfl, _, rfl, _, rfl, sz (by show 3 ≤ 100000; decide), fun g2 ng2 => ?_⟩
                have W5 := W4.new (o := .lst [.ref ta, .ref tb, .ref tc]) ng2
                generalize upd R4 g2 (.lst [.ref ta, .ref tb, .ref tc]) = R5 at W5
                refine ⟨_, _, rfl, .inr ⟨g1, g2, _, _, rfl, rfl, .inl ⟨W5.get 1 rfl, W5.get 0 rfl⟩, rfl, by show 3 ≤ 10000; decide, fun j x y hx hy => ?_⟩, fun L3 e3' => ?_⟩
                · match j, hx, hy with
                  | 0, hx, hy =>
                    obtain rfl := Option.some.inj hx
                    obtain rfl := Option.some.inj hy
                    exact rep_tup (W5.get 4 rfl) (W5.get 14 rfl) (by have := lA.2.2; omega)
                  | 1, hx, hy =>
                    obtain rfl := Option.some.inj hx
                    obtain rfl := Option.some.inj hy
                    exact rep_tup (W5.get 3 rfl) (W5.get 13 rfl) (by have := lB.2.2; omega)
                  | 2, hx, hy =>
                    obtain rfl := Option.some.inj hx
                    obtain rfl := Option.some.inj hy
                    exact rep_tup (W5.get 2 rfl) (W5.get 12 rfl) (by have := lC.2.2; omega)
                  | (j + 3), hx, hy => cases hx
                · refine ⟨_, rfl, ?_⟩
                  exact ⟨e2.trans (W5.ex.trans e3'), _, _, _, _, _, _, _, _, _, _, _, _, _, rfl⟩
    · rintro σ H2 ⟨e2, v2, v3, v4, v5, v6, v7, v8, v9, v10, v11, v12, v13, v14, rfl⟩
      exact q H2
end
end TW
set_option Elab.async false
set_option linter.all false
set_option maxRecDepth 100000
namespace TW
open PySem PySem.Spec PyProof.Rows L2
theorem z_mk {K : PySem.W.Frag} {mg : Str → Option Value} {h : Heap} (X : K.In h) (G : h.Ns mainGlobals mg)
    (h1 : PySem.W.nsIn K mainGlobals "len" = some none) (h2 : PySem.W.nsIn K mainGlobals "int" = some none) (h3 : PySem.W.nsIn K mainGlobals "all" = some none) (h4 : PySem.W.nsIn K mainGlobals "sorted" = some none) (h5 : PySem.W.nsIn K mainGlobals "tuple" = some none)
    (h6 : PySem.W.nsIn K mainGlobals "list" = some none) (h7 : PySem.W.nsIn K mainGlobals "set" = some none) (h8 : PySem.W.nsIn K mainGlobals "type" = some none) (h9 : PySem.W.nsIn K mainGlobals "isinstance" = some none) (h10 : PySem.W.nsIn K mainGlobals "zip" = some none)
    (h11 : PySem.W.nsIn K mainGlobals "range" = some none) (h12 : PySem.W.nsIn K mainGlobals "bool" = some none) : Z mg :=
  ⟨PySem.W.mg_none_of X G h1, PySem.W.mg_none_of X G h2, PySem.W.mg_none_of X G h3, PySem.W.mg_none_of X G h4, PySem.W.mg_none_of X G h5, PySem.W.mg_none_of X G h6, PySem.W.mg_none_of X G h7, PySem.W.mg_none_of X G h8, PySem.W.mg_none_of X G h9, PySem.W.mg_none_of X G h10, PySem.W.mg_none_of X G h11, PySem.W.mg_none_of X G h12⟩
theorem all_law {l : PySem.W.OpenLaw} {w : World} {K : PySem.W.Frag} {mg : Str → Option Value} {fa : Addr} (hfa : mg "law" = some (.ref fa)) (z : Z mg)
    (d1 : Dfn K mg "is_integer" s_is_integer ["value", "least"]) (d2 : Dfn K mg "is_thing" s_is_thing ["value", "things"]) (d3 : Dfn K mg "is_ascending" s_is_ascending ["values"]) (d4 : Dfn K mg "is_lot" s_is_lot ["value", "things"]) (d5 : Dfn K mg "check_lot" s_check_lot ["lot", "things"])
    (d6 : Dfn K mg "middle" s_middle ["lot", "other_lot", "third_lot"]) (d7 : Dfn K mg "_law_draws_of" s_law_draws_of ["cell"]) (d8 : Dfn K mg "_law_dip" s_law_dip ["well", "upto"]) (d9 : Dfn K mg "_law_same" s_law_same ["given", "due"]) (d10 : Dfn K mg "law" s_law ["script"]) :
    ∃ fd : FuncData, (∀ (s : Shared) (v : Value), BindsTo s fd ⟨[v], []⟩ [("script", v)]) ∧ ∀ base : Heap, K.In base → base.Ns mainGlobals mg → FnOk l.prog w K mg base CX0 10 fa fd ["script"] (spLaw K) := by
  obtain ⟨f, fd, F, g, b⟩ := d10
  have e := hfa.symm.trans g
  cases e
  refine ⟨fd, fun s v => ?_, fun base _ _ => ?_⟩
  · obtain ⟨oc, od, kV, doc, pm, an, cdv, ct, osl, rfl, lk, hcd⟩ := F.ex
    exact .of_eq rfl
  · have O1 := ok_is_integer (P := l.prog) (w := w) (base := base) d1 z
    have O2 := ok_is_thing d2 O1
    have O3 := ok_is_ascending (P := l.prog) (w := w) (base := base) d3 z
    have O4 := ok_is_lot d4 z O2 O3
    have O5 := ok_check_lot d5 O4
    exact ok_law F z (ok_draws d7 z) (ok_dip d8 z) (ok_middle d6 z O5) (kw_middle d6 fun f fd F => fn_middle F z O5) (ok_same d9 z)
end TW
open PySem PySem.W PyProof.Rows
set_option maxHeartbeats 0 in
theorem PySem.Challenge.cw_thingwise_k02_middle_holds : PySem.Challenge.rw_thingwise_k02_middle.Holds := by
  w_on; o_law; k_head; (case hw => w_witness2)
  k_fill
  refine L2.walk_ofB (l := PySem.Challenge.rw_thingwise_k02_middle) (n := 63) (k := 10) (x := "script") (CX := fun _ => L2.CX0) (sp := fun w => TW.spLaw _) rfl (by decide) rfl ⟨rfl, by decide, by decide⟩ (fun w h Y => PySem.W.kIn_of Y) ?F (fun _ _ a ns hl _ _ hS => ⟨a, ns, rfl, hS, hl, fun _ => rfl⟩) (fun _ _ _ _ _ h => h)
  case F =>
    intro w mg fa h KX G hmg
    have z : TW.Z mg := by
      refine' TW.z_mk KX G ?_ ?_ ?_ ?_ ?_ ?_ ?_ ?_ ?_ ?_ ?_ ?_
      all_goals k_is
    refine TW.all_law hmg z ?d1 ?d2 ?d3 ?d4 ?d5 ?d6 ?d7 ?d8 ?d9 ?d10
    case d1 => refine' TW.dfn_mk KX G (fun _ _ _ _ _ _ _ us hl => match us, hl with | [_, _], _ => rfl) ?a ?l ?c ?k; (case a => k_is); (case l => k_is); (case c => k_is); (case k => k_is)
    case d2 => refine' TW.dfn_mk KX G (fun _ _ _ _ _ _ _ us hl => match us, hl with | [_, _], _ => rfl) ?a ?l ?c ?k; (case a => k_is); (case l => k_is); (case c => k_is); (case k => k_is)
    case d3 => refine' TW.dfn_mk KX G (fun _ _ _ _ _ _ _ us hl => match us, hl with | [_], _ => rfl) ?a ?l ?c ?k; (case a => k_is); (case l => k_is); (case c => k_is); (case k => k_is)
    case d4 => refine' TW.dfn_mk KX G (fun _ _ _ _ _ _ _ us hl => match us, hl with | [_, _], _ => rfl) ?a ?l ?c ?k; (case a => k_is); (case l => k_is); (case c => k_is); (case k => k_is)
    case d5 => refine' TW.dfn_mk KX G (fun _ _ _ _ _ _ _ us hl => match us, hl with | [_, _], _ => rfl) ?a ?l ?c ?k; (case a => k_is); (case l => k_is); (case c => k_is); (case k => k_is)
    case d6 => refine' TW.dfn_mk KX G (fun _ _ _ _ _ _ _ us hl => match us, hl with | [_, _, _], _ => rfl) ?a ?l ?c ?k; (case a => k_is); (case l => k_is); (case c => k_is); (case k => k_is)
    case d7 => refine' TW.dfn_mk KX G (fun _ _ _ _ _ _ _ us hl => match us, hl with | [_], _ => rfl) ?a ?l ?c ?k; (case a => k_is); (case l => k_is); (case c => k_is); (case k => k_is)
    case d8 => refine' TW.dfn_mk KX G (fun _ _ _ _ _ _ _ us hl => match us, hl with | [_, _], _ => rfl) ?a ?l ?c ?k; (case a => k_is); (case l => k_is); (case c => k_is); (case k => k_is)
    case d9 => refine' TW.dfn_mk KX G (fun _ _ _ _ _ _ _ us hl => match us, hl with | [_, _], _ => rfl) ?a ?l ?c ?k; (case a => k_is); (case l => k_is); (case c => k_is); (case k => k_is)
    case d10 => refine' TW.dfn_mk KX G (fun _ _ _ _ _ _ _ us hl => match us, hl with | [_], _ => rfl) ?a ?l ?c ?k; (case a => k_is); (case l => k_is); (case c => k_is); (case k => k_is)
